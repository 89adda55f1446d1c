/-
  The texts IrWord, IrOne, IrList, IrDatum, IrRead, Tree, TreeMem, FormMem, FormsSpec, one behind the other.
-/
import Derived.Test.YtnmofolhfbldjaaGreatDoorPkRdList
import Derived.Test.YtnmofolhfbldjaaGreatDoorPkRdStr
import Derived.Test.YtnmofolhfbldjaaGreatDoorIrClone
import Derived.Test.YtnmofolhfbldjaaGreatDoorPkSpecReadNum
import Derived.Defers
import Derived.Recover
import Derived.Test.YtnmofolhfbldjaaGreatDoorPkAppDatum
import Derived.Laws.AppendOwn
import Derived.Test.YtnmofolhfbldjaaGreatDoorPkReadNumA
import Derived.Test.YtnmofolhfbldjaaGreatDoorPkSymbol

/-
  The program's reader: words.
-/
namespace Go.Proofs.YtnmofolhfbldjaaGreatDoor
open Go.RowKit
set_option linter.unusedVariables false

/-- What a word leaves. -/
noncomputable def wordI (s : ByteArray) (p : Nat) (up : Int) (n : Nat) : Option (Nat × List Dm) :=
  match wordD (s.extract p (wordP s p)) with
  | none => none
  | some (k, t) => if 300 ≤ n then none else some (wordP s p, [⟨k, t, up⟩])
theorem wordI_none {s : ByteArray} {p : Nat} {up : Int} {n : Nat} (h : wordD (s.extract p (wordP s p)) = none) : wordI s p up n = none := by unfold wordI; rw [h]
theorem wordI_full {s : ByteArray} {p : Nat} {up : Int} {n : Nat} {k : Int} {t : ByteArray} (h : wordD (s.extract p (wordP s p)) = some (k, t)) (hn : 300 ≤ n) : wordI s p up n = none := by unfold wordI; rw [h]; exact if_pos hn
theorem wordI_yes {s : ByteArray} {p : Nat} {up : Int} {n : Nat} {k : Int} {t : ByteArray} (h : wordD (s.extract p (wordP s p)) = some (k, t)) (hn : ¬ 300 ≤ n) : wordI s p up n = some (wordP s p, [⟨k, t, up⟩]) := by unfold wordI; rw [h]; exact if_neg hn
theorem own_below {w w' : World} {B z n : Nat} {T : TypeId} {v : Value} {xs : List Value} (h : w.ownsRow B T z v n xs) (hW : Below w.heap.size w w') : w'.ownsRow B T z v n xs := by
  refine ⟨h.1, ?_⟩
  rcases h.2 with h1 | ⟨g, cap, cur, rfl, h2, h3, h4⟩
  · exact .inl h1
  · refine .inr ⟨g, cap, cur, rfl, h2, ?_, h4⟩
    rw [hW.block g (Array.getElem?_eq_some_iff.1 h3).1]
    exact h3
theorem ISt.move {w : World} {B b : Nat} {s : ByteArray} {a a' : Int} {out : List Dm} (e : a = a') (h : ISt w B b s a out) : ISt w B b s a' out := by rw [← e]; exact h

set_option maxHeartbeats 4000000 in
set_option maxRecDepth 100000 in
theorem iword_st (B b : Nat) (s : ByteArray) (p : Nat) (out : List Dm) (up deep : Int) (w : World) (hs : s.size ≤ 1500) (hp : p ≤ s.size) (hn : out.length ≤ 300) (hT : Tab B w) (h : ISt w B b s (p : Int) out) :
    Calls Tryz.prog 44 #[.pointer (some ⟨b, 0, none⟩), .int .i64 up, .int .i64 deep] w fun e w' => IRes B b s w out (wordI s p up out.length) e w' := by
  have HT := hideT' hT
  have hwl := wordP_le s p hp
  obtain ⟨wd, hwd⟩ : ∃ wd, wd = s.extract p (wordP s p) := ⟨_, rfl⟩
  have hsz : wd.size = wordP s p - p := by rw [hwd, ByteArray.size_extract]; omega
  have hszl : wd.size ≤ 1500 := by omega
  have HQ : Hid ((p : Int) + (wd.size : Int) = (wordP s p : Int)) := by unfold Hid; omega
  have HWD := hideT' hwd
  clear hT hwd hwl hsz
  go_enter Tryz.func44, Tryz.ntmps44
  go_wp2_with fail
  refine (wordHere_st B b s p out _ hs hp h).mono ?_
  rintro e w1 ⟨rfl, h1, hW1⟩
  rw [← HWD.out]
  obtain ⟨hB, v, hR1, ho1, hP1⟩ := h1
  have HP1 := hideT' hP1
  clear hP1
  have c1 := i_1 hR1
  have HO1 := hideT' ho1
  clear ho1 h
  have hbl := RowAt.lt hR1
  have WALK : Hid (∀ w2, IAt w2 b s ((p : Int) + (wd.size : Int)) v 0 → w1.grownBy w2 (some b) → ISt w2 B b s (wordP s p : Int) out ∧ Below B w w2 ∧ B ≤ w2.heap.size ∧ Tab B w2) := fun w2 hR2 hg2 => by
    obtain ⟨k1, k2⟩ := ISt.own hB hR1 HO1.out HP1.out hR2 hg2
    have hW := hW1.trans k2
    exact ⟨ISt.move HQ.out k1, hW, by have := RowAt.lt hR2; omega, HT.out.on hW⟩
  by_cases t1 : wd = ⟨#[35, 116]⟩
  · have x1 : (wd.toList == [35, 116]) = true := tl_yes t1
    have HD : Hid (wordD wd = some (4, ⟨#[116]⟩)) := wD_t (.inl t1)
    clear t1
    go_wp2_with (refine store_at rfl 3 _ _ rfl rfl b 1 (.int .i64 ((p : Int) + (wd.size : Int))) rfl rfl one_int rfl 54 (rC s p v 0) hR1 (show 1 < 4 by omega) ?_; intro w2 hR2 hg2 hs2)
    obtain ⟨hS2, hW2, hB2, hT2⟩ := WALK.out w2 hR2 hg2
    clear WALK hR2 hg2 hs2 hR1 c1
    by_cases h300 : 300 ≤ out.length
    · have HNO : Hid (wordI s p up out.length = none) := wordI_full (by rw [← HWD.out]; exact HD.out) h300
      go_wp2_with fail
      refine (add_no B b s _ out 4 ⟨#[116]⟩ up _ h300 hn hS2).mono ?_
      rintro e w9 hG
      obtain ⟨q, hq, rfl, hI, hW'⟩ := Gave.after hW2 hG
      exact ⟨rfl, IRes.no HNO.out ⟨q, hq, rfl, hI, hW'⟩⟩
    · have HYES : Hid (wordI s p up out.length = some (wordP s p, [⟨4, ⟨#[116]⟩, up⟩])) := wordI_yes (by rw [← HWD.out]; exact HD.out) h300
      go_wp2_with fail
      refine (add_ok B b s _ out 4 ⟨#[116]⟩ up _ (by omega) hS2).mono ?_
      rintro e w9 ⟨rfl, hS9, hW9⟩
      go_wp2
      (first | go_end0 | ((try simp only [Exit.inBlock, Exit.then]); refine bodyPost_ret (results_none rfl _ _ _) rfl ?_))
      exact IRes.yes HYES.out ⟨rfl, hS9, hW2.trans hW9⟩
  · have x1 : (wd.toList == [35, 116]) = false := tl_no t1
    by_cases t2 : wd = ⟨#[35, 116, 114, 117, 101]⟩
    · have x2 : (wd.toList == [35, 116, 114, 117, 101]) = true := tl_yes t2
      have HD : Hid (wordD wd = some (4, ⟨#[116]⟩)) := wD_t (.inr t2)
      clear t1 t2
      go_wp2_with (refine store_at rfl 3 _ _ rfl rfl b 1 (.int .i64 ((p : Int) + (wd.size : Int))) rfl rfl one_int rfl 54 (rC s p v 0) hR1 (show 1 < 4 by omega) ?_; intro w2 hR2 hg2 hs2)
      obtain ⟨hS2, hW2, hB2, hT2⟩ := WALK.out w2 hR2 hg2
      clear WALK hR2 hg2 hs2 hR1 c1
      by_cases h300 : 300 ≤ out.length
      · have HNO : Hid (wordI s p up out.length = none) := wordI_full (by rw [← HWD.out]; exact HD.out) h300
        go_wp2_with fail
        refine (add_no B b s _ out 4 ⟨#[116]⟩ up _ h300 hn hS2).mono ?_
        rintro e w9 hG
        obtain ⟨q, hq, rfl, hI, hW'⟩ := Gave.after hW2 hG
        exact ⟨rfl, IRes.no HNO.out ⟨q, hq, rfl, hI, hW'⟩⟩
      · have HYES : Hid (wordI s p up out.length = some (wordP s p, [⟨4, ⟨#[116]⟩, up⟩])) := wordI_yes (by rw [← HWD.out]; exact HD.out) h300
        go_wp2_with fail
        refine (add_ok B b s _ out 4 ⟨#[116]⟩ up _ (by omega) hS2).mono ?_
        rintro e w9 ⟨rfl, hS9, hW9⟩
        go_wp2
        (first | go_end0 | ((try simp only [Exit.inBlock, Exit.then]); refine bodyPost_ret (results_none rfl _ _ _) rfl ?_))
        exact IRes.yes HYES.out ⟨rfl, hS9, hW2.trans hW9⟩
    · have x2 : (wd.toList == [35, 116, 114, 117, 101]) = false := tl_no t2
      have HTT : Hid (¬ (wd = ⟨#[35, 116]⟩ ∨ wd = ⟨#[35, 116, 114, 117, 101]⟩)) := by unfold Hid; simp only [t1, t2, or_self, not_false_eq_true]
      clear t1 t2
      by_cases f1 : wd = ⟨#[35, 102]⟩
      · have x3 : (wd.toList == [35, 102]) = true := tl_yes f1
        have HD : Hid (wordD wd = some (4, ⟨#[102]⟩)) := wD_f HTT.out (.inl f1)
        clear f1
        go_wp2_with (refine store_at rfl 3 _ _ rfl rfl b 1 (.int .i64 ((p : Int) + (wd.size : Int))) rfl rfl one_int rfl 54 (rC s p v 0) hR1 (show 1 < 4 by omega) ?_; intro w2 hR2 hg2 hs2)
        obtain ⟨hS2, hW2, hB2, hT2⟩ := WALK.out w2 hR2 hg2
        clear WALK hR2 hg2 hs2 hR1 c1
        by_cases h300 : 300 ≤ out.length
        · have HNO : Hid (wordI s p up out.length = none) := wordI_full (by rw [← HWD.out]; exact HD.out) h300
          go_wp2_with fail
          refine (add_no B b s _ out 4 ⟨#[102]⟩ up _ h300 hn hS2).mono ?_
          rintro e w9 hG
          obtain ⟨q, hq, rfl, hI, hW'⟩ := Gave.after hW2 hG
          exact ⟨rfl, IRes.no HNO.out ⟨q, hq, rfl, hI, hW'⟩⟩
        · have HYES : Hid (wordI s p up out.length = some (wordP s p, [⟨4, ⟨#[102]⟩, up⟩])) := wordI_yes (by rw [← HWD.out]; exact HD.out) h300
          go_wp2_with fail
          refine (add_ok B b s _ out 4 ⟨#[102]⟩ up _ (by omega) hS2).mono ?_
          rintro e w9 ⟨rfl, hS9, hW9⟩
          go_wp2
          (first | go_end0 | ((try simp only [Exit.inBlock, Exit.then]); refine bodyPost_ret (results_none rfl _ _ _) rfl ?_))
          exact IRes.yes HYES.out ⟨rfl, hS9, hW2.trans hW9⟩
      · have x3 : (wd.toList == [35, 102]) = false := tl_no f1
        by_cases f2 : wd = ⟨#[35, 102, 97, 108, 115, 101]⟩
        · have x4 : (wd.toList == [35, 102, 97, 108, 115, 101]) = true := tl_yes f2
          have HD : Hid (wordD wd = some (4, ⟨#[102]⟩)) := wD_f HTT.out (.inr f2)
          clear f1 f2
          go_wp2_with (refine store_at rfl 3 _ _ rfl rfl b 1 (.int .i64 ((p : Int) + (wd.size : Int))) rfl rfl one_int rfl 54 (rC s p v 0) hR1 (show 1 < 4 by omega) ?_; intro w2 hR2 hg2 hs2)
          obtain ⟨hS2, hW2, hB2, hT2⟩ := WALK.out w2 hR2 hg2
          clear WALK hR2 hg2 hs2 hR1 c1
          by_cases h300 : 300 ≤ out.length
          · have HNO : Hid (wordI s p up out.length = none) := wordI_full (by rw [← HWD.out]; exact HD.out) h300
            go_wp2_with fail
            refine (add_no B b s _ out 4 ⟨#[102]⟩ up _ h300 hn hS2).mono ?_
            rintro e w9 hG
            obtain ⟨q, hq, rfl, hI, hW'⟩ := Gave.after hW2 hG
            exact ⟨rfl, IRes.no HNO.out ⟨q, hq, rfl, hI, hW'⟩⟩
          · have HYES : Hid (wordI s p up out.length = some (wordP s p, [⟨4, ⟨#[102]⟩, up⟩])) := wordI_yes (by rw [← HWD.out]; exact HD.out) h300
            go_wp2_with fail
            refine (add_ok B b s _ out 4 ⟨#[102]⟩ up _ (by omega) hS2).mono ?_
            rintro e w9 ⟨rfl, hS9, hW9⟩
            go_wp2
            (first | go_end0 | ((try simp only [Exit.inBlock, Exit.then]); refine bodyPost_ret (results_none rfl _ _ _) rfl ?_))
            exact IRes.yes HYES.out ⟨rfl, hS9, hW2.trans hW9⟩
        · have x4 : (wd.toList == [35, 102, 97, 108, 115, 101]) = false := tl_no f2
          have HFF : Hid (¬ (wd = ⟨#[35, 102]⟩ ∨ wd = ⟨#[35, 102, 97, 108, 115, 101]⟩)) := by unfold Hid; simp only [f1, f2, or_self, not_false_eq_true]
          clear f1 f2
          go_wp2_with (refine store_at rfl 3 _ _ rfl rfl b 1 (.int .i64 ((p : Int) + (wd.size : Int))) rfl rfl one_int rfl 54 (rC s p v 0) hR1 (show 1 < 4 by omega) ?_; intro w2 hR2 hg2 hs2)
          obtain ⟨hS2, hW2, hB2, hT2⟩ := WALK.out w2 hR2 hg2
          clear WALK hR2 hg2 hs2 hR1 c1
          refine (implReadNum_any wd _ (by unfold maxLen; omega) (hT2.up hB2)).mono ?_
          rintro e w3 ⟨hA, hW3⟩
          obtain rfl := readAns_eq hA
          clear hA
          have hS3 : ISt w3 B b s (wordP s p : Int) out := by
            obtain ⟨hB, v, hR, ho, hP⟩ := hS2
            exact ⟨hB, v, RowAt.below hR hW3 (RowAt.lt hR), own_below ho hW3, RowAt.below hP hW3 (RowAt.lt hP)⟩
          have hW3' : Below B w w3 := hW2.trans (hW3.mono hB2)
          clear hS2 hW3 hT2
          obtain ⟨tx, htx⟩ : ∃ tx, tx = numTx wd := ⟨_, rfl⟩
          rw [← htx]
          have HTX := hideT' htx
          clear htx
          cases hnf : numF wd.data.toList with
          | true =>
            have HD : Hid (wordD wd = some (1, tx)) := by unfold Hid; rw [wD_n HTT.out HFF.out hnf, ← HTX.out]
            clear hnf
            by_cases h300 : 300 ≤ out.length
            · have HNO : Hid (wordI s p up out.length = none) := wordI_full (by rw [← HWD.out]; exact HD.out) h300
              go_wp2_with fail
              refine (add_no B b s _ out 1 tx up _ h300 hn hS3).mono ?_
              rintro e w9 hG
              obtain ⟨q, hq, rfl, hI, hW'⟩ := Gave.after hW3' hG
              exact ⟨rfl, IRes.no HNO.out ⟨q, hq, rfl, hI, hW'⟩⟩
            · have HYES : Hid (wordI s p up out.length = some (wordP s p, [⟨1, tx, up⟩])) := wordI_yes (by rw [← HWD.out]; exact HD.out) h300
              go_wp2_with fail
              refine (add_ok B b s _ out 1 tx up _ (by omega) hS3).mono ?_
              rintro e w9 ⟨rfl, hS9, hW9⟩
              go_wp2
              (first | go_end0 | ((try simp only [Exit.inBlock, Exit.then]); refine bodyPost_ret (results_none rfl _ _ _) rfl ?_))
              exact IRes.yes HYES.out ⟨rfl, hS9, hW3'.trans hW9⟩
          | false =>
            have HDS := hideT' (wD_s HTT.out HFF.out hnf)
            clear hnf
            go_wp2_with fail
            refine (symbolOrNum_any wd _ (by unfold maxLen; omega)).mono ?_
            rintro e w4 ⟨rfl, he4⟩
            rw [he4]
            clear he4 w4
            cases hsy : symT wd.data.toList with
            | false =>
              have HNO : Hid (wordI s p up out.length = none) := wordI_none (by rw [← HWD.out, HDS.out, hsy]; rfl)
              clear hsy
              go_wp2_with fail
              refine (giveUp_any B b s _ 3 out _ (by decide) hS3).mono ?_
              rintro e w9 hG
              obtain ⟨q, hq, rfl, hI, hW'⟩ := Gave.after hW3' hG
              exact ⟨rfl, IRes.no HNO.out ⟨q, hq, rfl, hI, hW'⟩⟩
            | true =>
              have HD : Hid (wordD wd = some (2, wd)) := by unfold Hid; rw [HDS.out, hsy]; rfl
              clear hsy
              go_wp2_with fail
              refine (strClone_any wd _ hszl).mono ?_
              rintro e w5 ⟨rfl, hW5⟩
              have hS5 : ISt w5 B b s (wordP s p : Int) out := by
                obtain ⟨hB, v, hR, ho, hP⟩ := hS3
                exact ⟨hB, v, RowAt.below hR hW5 (RowAt.lt hR), own_below ho hW5, RowAt.below hP hW5 (RowAt.lt hP)⟩
              have hW5' : Below B w w5 := hW3'.trans (hW5.mono (by have := hW3'.size; obtain ⟨hB, v, hR, ho⟩ := hS3; have := RowAt.lt hR; omega))
              by_cases h300 : 300 ≤ out.length
              · have HNO : Hid (wordI s p up out.length = none) := wordI_full (by rw [← HWD.out]; exact HD.out) h300
                go_wp2_with fail
                refine (add_no B b s _ out 2 wd up _ h300 hn hS5).mono ?_
                rintro e w9 hG
                obtain ⟨q, hq, rfl, hI, hW'⟩ := Gave.after hW5' hG
                exact ⟨rfl, IRes.no HNO.out ⟨q, hq, rfl, hI, hW'⟩⟩
              · have HYES : Hid (wordI s p up out.length = some (wordP s p, [⟨2, wd, up⟩])) := wordI_yes (by rw [← HWD.out]; exact HD.out) h300
                go_wp2_with fail
                refine (add_ok B b s _ out 2 wd up _ (by omega) hS5).mono ?_
                rintro e w9 ⟨rfl, hS9, hW9⟩
                go_wp2
                (first | go_end0 | ((try simp only [Exit.inBlock, Exit.then]); refine bodyPost_ret (results_none rfl _ _ _) rfl ?_))
                exact IRes.yes HYES.out ⟨rfl, hS9, hW5'.trans hW9⟩

end Go.Proofs.YtnmofolhfbldjaaGreatDoor

/-
  The program's reader: what stands behind a dot, a quote sign, a list, a datum.
-/
namespace Go.Proofs.YtnmofolhfbldjaaGreatDoor
open Go.RowKit
set_option linter.unusedVariables false

def IOneC (f : Nat) : Prop := ∀ (B b : Nat) (s : ByteArray) (a : Nat) (out : List Dm) (up : Int) (deep : Nat) (w : World), s.size ≤ 1500 → a ≤ s.size → 2 * (s.size - a) + 1 ≤ f → out.length ≤ 300 → deep ≤ 25 → Tab B w → ISt w B b s (a : Int) out →
  Calls Tryz.prog 30 #[.pointer (some ⟨b, 0, none⟩), .int .i64 up, .int .i64 (deep : Int)] w fun e w' => IRes B b s w out (oneF s f a up (deep : Int) out.length) e w'

/-- Behind a dot. -/
def IDot (B b : Nat) (s : ByteArray) (w : World) (out : List Dm) (k : Nat) (r : Option (Nat × Bool × List Dm)) (e : Ending) (w' : World) : Prop :=
  (r = none ∧ Gave B b s w e w') ∨ ∃ (q : Nat) (ps : List Dm), r = some (q + 1, true, ps) ∧ q < s.size ∧ byteAt s q = 41 ∧ skipP s q = q ∧ e = .returned (.tuple #[]) ∧ ISt w' B b s (q : Int) (dotAt out k true ++ ps) ∧ Below B w w'

set_option maxHeartbeats 4000000 in
set_option maxRecDepth 100000 in
theorem dotted_no (f : Nat) (B b : Nat) (s : ByteArray) (p : Nat) (out : List Dm) (k deep : Nat) (w : World) (hn : out.length ≤ 300) (hk : out.length = k + 1) (h : ISt w B b s (p : Int) out) :
    Calls Tryz.prog 66 #[.pointer (some ⟨b, 0, none⟩), .int .i64 (k : Int), .int .i64 (deep : Int)] w fun e w' => IDot B b s w out k (dotR s f p k ((deep + 1 : Nat) : Int) out.length) e w' := by
  have HS := hideT' h
  obtain ⟨hB, v, hR, ho, hP⟩ := h
  clear hP
  obtain ⟨o, cap, rfl⟩ := own3_form ho
  have c2 := i_2 hR
  have HNO : Hid (dotR s f p k ((deep + 1 : Nat) : Int) out.length = none) := by unfold Hid dotR; rw [if_pos (.inl hk)]
  obtain ⟨n, hnn⟩ : ∃ n, n = out.length := ⟨_, rfl⟩
  rw [← hnn] at c2 hk hn
  have e1 : ((n : Int) == (k : Int) + 1) = true := by rw [hk]; simp
  clear hR ho hnn
  go_enter Tryz.func66, Tryz.ntmps66
  go_wp2_with fail
  refine (giveUp_any B b s _ 3 out _ (by decide) HS.out).mono ?_
  rintro e w9 ⟨q, hq, rfl, hI, hW⟩
  exact ⟨rfl, .inl ⟨HNO.out, q, hq, rfl, hI, hW⟩⟩

set_option maxHeartbeats 4000000 in
set_option maxRecDepth 100000 in
theorem dotted_st (f : Nat) (IH : IOneC f) (B b : Nat) (s : ByteArray) (p : Nat) (out : List Dm) (k deep : Nat) (w : World) (hs : s.size ≤ 1500) (hp : p < s.size) (hf : 2 * (s.size - (p + 1)) + 1 ≤ f) (hn : out.length ≤ 300) (hk : k < out.length) (hk1 : out.length ≠ k + 1) (hd : deep + 1 ≤ 25) (hT : Tab B w) (h : ISt w B b s (p : Int) out) :
    Calls Tryz.prog 66 #[.pointer (some ⟨b, 0, none⟩), .int .i64 (k : Int), .int .i64 (deep : Int)] w fun e w' => IDot B b s w out k (dotR s f p k ((deep + 1 : Nat) : Int) out.length) e w' := by
  have HT := hideT' hT
  have HIH := hideT' IH
  obtain ⟨hB, v, hR, ho, hP⟩ := h
  have HP := hideT' hP
  have hpg : (some (b + 1) : Option Nat) ≠ v.ownBlock := own3_ne ho hP (by decide)
  clear hP
  obtain ⟨g, cap, cur, rfl, x2, hRG, x4, x5, x6, x7⟩ := own3_block ho (by omega)
  have c1 := i_1 hR
  have c2 := i_2 hR
  have hbl := RowAt.lt hR
  have hgl := RowAt.lt hRG
  have HK1 := hideT' hk1
  obtain ⟨n, hnn⟩ : ∃ n, n = out.length := ⟨_, rfl⟩
  have HNN := hideT' hnn
  rw [← hnn] at c2 hk hn
  have e1 : ((n : Int) == (k : Int) + 1) = false := beq_eq_false_iff_ne.2 (by omega)
  have hgb : (some b : Option Nat) ≠ (Value.slice (some ⟨g, 0, none⟩) out.length cap).ownBlock := own3_ne ho hR (by decide)
  have HGB : Hid (b ≠ g) := fun e => hgb (by rw [e]; rfl)
  have HPG : Hid (b + 1 ≠ g) := fun e => hpg (by rw [e]; rfl)
  clear hpg
  have HR := hideT' hR
  have HX := hideT' (And.intro x2 (And.intro x4 (And.intro x5 (And.intro x6 x7))))
  have HKC : Hid (k * 3 < cur.size) := by unfold Hid; rw [x6]; omega
  have HRG := hideT' hRG
  clear hR ho hT IH hgb x2 x4 x5 x6 x7 hnn hk1 hRG
  go_enter Tryz.func66, Tryz.ntmps66
  go_wp2_with (first | (refine store_at rfl 3 _ _ rfl rfl g (k * 3) (.int .i64 6) rfl rfl one_int rfl 39 cur HRG.out HKC.out ?_; intro w1 hR1 hg1 hs1; have hI1 : IAt w1 b s (p : Int) (.slice (some ⟨g, 0, none⟩) out.length cap) 0 := RowAt.grown HR.out hg1 (by intro e; injection e with e; exact HGB.out e); have c1' := i_1 hI1) | (refine store_at rfl 3 _ _ rfl rfl b 1 (.int .i64 ((p : Int) + 1)) rfl rfl one_int rfl 54 (rC s p (.slice (some ⟨g, 0, none⟩) out.length cap) 0) hI1 (show 1 < 4 by omega) ?_; intro w2 hI2 hg2 hs2))
  have hS2 : ISt w2 B b s ((p + 1 : Nat) : Int) (dotAt out k true) := by
    have hrow := own3_set (w' := w1) (by have := HNN.out; omega) HX.out.1 HX.out.2.1 HX.out.2.2.1 HX.out.2.2.2.1 HX.out.2.2.2.2 hR1
    refine ⟨hB, _, hI2, own_keep hrow hg2 (.inr ?_), RowAt.grown (RowAt.grown HP.out hg1 (by intro e; injection e with e; exact HPG.out e)) hg2 (by intro e; injection e; omega)⟩
    intro e
    simp [Value.ownBlock] at e
    exact HGB.out e
  have hW2 : Below B w w2 := ((Below.refl B w).grown hg1 (by omega) (by intro k hk; injection hk with hk; have := HX.out.1; omega)).grown hg2 (by omega) (by intro k hk; injection hk; omega)
  have hT2 := HT.out.on hW2
  have hlen : (dotAt out k true).length = out.length := dotAt_len out k true
  clear hR1 hg1 hs1 hI1 c1' hI2 hg2 hs2 c1 c2
  obtain ⟨l, hl⟩ : ∃ l, l = dotAt out k true := ⟨_, rfl⟩
  rw [← hl] at hS2 hlen
  have HL := hideT' hl
  clear hl
  by_cases hend : skipP s (p + 1) = s.size
  · have HNO : Hid (dotR s f p k ((deep + 1 : Nat) : Int) out.length = none) := dotR_none (by
      rw [← oneF_skip (by omega)]
      cases f with
      | zero => rw [oneF]
      | succ f => rw [oneF, skip_skip (by omega), if_pos hend])
    refine (next_no B b s (p + 1) l _ hs (by omega) hend hS2).mono ?_
    rintro e w9 hG
    obtain ⟨q, hq, rfl, hI, hW'⟩ := Gave.after hW2 hG
    exact ⟨rfl, .inl ⟨HNO.out, q, hq, rfl, hI, hW'⟩⟩
  · refine (next_ok B b s (p + 1) l _ hs (by omega) hend hS2).mono ?_
    rintro e w3 ⟨rfl, hS3, hW3⟩
    have hW3' := hW2.trans hW3
    have hT3 := HT.out.on hW3'
    have hsk := skipP_le s (p + 1) (by omega)
    by_cases hlist : byteAt s (skipP s (p + 1)) = 40 ∨ byteAt s (skipP s (p + 1)) = 39
    · have HNO : Hid (dotR s f p k ((deep + 1 : Nat) : Int) out.length = none) := by unfold Hid dotR; rw [if_pos (.inr hlist)]
      rcases hlist with h40 | h39
      · have y : (((byteAt s (skipP s (p + 1))).toNat : Int) == 40) = true := by rw [h40]; rfl
        clear h40
        go_wp2_with fail
        refine (giveUp_any B b s _ 3 l _ (by decide) hS3).mono ?_
        rintro e w9 hG
        obtain ⟨q, hq, rfl, hI, hW'⟩ := Gave.after hW3' hG
        exact ⟨rfl, .inl ⟨HNO.out, q, hq, rfl, hI, hW'⟩⟩
      · have y0 : (((byteAt s (skipP s (p + 1))).toNat : Int) == 40) = false := by rw [h39]; rfl
        have y : (((byteAt s (skipP s (p + 1))).toNat : Int) == 39) = true := by rw [h39]; rfl
        clear h39
        go_wp2_with fail
        refine (giveUp_any B b s _ 3 l _ (by decide) hS3).mono ?_
        rintro e w9 hG
        obtain ⟨q, hq, rfl, hI, hW'⟩ := Gave.after hW3' hG
        exact ⟨rfl, .inl ⟨HNO.out, q, hq, rfl, hI, hW'⟩⟩
    · have h40 : byteAt s (skipP s (p + 1)) ≠ 40 := fun e => hlist (.inl e)
      have h39 : byteAt s (skipP s (p + 1)) ≠ 39 := fun e => hlist (.inr e)
      have y0 : (((byteAt s (skipP s (p + 1))).toNat : Int) == 40) = false := byte_ne (n := 40) (by decide) h40
      have y1 : (((byteAt s (skipP s (p + 1))).toNat : Int) == 39) = false := byte_ne (n := 39) (by decide) h39
      have HLL : Hid (((byteAt s (skipP s (p + 1)) == 40) || (byteAt s (skipP s (p + 1)) == 39)) = false) := by unfold Hid; rw [beq_eq_false_iff_ne.2 h40, beq_eq_false_iff_ne.2 h39]; rfl
      clear hlist h40 h39
      go_wp2_with fail
      rw [show ((deep : Int) + 1) = ((deep + 1 : Nat) : Int) by omega]
      refine (HIH.out B b s (skipP s (p + 1)) l (k : Int) (deep + 1) _ hs (by omega) (by omega) (by rw [hlen, ← HNN.out]; exact hn) hd hT3 hS3).mono ?_
      rw [oneF_skip (by omega), hlen]
      rintro e w4 hres
      cases hone : oneF s f (p + 1) (k : Int) ((deep + 1 : Nat) : Int) out.length with
      | none =>
        rw [hone] at hres
        have HNO : Hid (dotR s f p k ((deep + 1 : Nat) : Int) out.length = none) := dotR_none hone
        obtain ⟨q, hq, rfl, hI, hW'⟩ := Gave.after hW3' hres
        exact ⟨rfl, .inl ⟨HNO.out, q, hq, rfl, hI, hW'⟩⟩
      | some r =>
        obtain ⟨a', ps⟩ := r
        rw [hone] at hres
        obtain ⟨rfl, hS4, hW4⟩ := hres
        have hle := oneF_le f (p + 1) (k : Int) ((deep + 1 : Nat) : Int) out.length a' ps (by omega) (by have := HNN.out; omega) hone
        have HDS := hideT' (dotR_some (k := k) (by have := HK1.out; exact this) HLL.out hone)
        have ha' : a' ≤ s.size := hle.2.1
        have hW4' := hW3'.trans hW4
        have HLE := hideT' hle
        clear hone hle
        by_cases hend2 : skipP s a' = s.size
        · have HNO : Hid (dotR s f p k ((deep + 1 : Nat) : Int) out.length = none) := by unfold Hid; rw [HDS.out, if_neg (fun h => h.1 hend2)]
          go_wp2_with fail
          refine (next_no B b s a' _ _ hs ha' hend2 hS4).mono ?_
          rintro e w9 hG
          obtain ⟨q, hq, rfl, hI, hW'⟩ := Gave.after hW4' hG
          exact ⟨rfl, .inl ⟨HNO.out, q, hq, rfl, hI, hW'⟩⟩
        · have hsk2 := skipP_le s a' ha'
          go_wp2_with fail
          refine (next_ok B b s a' _ _ hs ha' hend2 hS4).mono ?_
          rintro e w5 ⟨rfl, hS5, hW5⟩
          have hW5' := hW4'.trans hW5
          by_cases h41 : byteAt s (skipP s a') = 41
          · have y41 : (((byteAt s (skipP s a')).toNat : Int) != 41) = false := by rw [h41]; rfl
            have HYES : Hid (dotR s f p k ((deep + 1 : Nat) : Int) out.length = some (skipP s a' + 1, true, ps)) := by unfold Hid; rw [HDS.out, if_pos ⟨hend2, h41⟩]
            have H41 := hideT' h41
            clear h41
            go_wp2
            go_end0
            exact .inr ⟨skipP s a', ps, HYES.out, by omega, H41.out, skip_skip ha', rfl, by rw [← HL.out]; exact hS5, hW5'⟩
          · have y41 : (((byteAt s (skipP s a')).toNat : Int) != 41) = true := by
              have := byte_ne (n := 41) (by decide) h41
              simpa [bne] using this
            have HNO : Hid (dotR s f p k ((deep + 1 : Nat) : Int) out.length = none) := by unfold Hid; rw [HDS.out, if_neg (fun h => h41 h.2)]
            clear h41
            go_wp2_with fail
            refine (giveUp_any B b s _ 3 _ _ (by decide) hS5).mono ?_
            rintro e w9 hG
            obtain ⟨q, hq, rfl, hI, hW'⟩ := Gave.after hW5' hG
            exact ⟨rfl, .inl ⟨HNO.out, q, hq, rfl, hI, hW'⟩⟩

set_option maxHeartbeats 4000000 in
set_option maxRecDepth 100000 in
theorem iquote_st (f : Nat) (IH : IOneC f) (B b : Nat) (s : ByteArray) (p : Nat) (out : List Dm) (up : Int) (deep : Nat) (w : World) (hs : s.size ≤ 1500) (hp : p < s.size) (hf : 2 * (s.size - (p + 1)) + 1 ≤ f) (hn : out.length ≤ 300) (hd : deep ≤ 25) (hT : Tab B w) (h : ISt w B b s (p : Int) out) :
    Calls Tryz.prog 47 #[.pointer (some ⟨b, 0, none⟩), .int .i64 up, .int .i64 (deep : Int)] w fun e w' => IRes B b s w out (quoteR s f p up (deep : Int) out.length) e w' := by
  have HT := hideT' hT
  have HIH := hideT' IH
  clear hT IH
  by_cases hfull : 300 ≤ out.length ∨ 25 ≤ (deep : Int)
  · have HNO : Hid (quoteR s f p up (deep : Int) out.length = none) := quoteR_full (by omega)
    have HFU := hideT' hfull
    clear hfull
    go_enter Tryz.func47, Tryz.ntmps47
    go_wp2_with fail
    refine (addList_no B b s _ out up _ _ hn HFU.out h).mono ?_
    rintro e w9 ⟨q, hq, rfl, hI, hW⟩
    exact ⟨rfl, IRes.no HNO.out ⟨q, hq, rfl, hI, hW⟩⟩
  · have hn3 : out.length < 300 := by omega
    have hd25 : ¬ 25 ≤ (deep : Int) := by omega
    clear hfull
    go_enter Tryz.func47, Tryz.ntmps47
    go_wp2_with fail
    refine (addList_ok B b s _ out up _ _ hn3 (show ¬ 25 ≤ (deep : Int) by omega) h).mono ?_
    rintro e w1 ⟨rfl, hS1, hW1⟩
    obtain ⟨l1, hl1⟩ : ∃ l, l = out ++ [(⟨5, ⟨#[]⟩, up⟩ : Dm)] := ⟨_, rfl⟩
    rw [← hl1] at hS1
    have hlen1 : l1.length = out.length + 1 := by rw [hl1]; simp
    have HL1 := hideT' hl1
    clear hl1
    by_cases h299 : 299 ≤ out.length
    · have HNO : Hid (quoteR s f p up (deep : Int) out.length = none) := quoteR_full (by omega)
      go_wp2_with fail
      refine (add_no B b s _ l1 2 _ _ _ (by omega) (by omega) hS1).mono ?_
      rintro e w9 hG
      obtain ⟨q, hq, rfl, hI, hW'⟩ := Gave.after hW1 hG
      exact ⟨rfl, IRes.no HNO.out ⟨q, hq, rfl, hI, hW'⟩⟩
    · go_wp2_with fail
      refine (add_ok B b s _ l1 2 _ _ _ (by omega) hS1).mono ?_
      rintro e w2 ⟨rfl, hS2, hW2⟩
      obtain ⟨l2, hl2⟩ : ∃ l, l = l1 ++ [(⟨2, ⟨#[113, 117, 111, 116, 101]⟩, (out.length : Int)⟩ : Dm)] := ⟨_, rfl⟩
      rw [← hl2] at hS2
      have hlen2 : l2.length = out.length + 2 := by rw [hl2]; simp [hlen1]
      have HL2 : Hid (l2 = out ++ [(⟨5, ⟨#[]⟩, up⟩ : Dm), ⟨2, ⟨#[113, 117, 111, 116, 101]⟩, (out.length : Int)⟩]) := by unfold Hid; rw [hl2, HL1.out]; simp
      have HLN2 := hideT' hlen2
      obtain ⟨hB, v, hR2, ho2, hP2⟩ := hS2
      have HP2 := hideT' hP2
      clear hP2
      have c1 := i_1 hR2
      have HO2 := hideT' ho2
      have hW2' := hW1.trans hW2
      clear hl2 ho2 hS1
      go_wp2_with (refine store_at rfl 3 _ _ rfl rfl b 1 (.int .i64 ((p : Int) + 1)) rfl rfl one_int rfl 54 (rC s p v 0) hR2 (show 1 < 4 by omega) ?_; intro w3 hR3 hg3 hs3)
      obtain ⟨hS3, hW3⟩ := ISt.own hB hR2 HO2.out HP2.out hR3 hg3
      have hW3' := hW2'.trans hW3
      have hT3 := HT.out.on hW3'
      have HD1 : Hid (((deep : Int) + 1) = ((deep + 1 : Nat) : Int)) := by unfold Hid; omega
      rw [HD1.out]
      refine (HIH.out B b s (p + 1) l2 (out.length : Int) (deep + 1) _ hs (by omega) hf (by omega) (by omega) hT3 hS3).mono ?_
      rw [hlen2]
      rintro e w4 hres
      cases hone : oneF s f (p + 1) (out.length : Int) ((deep + 1 : Nat) : Int) (out.length + 2) with
      | none =>
        rw [hone] at hres
        have HNO : Hid (quoteR s f p up (deep : Int) out.length = none) := quoteR_none (by rw [HD1.out]; exact hone)
        obtain ⟨q, hq, rfl, hI, hW'⟩ := Gave.after hW3' hres
        exact ⟨rfl, IRes.no HNO.out ⟨q, hq, rfl, hI, hW'⟩⟩
      | some r =>
        obtain ⟨a', ps⟩ := r
        rw [hone] at hres
        obtain ⟨rfl, hS4, hW4⟩ := hres
        have HYES := hideT' (quoteR_some (up := up) (show ¬ (299 ≤ out.length ∨ 25 ≤ (deep : Int)) by omega) (by rw [HD1.out]; exact hone))
        clear hone
        go_wp2
        go_end0
        refine IRes.yes HYES.out ⟨rfl, ?_, hW3'.trans hW4⟩
        rw [HL2.out] at hS4
        simpa using hS4

end Go.Proofs.YtnmofolhfbldjaaGreatDoor

/-
  The program's reader: lists and data.
-/
namespace Go.Proofs.YtnmofolhfbldjaaGreatDoor
open Go.RowKit
set_option linter.unusedVariables false

theorem ahead_none (ps : List Dm) : ahead ps none = none := rfl
theorem ahead_some (ps qs : List Dm) (a : Nat) (d : Bool) : ahead ps (some (a, d, qs)) = some (a, d, ps ++ qs) := rfl
theorem listF_go {s : ByteArray} {f a k a' : Nat} {deep : Int} {n : Nat} {ps : List Dm} (h0 : skipP s a ≠ s.size) (h : byteAt s (skipP s a) ≠ 41) (hd : isDot s (skipP s a) = false) (h1 : oneF s f (skipP s a) k deep n = some (a', ps)) : listF s (f + 1) a k deep n = ahead ps (listF s f a' k deep (n + ps.length)) := by
  rw [listF_one h0 h hd, h1]
theorem listF_no {s : ByteArray} {f a k : Nat} {deep : Int} {n : Nat} (h0 : skipP s a ≠ s.size) (h : byteAt s (skipP s a) ≠ 41) (hd : isDot s (skipP s a) = false) (h1 : oneF s f (skipP s a) k deep n = none) : listF s (f + 1) a k deep n = none := by
  rw [listF_one h0 h hd, h1]

theorem dotR_lt {s : ByteArray} {f p k q : Nat} {deep : Int} {n : Nat} {ps : List Dm} (h : dotR s f p k deep n = some (q + 1, true, ps)) (hp : p < s.size := by omega) (hn : n ≤ 300 := by omega) : p < q := by
  unfold dotR at h
  split at h
  · cases h
  · split at h
    · cases h
    · next a' ps' h1 =>
      split at h
      · injection h with h
        injection h with h2 h3
        have h4 := oneF_le f (p + 1) (k : Int) deep n a' ps' (by omega) hn h1
        have h5 := skipP_le s a' h4.2.1
        have h6 := h4.1
        omega
      · cases h
/-- Where a list has come to. -/
def LInv (s : ByteArray) (f p n : Nat) (deep : Int) (a fu : Nat) (d : Bool) (ps : List Dm) : Prop :=
  if d then skipP s a = a ∧ a < s.size ∧ byteAt s a = 41 ∧ listF s f (p + 1) n deep (n + 1) = some (a + 1, true, ps)
  else 2 * (s.size - a) + 2 ≤ fu ∧ fu ≤ f ∧ listF s f (p + 1) n deep (n + 1) = ahead ps (listF s fu a n deep (n + 1 + ps.length))

set_option maxHeartbeats 4000000 in
set_option maxRecDepth 100000 in
theorem ilist_st (f : Nat) (IH : ∀ g, g < f → IOneC g) (B b : Nat) (s : ByteArray) (p : Nat) (out : List Dm) (up : Int) (deep : Nat) (w : World) (hs : s.size ≤ 1500) (hp : p < s.size) (hf : 2 * (s.size - (p + 1)) + 2 ≤ f) (hn : out.length ≤ 300) (hd : deep ≤ 25) (hT : Tab B w) (h : ISt w B b s (p : Int) out) :
    Calls Tryz.prog 46 #[.pointer (some ⟨b, 0, none⟩), .int .i64 up, .int .i64 (deep : Int)] w fun e w' => IRes B b s w out (openR s f p up (deep : Int) out.length) e w' := by
  have HT := hideT' hT
  have HIH := hideT' IH
  clear hT IH
  by_cases hfull : 300 ≤ out.length ∨ 25 ≤ (deep : Int)
  · have HNO : Hid (openR s f p up (deep : Int) out.length = none) := openR_full hfull
    have HFU := hideT' hfull
    clear hfull
    go_enter Tryz.func46, Tryz.ntmps46
    go_wp2_with fail
    refine (addList_no B b s _ out up _ _ hn HFU.out h).mono ?_
    rintro e w9 ⟨q, hq, rfl, hI, hW⟩
    exact ⟨rfl, IRes.no HNO.out ⟨q, hq, rfl, hI, hW⟩⟩
  · have hn3 : out.length < 300 := by omega
    have hd25 : deep + 1 ≤ 25 := by omega
    have HF0 := hideT' hfull
    have HD1 : Hid (((deep : Int) + 1) = ((deep + 1 : Nat) : Int)) := by unfold Hid; omega
    clear hfull
    go_enter Tryz.func46, Tryz.ntmps46
    go_wp2_with fail
    refine (addList_ok B b s _ out up _ _ hn3 (show ¬ 25 ≤ (deep : Int) by omega) h).mono ?_
    rintro e w1 ⟨rfl, hS1, hW1⟩
    obtain ⟨hB, v, hR1, ho1, hP1⟩ := hS1
    have HP1 := hideT' hP1
    clear hP1
    have c1 := i_1 hR1
    have HO1 := hideT' ho1
    clear ho1 h
    go_wp2_with (refine store_at rfl 3 _ _ rfl rfl b 1 (.int .i64 ((p : Int) + 1)) rfl rfl one_int rfl 54 (rC s p v 0) hR1 (show 1 < 4 by omega) ?_; intro w2 hR2 hg2 hs2)
    obtain ⟨hS2, hW2⟩ := ISt.own hB hR1 HO1.out HP1.out hR2 hg2
    have hW2' := hW1.trans hW2
    clear hR1 hR2 hg2 hs2 HO1 c1 hW1 hW2
    go_loopg [] (s.size - (p + 1)) (fun g wr => ∃ (a fu : Nat) (d : Bool) (ps : List Dm), g = s.size - a ∧ p + 1 ≤ a ∧ a ≤ s.size ∧ Hid (out.length + 1 + ps.length ≤ 300) ∧ Hid (LInv s f p out.length ((deep + 1 : Nat) : Int) a fu d ps) ∧ ISt wr B b s (a : Int) (out ++ (⟨if d then 6 else 5, ⟨#[]⟩, up⟩ :: ps)) ∧ Below B w wr)
    case atStart => exact ⟨p + 1, f, false, [], rfl, Nat.le_refl _, by omega, by unfold Hid; simp; omega, ⟨hf, Nat.le_refl _, by rw [ahead_nil]; rfl⟩, by simpa using hS2, hW2'⟩
    case round =>
      clear hS2 hW2'
      obtain ⟨a, fu, d, ps, hg, hpa, ha, HPS, HIV, hS, hW⟩ := hrel
      have hsk := skipP_le s a ha
      obtain ⟨l, hl⟩ : ∃ l, l = out ++ ((⟨if d then 6 else 5, ⟨#[]⟩, up⟩ : Dm) :: ps) := ⟨_, rfl⟩
      rw [← hl] at hS
      have hlen : l.length = out.length + 1 + ps.length := by rw [hl]; simp; omega
      have hl3 : l.length ≤ 300 := by rw [hlen]; exact HPS.out
      have HL := hideT' hl
      have HLEN := hideT' hlen
      clear hl hlen
      have CLOSE : Hid (skipP s a ≠ s.size → byteAt s (skipP s a) = 41 → listF s f (p + 1) out.length ((deep + 1 : Nat) : Int) (out.length + 1) = some (skipP s a + 1, d, ps)) := by
        intro h0 h41
        have hv := HIV.out
        unfold LInv at hv
        cases d with
        | true => rw [if_pos rfl] at hv; rw [hv.1]; exact hv.2.2.2
        | false =>
          rw [if_neg (by decide)] at hv
          obtain ⟨g', rfl⟩ : ∃ g', fu = g' + 1 := ⟨fu - 1, by omega⟩
          rw [hv.2.2, listF_close h0 h41, ahead_some, List.append_nil]
      by_cases hend : skipP s a = s.size
      · have HNO : Hid (openR s f p up (deep : Int) out.length = none) := openR_none (by
          rw [HD1.out]
          have hv := HIV.out
          unfold LInv at hv
          cases d with
          | true => rw [if_pos rfl] at hv; omega
          | false => rw [if_neg (by decide)] at hv; rw [hv.2.2, listF_end hend]; rfl)
        go_wp2_with fail
        refine (next_no B b s a l _ hs ha hend hS).mono ?_
        rintro e w9 hG
        obtain ⟨q, hq, rfl, hI, hW'⟩ := Gave.after hW hG
        exact ⟨rfl, IRes.no HNO.out ⟨q, hq, rfl, hI, hW'⟩⟩
      · go_wp2_with fail
        refine (next_ok B b s a l _ hs ha hend hS).mono ?_
        rintro e w3 ⟨rfl, hS3, hW3⟩
        have hW3' := hW.trans hW3
        have hT3 := HT.out.on hW3'
        have hq : skipP s a < s.size := by omega
        by_cases h41 : byteAt s (skipP s a) = 41
        · have y41 : (((byteAt s (skipP s a)).toNat : Int) != 41) = false := by rw [h41]; rfl
          have HYES : Hid (openR s f p up (deep : Int) out.length = some (skipP s a + 1, ⟨if d then 6 else 5, ⟨#[]⟩, up⟩ :: ps)) := openR_some HF0.out (by rw [HD1.out]; exact CLOSE.out hend h41)
          clear h41
          obtain ⟨hB, v3, hR3, ho3, hP3⟩ := hS3
          have HP3 := hideT' hP3
          clear hP3
          have c1 := i_1 hR3
          have HO3 := hideT' ho3
          clear ho3 hS
          go_wp2_with (refine store_at rfl 3 _ _ rfl rfl b 1 (.int .i64 ((skipP s a : Int) + 1)) rfl rfl one_int rfl 54 (rC s (skipP s a) v3 0) hR3 (show 1 < 4 by omega) ?_; intro w4 hR4 hg4 hs4)
          go_end0
          obtain ⟨hS4, hW4⟩ := ISt.own hB hR3 HO3.out HP3.out hR4 hg4
          exact IRes.yes HYES.out ⟨rfl, by rw [← HL.out]; exact hS4, hW3'.trans hW4⟩
        · have y41 : (((byteAt s (skipP s a)).toNat : Int) != 41) = true := by
            have := byte_ne (n := 41) (by decide) h41
            simpa [bne] using this
          obtain rfl : d = false := by
            cases d with
            | false => rfl
            | true =>
              have hv := HIV.out
              unfold LInv at hv
              rw [if_pos rfl] at hv
              exact absurd hv.2.2.1 (by rw [← hv.1]; exact h41)
          have hv := HIV.out
          unfold LInv at hv
          rw [if_neg (by decide)] at hv
          obtain ⟨g', rfl⟩ : ∃ g', fu = g' + 1 := ⟨fu - 1, by omega⟩
          obtain ⟨hfu, hfu2, hlf⟩ := hv
          have HLF := hideT' hlf
          have H41 := hideT' h41
          clear hlf h41 HIV CLOSE
          obtain ⟨wd, hwd⟩ : ∃ wd, wd = s.extract (skipP s a) (wordP s (skipP s a)) := ⟨_, rfl⟩
          have hdotw := word_dot hq
          rw [← hwd] at hdotw
          have HWD := hideT' hwd
          clear hwd
          go_wp2_with fail
          refine (wordHere_st B b s (skipP s a) l _ hs (by omega) hS3).mono ?_
          rintro e w4 ⟨rfl, hS4, hW4⟩
          rw [← HWD.out]
          have hW4' := hW3'.trans hW4
          have hT4 := HT.out.on hW4'
          clear hS hS3
          cases hdot : isDot s (skipP s a) with
          | true =>
            rw [hdot] at hdotw
            have HLD := hideT' (listF_dot (f := g') (k := out.length) (deep := ((deep + 1 : Nat) : Int)) (n := out.length + 1 + ps.length) hend H41.out hdot)
            clear hdot
            have HDOT : Hid (Calls Tryz.prog 66 #[.pointer (some ⟨b, 0, none⟩), .int .i64 (out.length : Int), .int .i64 (deep : Int)] w4 fun e w' => IDot B b s w4 l out.length (dotR s g' (skipP s a) out.length ((deep + 1 : Nat) : Int) l.length) e w') := by
              by_cases hk1 : l.length = out.length + 1
              · exact dotted_no g' B b s (skipP s a) l out.length deep w4 hl3 hk1 hS4
              · exact dotted_st g' (HIH.out g' (by omega)) B b s (skipP s a) l out.length deep w4 hs hq (by omega) hl3 (by have := HLEN.out; omega) hk1 hd25 hT4 hS4
            go_wp2_with fail
            refine HDOT.out.mono ?_
            rw [HLEN.out]
            rintro e w5 (⟨hr, hG⟩ | ⟨q, qs, hr, hq1, hq2, hq3, rfl, hS5, hW5⟩)
            · have HNO : Hid (openR s f p up (deep : Int) out.length = none) := openR_none (by rw [HD1.out, HLF.out, HLD.out, hr]; rfl)
              obtain ⟨q, hq, rfl, hI, hW'⟩ := Gave.after hW4' hG
              exact ⟨rfl, IRes.no HNO.out ⟨q, hq, rfl, hI, hW'⟩⟩
            · have hle := listF_le f (p + 1) out.length ((deep + 1 : Nat) : Int) (out.length + 1) (q + 1) true (ps ++ qs) hp hn3 (by rw [HLF.out, HLD.out, hr]; rfl)
              have hpl : out.length + 1 + (ps ++ qs).length ≤ 300 := hle.2.2
              have haq : skipP s a < q := by
                by_cases e : q ≤ skipP s a
                · exact absurd (dotR_lt hr hq HPS.out) (by omega)
                · omega
              go_wp2
              go_roundg (s.size - q)
              case measure => omega
              case rel =>
                refine ⟨q, 0, true, ps ++ qs, rfl, by omega, by omega, hpl, ⟨hq3, hq1, hq2, by rw [HLF.out, HLD.out, hr]; rfl⟩, ?_, hW4'.trans hW5⟩
                rw [HL.out] at hS5
                have e1 := dotAt_app out ps up true
                rw [show out ++ [(⟨5, ⟨#[]⟩, up⟩ : Dm)] ++ ps = out ++ ((⟨if false = true then 6 else 5, ⟨#[]⟩, up⟩ : Dm) :: ps) by simp] at e1
                rw [e1] at hS5
                simpa using hS5
          | false =>
            rw [hdot] at hdotw
            have HDT := hideT' hdot
            clear hdot
            go_wp2_with fail
            rw [HD1.out]
            refine (HIH.out g' (by omega) B b s (skipP s a) l (out.length : Int) (deep + 1) _ hs (by omega) (by omega) hl3 hd25 hT4 hS4).mono ?_
            rw [HLEN.out]
            rintro e w5 hres
            cases hone : oneF s g' (skipP s a) (out.length : Int) ((deep + 1 : Nat) : Int) (out.length + 1 + ps.length) with
            | none =>
              rw [hone] at hres
              have HNO : Hid (openR s f p up (deep : Int) out.length = none) := openR_none (by rw [HD1.out, HLF.out, listF_no hend H41.out HDT.out hone]; rfl)
              obtain ⟨q, hq, rfl, hI, hW'⟩ := Gave.after hW4' hres
              exact ⟨rfl, IRes.no HNO.out ⟨q, hq, rfl, hI, hW'⟩⟩
            | some r =>
              obtain ⟨a', qs⟩ := r
              rw [hone] at hres
              obtain ⟨rfl, hS5, hW5⟩ := hres
              have hle := oneF_le g' (skipP s a) (out.length : Int) ((deep + 1 : Nat) : Int) (out.length + 1 + ps.length) a' qs (by omega) HPS.out hone
              have HGO := hideT' (listF_go hend H41.out HDT.out hone)
              have hle1 : skipP s a < a' := hle.1
              have hle2 : a' ≤ s.size := hle.2.1
              have HPL : Hid (out.length + 1 + (ps ++ qs).length ≤ 300) := by unfold Hid; have := hle.2.2.1; rw [List.length_append]; omega
              clear hone hle
              go_wp2
              go_roundg (s.size - a')
              case measure => omega
              case rel =>
                refine ⟨a', g', false, ps ++ qs, rfl, by omega, by omega, HPL, ⟨by omega, by omega, ?_⟩, ?_, hW4'.trans hW5⟩
                · rw [HLF.out, HGO.out, ahead_app, List.length_append, Nat.add_assoc]
                · rw [HL.out] at hS5
                  simpa using hS5

end Go.Proofs.YtnmofolhfbldjaaGreatDoor

/-
  The program's reader: data.
-/
namespace Go.Proofs.YtnmofolhfbldjaaGreatDoor
open Go.RowKit
set_option linter.unusedVariables false

theorem oneF_end {s : ByteArray} {f a : Nat} {up deep : Int} {n : Nat} (h : skipP s a = s.size) : oneF s f a up deep n = none := by
  cases f with
  | zero => rw [oneF]
  | succ f => rw [oneF, if_pos h]
theorem oneF_open {s : ByteArray} {f a : Nat} {up deep : Int} {n : Nat} (h : skipP s a ≠ s.size) (h40 : byteAt s (skipP s a) = 40) : oneF s (f + 1) a up deep n = openR s f (skipP s a) up deep n := by
  rw [oneF, if_neg h, if_pos h40]; rfl
theorem oneF_quote {s : ByteArray} {f a : Nat} {up deep : Int} {n : Nat} (h : skipP s a ≠ s.size) (h39 : byteAt s (skipP s a) = 39) : oneF s (f + 1) a up deep n = quoteR s f (skipP s a) up deep n := by
  rw [oneF, if_neg h, if_neg (by rw [h39]; decide), if_neg (by rw [h39]; decide), if_pos h39]; rfl
theorem oneF_str {s : ByteArray} {f a : Nat} {up deep : Int} {n : Nat} (h : skipP s a ≠ s.size) (h34 : byteAt s (skipP s a) = 34) : oneF s (f + 1) a up deep n = strR s (skipP s a + 1) up n := by
  rw [oneF, if_neg h, if_neg (by rw [h34]; decide), if_neg (by rw [h34]; decide), if_neg (by rw [h34]; decide), if_pos h34]; rfl
theorem oneF_word {s : ByteArray} {f a : Nat} {up deep : Int} {n : Nat} (ha : a ≤ s.size) (h : skipP s a ≠ s.size) (h40 : byteAt s (skipP s a) ≠ 40) (h39 : byteAt s (skipP s a) ≠ 39) (h34 : byteAt s (skipP s a) ≠ 34) : oneF s (f + 1) a up deep n = wordI s (skipP s a) up n := by
  by_cases h41 : byteAt s (skipP s a) = 41
  · have hl := skipP_le s a ha
    have hw : wordP s (skipP s a) = skipP s a := by rw [word_step (by omega), h41]; rfl
    rw [oneF, if_neg h, if_neg h40, if_pos h41]
    unfold wordI
    rw [hw, extract_nil, wordD_nil]
  · rw [oneF, if_neg h, if_neg h40, if_neg h41, if_neg h39, if_neg h34]; rfl

set_option maxHeartbeats 4000000 in
set_option maxRecDepth 100000 in
theorem idatum (f : Nat) (IH : ∀ g, g < f + 1 → IOneC g) : IOneC (f + 1) := by
  intro B b s a out up deep w hs ha hf hn hd hT h
  have hmf : ∀ (fn : Fn) (first cap : Array Value) (w : World), (Instr.makeFunc fn first cap).run Tryz.prog w = .ok (.func fn first cap) w := fun _ _ _ _ => rfl
  have HT := hideT' hT
  have HIH := hideT' IH
  have hsk := skipP_le s a ha
  clear hT IH
  by_cases hend : skipP s a = s.size
  · have HNO : Hid (oneF s (f + 1) a up (deep : Int) out.length = none) := oneF_end hend
    go_enter Tryz.func30, Tryz.ntmps30
    go_wp2_with fail
    refine (next_no B b s a out _ hs ha hend h).mono ?_
    rintro e w9 ⟨q, hq, rfl, hI, hW⟩
    exact ⟨rfl, IRes.no HNO.out ⟨q, hq, rfl, hI, hW⟩⟩
  · have hq : skipP s a < s.size := by omega
    go_enter Tryz.func30, Tryz.ntmps30
    go_wp2_with fail
    refine (next_ok B b s a out _ hs ha hend h).mono ?_
    rintro e w1 ⟨rfl, hS1, hW1⟩
    have hT1 := HT.out.on hW1
    have FIN : Hid (∀ (r : Option (Nat × List Dm)) (e : Ending) (w' : World), oneF s (f + 1) a up (deep : Int) out.length = r → IRes B b s w1 out r e w' → IRes B b s w out (oneF s (f + 1) a up (deep : Int) out.length) e w') := fun r e w' h1 h2 => by
      rw [h1]
      cases r with
      | none => exact Gave.after hW1 h2
      | some r => obtain ⟨a', ps⟩ := r; exact ⟨h2.1, h2.2.1, hW1.trans h2.2.2⟩
    by_cases h40 : byteAt s (skipP s a) = 40
    · have y40 : (((byteAt s (skipP s a)).toNat : Int) == 40) = true := by rw [h40]; rfl
      have HEQ := hideT' (oneF_open (f := f) (up := up) (deep := (deep : Int)) (n := out.length) hend h40)
      clear h40
      go_wp2_with fail
      refine (ilist_st f (fun g hg => HIH.out g (by omega)) B b s (skipP s a) out up deep _ hs hq (by omega) hn hd hT1 hS1).mono ?_
      rintro e w2 hres
      have hfin := FIN.out _ e w2 HEQ.out hres
      cases hr : oneF s (f + 1) a up (deep : Int) out.length with
      | none =>
        rw [hr] at hfin
        obtain ⟨q, hq, rfl, hI, hW⟩ := hfin
        exact ⟨rfl, by rw [hr]; exact ⟨q, hq, rfl, hI, hW⟩⟩
      | some r =>
        obtain ⟨a', ps⟩ := r
        rw [hr] at hfin
        obtain ⟨rfl, hS2, hW2⟩ := hfin
        have HR := hideT' hr
        clear hr
        go_wp2
        go_end0
        exact IRes.yes HR.out ⟨rfl, hS2, hW2⟩
    · have y40 : (((byteAt s (skipP s a)).toNat : Int) == 40) = false := byte_ne (n := 40) (by decide) h40
      by_cases h39 : byteAt s (skipP s a) = 39
      · have y39 : (((byteAt s (skipP s a)).toNat : Int) == 39) = true := by rw [h39]; rfl
        have HEQ := hideT' (oneF_quote (f := f) (up := up) (deep := (deep : Int)) (n := out.length) hend h39)
        clear h40 h39
        go_wp2_with fail
        refine (iquote_st f (HIH.out f (by omega)) B b s (skipP s a) out up deep _ hs hq (by omega) hn hd hT1 hS1).mono ?_
        rintro e w2 hres
        have hfin := FIN.out _ e w2 HEQ.out hres
        cases hr : oneF s (f + 1) a up (deep : Int) out.length with
        | none =>
          rw [hr] at hfin
          obtain ⟨q, hq, rfl, hI, hW⟩ := hfin
          exact ⟨rfl, by rw [hr]; exact ⟨q, hq, rfl, hI, hW⟩⟩
        | some r =>
          obtain ⟨a', ps⟩ := r
          rw [hr] at hfin
          obtain ⟨rfl, hS2, hW2⟩ := hfin
          have HR := hideT' hr
          clear hr
          go_wp2
          go_end0
          exact IRes.yes HR.out ⟨rfl, hS2, hW2⟩
      · have y39 : (((byteAt s (skipP s a)).toNat : Int) == 39) = false := byte_ne (n := 39) (by decide) h39
        by_cases h34 : byteAt s (skipP s a) = 34
        · have y34 : (((byteAt s (skipP s a)).toNat : Int) == 34) = true := by rw [h34]; rfl
          have HEQ := hideT' (oneF_str (f := f) (up := up) (deep := (deep : Int)) (n := out.length) hend h34)
          clear h40 h39 h34
          go_wp2_with fail
          refine (istr_st B b s (skipP s a) out up (deep : Int) _ hs hq hn hS1).mono ?_
          rintro e w2 hres
          have hfin := FIN.out _ e w2 HEQ.out hres
          cases hr : oneF s (f + 1) a up (deep : Int) out.length with
          | none =>
            rw [hr] at hfin
            obtain ⟨q, hq, rfl, hI, hW⟩ := hfin
            exact ⟨rfl, by rw [hr]; exact ⟨q, hq, rfl, hI, hW⟩⟩
          | some r =>
            obtain ⟨a', ps⟩ := r
            rw [hr] at hfin
            obtain ⟨rfl, hS2, hW2⟩ := hfin
            have HR := hideT' hr
            clear hr
            go_wp2
            go_end0
            exact IRes.yes HR.out ⟨rfl, hS2, hW2⟩
        · have y34 : (((byteAt s (skipP s a)).toNat : Int) == 34) = false := byte_ne (n := 34) (by decide) h34
          have HEQ := hideT' (oneF_word (f := f) (up := up) (deep := (deep : Int)) (n := out.length) ha hend h40 h39 h34)
          clear h40 h39 h34
          go_wp2_with fail
          refine (iword_st B b s (skipP s a) out up (deep : Int) _ hs hsk.2 hn hT1 hS1).mono ?_
          rintro e w2 hres
          have hfin := FIN.out _ e w2 HEQ.out hres
          cases hr : oneF s (f + 1) a up (deep : Int) out.length with
          | none =>
            rw [hr] at hfin
            obtain ⟨q, hq, rfl, hI, hW⟩ := hfin
            exact ⟨rfl, by rw [hr]; exact ⟨q, hq, rfl, hI, hW⟩⟩
          | some r =>
            obtain ⟨a', ps⟩ := r
            rw [hr] at hfin
            obtain ⟨rfl, hS2, hW2⟩ := hfin
            have HR := hideT' hr
            clear hr
            go_wp2
            go_end0
            exact IRes.yes HR.out ⟨rfl, hS2, hW2⟩

theorem idatum_all : ∀ f, IOneC f := by
  intro f
  induction f using Nat.strongRecOn with
  | _ f IH =>
    cases f with
    | zero => intro B b s a out up deep w hs ha hf; omega
    | succ f => exact idatum f IH
end Go.Proofs.YtnmofolhfbldjaaGreatDoor

/-
  The program's reader: what catches a panic in impl.ReadData; what a text is read to.
-/
namespace Go.Proofs.YtnmofolhfbldjaaGreatDoor
open Go.RowKit
set_option linter.unusedVariables false

noncomputable def topF (s : ByteArray) : Nat → Nat → List Dm → Option (List Dm)
  | 0, _, _ => none
  | g + 1, a, out =>
    if skipP s a = s.size then some out
    else match oneF s (2 * s.size + 1) a (-1) 0 out.length with
      | none => none
      | some (a', ps) => topF s g a' (out ++ ps)
/-- What a text is read to. -/
noncomputable def readP (s : ByteArray) : Option (List Dm) := if 1500 < s.size then none else topF s (s.size + 1) 0 []

set_option maxHeartbeats 2000000 in
set_option maxRecDepth 100000 in
theorem recov_no (p2 p3 p4 : Addr) (w : World) :
    CallsD Tryz.prog 28 #[.pointer (some p4), .pointer (some p2), .pointer (some p3)] .returning w fun e u' w' => e = .returned (.tuple #[]) ∧ u' = .returning ∧ w' = w := by
  refine callsD_of_wpS Tryz.func28 rfl fun c₀ cs hu => ?_
  apply wpS_seq
  apply wpS_region
  simp [wpOpsS, go_sem, recoverD, hu, Tryz.ntmps28, Exit.thenS]
  refine wpS_cond (t := false) (by simp [Act.eval, Array.replicate]) ?_
  simp only [Bool.false_eq_true, if_false]
  refine wpS_of_wp (wp_skip ?_)
  cases c₀
  simp_all [bodyPostS, results, Tryz.results28]

set_option maxHeartbeats 2000000 in
set_option maxRecDepth 100000 in
theorem recov_yes (N : Nat) (s : ByteArray) (a k c : Int) (v d : Value) (pv : Value) (w : World) (hD : RowAt w N 23 #[d]) (hC : RowAt w (N + 1) 3 #[.int .i64 c]) (hP : PAt w (N + 1 + 1)) (hI : IAt w (N + 1 + 1) s a v k) :
    CallsD Tryz.prog 28 #[.pointer (some ⟨N + 1 + 1 + 1, 0, none⟩), .pointer (some ⟨N, 0, none⟩), .pointer (some ⟨N + 1, 0, none⟩)] (.panicking [{ v := .iface 3 pv, recovered := false }]) w fun e u' w' =>
      e = .returned (.tuple #[]) ∧ u' = .panicking [{ v := .iface 3 pv, recovered := true }] ∧ RowAt w' N 23 #[.slice none 0 0] ∧ RowAt w' (N + 1) 3 #[.int .i64 k] ∧ Below N w w' := by
  have p0 : w.cell? ⟨N + 1 + 1 + 1, 0, none⟩ = some (.pointer (some ⟨N + 1 + 1, 0, none⟩)) := by rw [cell_of_row w (N + 1 + 1 + 1) _ _ _ _ hP]; rfl
  have p3 := i_3 hI
  have hNl := RowAt.lt hD
  refine callsD_of_wpS Tryz.func28 rfl fun c₀ cs hu => ?_
  apply wpS_seq
  apply wpS_region
  simp [wpOpsS, go_sem, recoverD, hu, Tryz.ntmps28, Exit.thenS]
  refine wpS_cond (t := true) (by simp [Act.eval, Array.replicate]) ?_
  simp only [if_true]
  refine wpS_of_wp ?_
  rw [show (#[Value.pointer (some ⟨N + 1 + 1 + 1, 0, none⟩), Value.pointer (some ⟨N, 0, none⟩), Value.pointer (some ⟨N + 1, 0, none⟩)] ++ ((Array.replicate 6 undef).setIfInBounds 0 (Value.iface 3 pv)).setIfInBounds 1 (Value.bool true) : Array Value) = #[Value.pointer (some ⟨N + 1 + 1 + 1, 0, none⟩), Value.pointer (some ⟨N, 0, none⟩), Value.pointer (some ⟨N + 1, 0, none⟩), Value.iface 3 pv, Value.bool true, undef, undef, undef, undef] from rfl]
  go_wp2_with (first | (refine store_at rfl 23 _ _ rfl rfl N 0 (.slice none 0 0) rfl rfl one_sl rfl 23 #[d] hD (show 0 < 1 by omega) ?_; intro w1 hD1 hg1 hs1; have hC1 : RowAt w1 (N + 1) 3 #[.int .i64 c] := RowAt.grown hC hg1 (by intro e; injection e; omega)) | (refine store_at rfl 3 _ _ rfl rfl (N + 1) 0 (.int .i64 k) rfl rfl one_int rfl 3 #[.int .i64 c] hC1 (show 0 < 1 by omega) ?_; intro w2 hC2 hg2 hs2))
  have hD2 : RowAt w2 N 23 #[.slice none 0 0] := RowAt.grown (show RowAt w1 N 23 #[.slice none 0 0] from hD1) hg2 (by intro e; injection e; omega)
  have hC2' : RowAt w2 (N + 1) 3 #[.int .i64 k] := hC2
  have hW : Below N w w2 := ((Below.refl N w).grown hg1 (by omega) (by intro k hk; injection hk; omega)).grown hg2 (by omega) (by intro k hk; injection hk; omega)
  simp [bodyPostS, results, Tryz.results28, hD2, hC2', hW]

end Go.Proofs.YtnmofolhfbldjaaGreatDoor

/-
  Data as trees; what a text is read to is the nodes of trees.
-/
namespace Go.Proofs.YtnmofolhfbldjaaGreatDoor
open Go.RowKit
set_option linter.unusedVariables false

inductive Tr where
  | mk (k : Int) (t : ByteArray) (kids : List Tr)
mutual
def Tr.sz : Tr → Nat
  | .mk _ _ ks => 1 + szs ks
def szs : List Tr → Nat
  | [] => 0
  | T :: Ts => T.sz + szs Ts
end
mutual
/-- The nodes of a tree whose first one has the number n. -/
def Tr.flat : Tr → Nat → Int → List Dm
  | .mk k t ks, n, up => ⟨k, t, up⟩ :: flats ks (n + 1) n
def flats : List Tr → Nat → Int → List Dm
  | [], _, _ => []
  | T :: Ts, n, up => T.flat n up ++ flats Ts (n + T.sz) up
end
mutual
theorem flat_sz : ∀ (T : Tr) (n : Nat) (up : Int), (T.flat n up).length = T.sz
  | .mk k t ks, n, up => by rw [Tr.flat, Tr.sz, List.length_cons, flats_sz ks]; omega
theorem flats_sz : ∀ (Ts : List Tr) (n : Nat) (up : Int), (flats Ts n up).length = szs Ts
  | [], _, _ => by rw [flats, szs]; rfl
  | T :: Ts, n, up => by rw [flats, szs, List.length_append, flat_sz T, flats_sz Ts]
end
theorem flats_app : ∀ (Ts Us : List Tr) (n : Nat) (up : Int), flats (Ts ++ Us) n up = flats Ts n up ++ flats Us (n + szs Ts) up
  | [], Us, n, up => by rw [flats, szs]; rfl
  | T :: Ts, Us, n, up => by
    show flats (T :: (Ts ++ Us)) n up = _
    rw [flats, flats, szs, flats_app Ts Us, List.append_assoc, Nat.add_assoc]
theorem flats_one (T : Tr) (n : Nat) (up : Int) : flats [T] n up = T.flat n up := by rw [flats, flats, List.append_nil]

theorem read_trees (s : ByteArray) : ∀ f : Nat, (∀ (a : Nat) (up deep : Int) (n a' : Nat) (ps : List Dm), oneF s f a up deep n = some (a', ps) → ∃ T : Tr, ps = T.flat n up) ∧ (∀ (a k : Nat) (deep : Int) (n a' : Nat) (d : Bool) (ps : List Dm), listF s f a k deep n = some (a', d, ps) → ∃ Ts : List Tr, ps = flats Ts n k) := by
  intro f
  induction f with
  | zero =>
    refine ⟨?_, ?_⟩
    · intro a up deep n a' ps h; rw [oneF] at h; cases h
    · intro a k deep n a' d ps h; rw [listF] at h; cases h
  | succ f IH =>
    obtain ⟨I1, I2⟩ := IH
    refine ⟨?_, ?_⟩
    · intro a up deep n a' ps h
      rw [oneF] at h
      split at h
      · cases h
      · split at h
        · split at h
          · cases h
          · split at h
            · cases h
            · next a2 d2 ps2 h2 =>
              obtain ⟨Ts, rfl⟩ := I2 _ _ _ _ _ _ _ h2
              injection h with h; injection h with h3 h4
              exact ⟨.mk _ _ Ts, by rw [← h4, Tr.flat]⟩
        · split at h
          · cases h
          · split at h
            · split at h
              · cases h
              · split at h
                · cases h
                · next a2 ps2 h2 =>
                  obtain ⟨T, rfl⟩ := I1 _ _ _ _ _ _ h2
                  injection h with h; injection h with h3 h4
                  refine ⟨.mk 5 ⟨#[]⟩ [.mk 2 ⟨#[113, 117, 111, 116, 101]⟩ [], T], ?_⟩
                  rw [← h4, Tr.flat, flats, flats_one, Tr.flat, flats, Tr.sz, szs]
                  rfl
            · split at h
              · split at h
                · cases h
                · split at h
                  · cases h
                  · injection h with h; injection h with h3 h4
                    exact ⟨.mk 3 _ [], by rw [← h4, Tr.flat, flats]⟩
              · split at h
                · cases h
                · split at h
                  · cases h
                  · injection h with h; injection h with h3 h4
                    exact ⟨.mk _ _ [], by rw [← h4, Tr.flat, flats]⟩
    · intro a k deep n a' d ps h
      rw [listF] at h
      split at h
      · cases h
      · split at h
        · injection h with h; injection h with h3 h4; injection h4 with h4 h5
          exact ⟨[], by rw [← h5, flats]⟩
        · split at h
          · split at h
            · cases h
            · split at h
              · cases h
              · next a2 ps2 h2 =>
                split at h
                · obtain ⟨T, rfl⟩ := I1 _ _ _ _ _ _ h2
                  injection h with h; injection h with h3 h4; injection h4 with h4 h5
                  exact ⟨[T], by rw [← h5, flats_one]⟩
                · cases h
          · split at h
            · cases h
            · next a2 ps2 h2 =>
              split at h
              · cases h
              · next a3 d3 qs h3 =>
                obtain ⟨T, rfl⟩ := I1 _ _ _ _ _ _ h2
                obtain ⟨Ts, rfl⟩ := I2 _ _ _ _ _ _ _ h3
                injection h with h; injection h with h5 h6; injection h6 with h6 h7
                exact ⟨T :: Ts, by rw [← h7, flats, flat_sz]⟩
theorem top_trees (s : ByteArray) : ∀ (g a : Nat) (Us : List Tr) (l : List Dm), topF s g a (flats Us 0 (-1)) = some l → ∃ Ts : List Tr, l = flats Ts 0 (-1) := by
  intro g
  induction g with
  | zero => intro a Us l h; rw [topF] at h; cases h
  | succ g IH =>
    intro a Us l h
    rw [topF] at h
    split at h
    · injection h with h; exact ⟨Us, h.symm⟩
    · split at h
      · cases h
      · next a2 ps2 h2 =>
        obtain ⟨T, rfl⟩ := (read_trees s _).1 _ _ _ _ _ _ h2
        refine IH a2 (Us ++ [T]) l ?_
        rw [flats_app, flats_one, Nat.zero_add, ← flats_sz Us 0 (-1)]
        exact h
/-- What a text is read to is the nodes of trees. -/
theorem readP_trees {s : ByteArray} {l : List Dm} (h : readP s = some l) : ∃ Ts : List Tr, l = flats Ts 0 (-1) := by
  unfold readP at h
  split at h
  · cases h
  · exact top_trees s _ 0 [] l (by rw [flats]; exact h)
end Go.Proofs.YtnmofolhfbldjaaGreatDoor

/-
  Trees in memory: forms, each with a row of its parts; what they stay under.
-/
namespace Go.Proofs.YtnmofolhfbldjaaGreatDoor
open Go.RowKit
set_option linter.unusedVariables false

/-- A row of forms (three cells each) whose block is as P says. -/
def RowIn (w : World) (T : TypeId) (P : Nat → Prop) (z : Value) (xs : List Value) : Prop :=
  (z = .slice none 0 0 ∧ xs = []) ∨ ∃ g n cap cur, z = .slice (some ⟨g, 0, none⟩) n cap ∧ P g ∧ w.heap[g]? = some (.cells cur T (0, 0)) ∧ xs.length = n * 3 ∧ cur.toList.take (n * 3) = xs ∧ n ≤ cap
mutual
/-- The three cells of a form, and all that is in it; each block is as P says. -/
def Tr.cells (w : World) (T : TypeId) (P : Nat → Prop) : Tr → List Value → Prop
  | .mk k t ks, xs => ∃ z ys, xs = [.int .i64 k, .string t, z] ∧ RowIn w T P z ys ∧ trsC w T P ks ys
def trsC (w : World) (T : TypeId) (P : Nat → Prop) : List Tr → List Value → Prop
  | [], xs => xs = []
  | A :: As, xs => ∃ a b, xs = a ++ b ∧ A.cells w T P a ∧ trsC w T P As b
end
theorem RowIn.mono {w w' : World} {T : TypeId} {P Q : Nat → Prop} {z : Value} {xs : List Value} (hP : ∀ g, P g → Q g ∧ (∀ o, w.heap[g]? = some o → w'.heap[g]? = some o)) (h : RowIn w T P z xs) : RowIn w' T Q z xs := by
  rcases h with h | ⟨g, n, cap, cur, h1, h2, h3, h4, h5⟩
  · exact .inl h
  · exact .inr ⟨g, n, cap, cur, h1, (hP g h2).1, (hP g h2).2 _ h3, h4, h5⟩
mutual
theorem cells_mono {w w' : World} {T : TypeId} {P Q : Nat → Prop} (hP : ∀ g, P g → Q g ∧ (∀ o, w.heap[g]? = some o → w'.heap[g]? = some o)) : ∀ (A : Tr) (xs : List Value), A.cells w T P xs → A.cells w' T Q xs
  | .mk k t ks, xs, h => by
    rw [Tr.cells] at *
    obtain ⟨z, ys, h1, h2, h3⟩ := h
    exact ⟨z, ys, h1, h2.mono hP, trsC_mono hP ks ys h3⟩
theorem trsC_mono {w w' : World} {T : TypeId} {P Q : Nat → Prop} (hP : ∀ g, P g → Q g ∧ (∀ o, w.heap[g]? = some o → w'.heap[g]? = some o)) : ∀ (As : List Tr) (xs : List Value), trsC w T P As xs → trsC w' T Q As xs
  | [], xs, h => by rw [trsC] at *; exact h
  | A :: As, xs, h => by
    rw [trsC] at *
    obtain ⟨a, b, h1, h2, h3⟩ := h
    exact ⟨a, b, h1, cells_mono hP A a h2, trsC_mono hP As b h3⟩
end
theorem cells_len {w : World} {T : TypeId} {P : Nat → Prop} : ∀ (A : Tr) (xs : List Value), A.cells w T P xs → xs.length = 3
  | .mk k t ks, xs, h => by
    rw [Tr.cells] at h
    obtain ⟨z, ys, h1, _⟩ := h
    rw [h1]; rfl
theorem trsC_len {w : World} {T : TypeId} {P : Nat → Prop} : ∀ (As : List Tr) (xs : List Value), trsC w T P As xs → xs.length = As.length * 3
  | [], xs, h => by rw [trsC] at h; rw [h]; rfl
  | A :: As, xs, h => by
    rw [trsC] at h
    obtain ⟨a, b, h1, h2, h3⟩ := h
    rw [h1, List.length_append, cells_len A a h2, trsC_len As b h3, List.length_cons]; omega
theorem trsC_snoc {w : World} {T : TypeId} {P : Nat → Prop} : ∀ (As : List Tr) (A : Tr) (xs ys : List Value), trsC w T P As xs → A.cells w T P ys → trsC w T P (As ++ [A]) (xs ++ ys)
  | [], A, xs, ys, h, h2 => by
    rw [trsC] at h
    subst h
    show trsC w T P [A] ys
    rw [trsC]
    exact ⟨ys, [], by simp, h2, by rw [trsC]⟩
  | B :: As, A, xs, ys, h, h2 => by
    rw [trsC] at h
    obtain ⟨a, b, h1, h3, h4⟩ := h
    show trsC w T P (B :: (As ++ [A])) (xs ++ ys)
    rw [trsC]
    exact ⟨a, b ++ ys, by rw [h1, List.append_assoc], h3, trsC_snoc As A b ys h4 h2⟩
/-- A row that one owns, as a row of forms. -/
theorem own_rowIn {w : World} {B n : Nat} {T : TypeId} {z : Value} {xs : List Value} {P : Nat → Prop} (h : w.ownsRow B T 3 z n xs) (hP : ∀ g, z.ownBlock = some g → P g) : RowIn w T P z xs := by
  rcases h.2 with ⟨rfl, rfl⟩ | ⟨g, cap, cur, rfl, h2, h3, h4, h5, h6, h7⟩
  · exact .inl ⟨rfl, by have := h.1; simpa using this⟩
  · exact .inr ⟨g, n, cap, cur, rfl, hP g rfl, h3, h.1, h7, h4⟩
end Go.Proofs.YtnmofolhfbldjaaGreatDoor

/-
  Rows of three cells each of whatever type; nodes in memory; the rows of forms.
-/
namespace Go.Proofs.YtnmofolhfbldjaaGreatDoor
open Go.RowKit
set_option linter.unusedVariables false

theorem ownT_ne {w : World} {B n k : Nat} {T : TypeId} {v : Value} {xs : List Value} {t : TypeId} {cs : Array Value} (h : w.ownsRow B T 3 v n xs) (hR : RowAt w k t cs) (ht : t ≠ T) : some k ≠ v.ownBlock := by
  rcases h.2 with ⟨rfl, _⟩ | ⟨g, cap, cur, rfl, _, h3, _⟩
  · simp [Value.ownBlock]
  · intro e
    simp [Value.ownBlock] at e
    subst e
    unfold RowAt at hR
    rw [h3] at hR
    injection hR with hR
    injection hR with _ hR
    exact ht hR.symm
theorem ownT_grown {w w' : World} {B n k : Nat} {T : TypeId} {v : Value} {xs : List Value} (h : w.ownsRow B T 3 v n xs) (hg : w.grownBy w' (some k)) (hk : some k ≠ v.ownBlock) : w'.ownsRow B T 3 v n xs := by
  refine ⟨h.1, ?_⟩
  rcases h.2 with h1 | ⟨g, cap, cur, rfl, h2, h3, h4⟩
  · exact .inl h1
  · refine .inr ⟨g, cap, cur, rfl, h2, ?_, h4⟩
    rw [hg.block g (Array.getElem?_eq_some_iff.1 h3).1 (fun e => hk (by rw [← e]; rfl))]; exact h3
theorem ownT_ge {w : World} {B n : Nat} {T : TypeId} {v : Value} {xs : List Value} (h : w.ownsRow B T 3 v n xs) {k : Nat} (hk : v.ownBlock = some k) : B ≤ k := by
  rcases h.2 with ⟨rfl, _⟩ | ⟨g, cap, cur, rfl, hg, _⟩
  · simp [Value.ownBlock] at hk
  · simp [Value.ownBlock] at hk; omega
theorem ownT_lt {w : World} {B n : Nat} {T : TypeId} {v : Value} {xs : List Value} (h : w.ownsRow B T 3 v n xs) {k : Nat} (hk : v.ownBlock = some k) : k < w.heap.size := by
  rcases h.2 with ⟨rfl, _⟩ | ⟨g, cap, cur, rfl, hg, h3, _⟩
  · simp [Value.ownBlock] at hk
  · simp [Value.ownBlock] at hk
    subst hk
    exact (Array.getElem?_eq_some_iff.1 h3).1
theorem ownT_form {w : World} {B n : Nat} {T : TypeId} {v : Value} {xs : List Value} (h : w.ownsRow B T 3 v n xs) : ∃ o cap, v = .slice o n cap := by
  rcases h.2 with ⟨rfl, rfl⟩ | ⟨g, cap, cur, rfl, _⟩
  · exact ⟨none, 0, rfl⟩
  · exact ⟨_, _, rfl⟩
theorem ownT_below {w w' : World} {B C n : Nat} {T : TypeId} {v : Value} {xs : List Value} (h : w.ownsRow B T 3 v n xs) (hg : Below C w w') (hC : w.heap.size ≤ C) : w'.ownsRow B T 3 v n xs := by
  refine ⟨h.1, ?_⟩
  rcases h.2 with h1 | ⟨g, cap, cur, rfl, h2, h3, h4⟩
  · exact .inl h1
  · refine .inr ⟨g, cap, cur, rfl, h2, ?_, h4⟩
    have hlt := (Array.getElem?_eq_some_iff.1 h3).1
    rw [hg.block g (by omega)]; exact h3

theorem flatMap_get : ∀ (l : List Dm) (i j : Nat), i < l.length → j < 3 → (l.flatMap dmL)[i * 3 + j]? = (dmL (l.getD i default))[j]?
  | [], i, j, hi, _ => by simp at hi
  | d :: l, 0, j, _, hj => by
    rw [List.flatMap_cons, List.getElem?_append_left (by simp [dmL]; omega)]
    simp
  | d :: l, i + 1, j, hi, hj => by
    rw [List.flatMap_cons, List.getElem?_append_right (by simp [dmL]; omega)]
    have e : (i + 1) * 3 + j - (dmL d).length = i * 3 + j := by simp [dmL]; omega
    rw [e, flatMap_get l i j (by simpa using hi) hj]
    simp

/-- Nodes that lie in memory, to be read. -/
def NodeAt (w : World) (v : Value) (l : List Dm) : Prop :=
  (v = .slice none 0 0 ∧ l = []) ∨ ∃ g cap cur, v = .slice (some ⟨g, 0, none⟩) l.length cap ∧ w.heap[g]? = some (.cells cur 39 (0, 0)) ∧ cur.toList.take (l.length * 3) = l.flatMap dmL
theorem NodeAt.of {w : World} {B : Nat} {v : Value} {l : List Dm} (h : w.ownsRow B 39 3 v l.length (l.flatMap dmL)) : NodeAt w v l := by
  rcases h.2 with ⟨rfl, h2⟩ | ⟨g, cap, cur, rfl, h2, h3, h4, h5, h6, h7⟩
  · exact .inl ⟨rfl, List.length_eq_zero_iff.1 h2⟩
  · exact .inr ⟨g, cap, cur, rfl, h3, h7⟩
theorem NodeAt.below {w w' : World} {C : Nat} {v : Value} {l : List Dm} (h : NodeAt w v l) (hg : Below C w w') (hC : w.heap.size ≤ C) : NodeAt w' v l := by
  rcases h with h | ⟨g, cap, cur, h1, h2, h3⟩
  · exact .inl h
  · have hlt := (Array.getElem?_eq_some_iff.1 h2).1
    exact .inr ⟨g, cap, cur, h1, by rw [hg.block g (by omega)]; exact h2, h3⟩
/-- A node's cells, in every world that has the block as it is. -/
theorem NodeAt.cells {w : World} {v : Value} {l : List Dm} (h : NodeAt w v l) (i : Nat) (hi : i < l.length) : ∃ g cap cur, v = .slice (some ⟨g, 0, none⟩) l.length cap ∧ w.heap[g]? = some (.cells cur 39 (0, 0)) ∧
    ∀ w' : World, w'.heap[g]? = some (.cells cur 39 (0, 0)) → w'.cell? ⟨g, i * 3, none⟩ = some (.int .i64 (l.getD i default).k) ∧ w'.cell? ⟨g, i * 3 + 1, none⟩ = some (.string (l.getD i default).t) ∧ w'.cell? ⟨g, i * 3 + 2, none⟩ = some (.int .i64 (l.getD i default).u) := by
  rcases h with ⟨_, rfl⟩ | ⟨g, cap, cur, h1, h2, h3⟩
  · simp at hi
  · have key : ∀ j, j < 3 → cur[i * 3 + j]? = (dmL (l.getD i default))[j]? := by
      intro j hj
      have h4 : (cur.toList.take (l.length * 3))[i * 3 + j]? = (l.flatMap dmL)[i * 3 + j]? := by rw [h3]
      rw [List.getElem?_take, if_pos (by omega)] at h4
      have h5 := flatMap_get l i j hi hj
      rw [h5] at h4
      simpa using h4
    refine ⟨g, cap, cur, h1, h2, fun w' h2 => ⟨?_, ?_, ?_⟩⟩
    · rw [cell_of_row w' g _ _ _ _ h2]; have := key 0 (by omega); rw [Nat.add_zero] at this; rw [this]; rfl
    · rw [cell_of_row w' g _ _ _ _ h2, key 1 (by omega)]; rfl
    · rw [cell_of_row w' g _ _ _ _ h2, key 2 (by omega)]; rfl

/-- The cells of a form, and of one as an array. -/
def fmL (k : Int) (t : ByteArray) (z : Value) : List Value := [.int .i64 k, .string t, z]
def fmC (k : Int) (t : ByteArray) (z : Value) : Array Value := #[.int .i64 k, .string t, z]
theorem fmL_one (k : Int) (t : ByteArray) (z : Value) (hz : z.oneCell' = true) : ∀ u ∈ fmL k t z, u.oneCell' = true := by
  intro u hu; simp [fmL] at hu; rcases hu with rfl | rfl | rfl <;> first | rfl | exact hz
theorem fmC_one (k : Int) (t : ByteArray) (z : Value) (hz : z.oneCell' = true) : (fmC k t z).all (·.oneCell') = true := by
  rw [Array.all_eq_true_iff_forall_mem]
  intro v hv
  simp [fmC] at hv
  rcases hv with rfl | rfl | rfl <;> first | rfl | exact hz
theorem fm_cells (w : World) (T : TypeId) (k : Int) (t : ByteArray) (z : Value) : ∀ j u, (fmL k t z)[j]? = some u → (w.alloc (.cells (fmC k t z) T)).cell? ((⟨w.heap.size, 0, none⟩ : Addr).add j) = some u := fun j u h => by
  have e : (⟨w.heap.size, 0, none⟩ : Addr).add j = ⟨w.heap.size, j, none⟩ := by unfold Addr.add; split <;> simp_all
  rw [e, cell_of_row _ w.heap.size j (fmC k t z) T (0, 0) (heap_alloc_new _ _)]
  simpa [fmC, fmL] using h

/-- New blocks, those of a row that is being made aside. -/
def InB (w wr : World) (z : Value) (g : Nat) : Prop := w.heap.size ≤ g ∧ g < wr.heap.size ∧ z.ownBlock ≠ some g
def NewB (w wr : World) (g : Nat) : Prop := w.heap.size ≤ g ∧ g < wr.heap.size

/-- Where a row lies that was added to: where it lay, or in the newest block. -/
theorem append_where {w : World} (base : Nat) (t ty e : TypeId) (i : TypeInfo) (z : Value) (size bytes : Nat) (ht : Tryz.prog.underlying t = some (.slice e)) (hi : Tryz.prog.info? e = some i) (hz : i.zero = some z) (hsize : i.size = size) (hby : i.bytes = bytes)
    (v : Value) (n : Nat) (xs : List Value) (hown : w.ownsRow base e size v n xs) (a : Addr) (m c : Nat) (news : List Value) (hl : news.length = m * size) (hnews : ∀ j u, news[j]? = some u → w.cell? (a.add j) = some u) (h1 : ∀ u ∈ news, u.oneCell' = true)
    (hm : 0 < m) (h63 : n + m ≤ maxLen) (hbytes : (n + m) * bytes ≤ 140737488355328) (v' : Value) (w' : World) (hrun : (Builtin.append_ #[t, t] ty #[v, .slice (some a) m c]).run Tryz.prog w = .ok v' w') : v'.ownBlock = v.ownBlock ∨ v'.ownBlock = some w.heap.size := by
  subst hsize
  subst hby
  have hsmall : n + m ≤ 9223372036854775807 := by simp only [maxLen] at h63; omega
  rcases hown.2 with ⟨rfl, rfl⟩ | ⟨g, cap, cur, rfl, hbg, hg, hnc, hcm, hcs, htake⟩
  · rw [run_append_nil (P := Tryz.prog) w t ty e i z ht hi hz a m c news hl hnews hm (by omega) (by simp only [Nat.zero_add] at hbytes; omega)] at hrun
    injection hrun with h2 h3
    right
    rw [← h2]; rfl
  · by_cases hroom : n + m ≤ cap
    · rw [run_append_room (P := Tryz.prog) w t ty e i ht hi g n cap cur hg a m c news hl hnews h1 hroom (by rw [hl, hcs, ← Nat.add_mul]; exact Nat.mul_le_mul_right _ hroom)] at hrun
      injection hrun with h2 h3
      left
      rw [← h2]; rfl
    · rw [run_append_grow (P := Tryz.prog) w t ty e i z ht hi hz ⟨g, 0, none⟩ n cap xs hown.1 (hown.cells (g := g) rfl) a m c news hl hnews (by omega) (by omega) (growslice_fits (by omega) hbytes)] at hrun
      injection hrun with h2 h3
      right
      rw [← h2]; rfl

/-- A row that one owns is added to, and one knows where it lies then. -/
theorem append_own3 (w : World) {ops : Array Oper} {rest : List Oper} {o : Oper} {a : Act} {Q : Exit → Act → World → Prop} (hgd : o.guard = none) (s x : Operand) (t : TypeId)
    (ho : o.op = .call { callee := .builtin .append, args := #[s, x], argTypes := #[t, t] })
    (base : Nat) (e : TypeId) (i : TypeInfo) (z : Value) (size bytes : Nat) (ht : Tryz.prog.underlying t = some (.slice e)) (hi : Tryz.prog.info? e = some i) (hz : i.zero = some z)
    (hsize : i.size = size) (hby : i.bytes = bytes) (hzs : z.cells.size = size) (hsz : 0 < size)
    (v : Value) (n : Nat) (xs : List Value) (hs : a.eval s = v) (hown : w.ownsRow base e size v n xs)
    (ad : Addr) (m c : Nat) (news : List Value) (hx : a.eval x = .slice (some ad) m c) (hl : news.length = m * size) (hnews : ∀ j u, news[j]? = some u → w.cell? (ad.add j) = some u) (h1 : ∀ u ∈ news, u.oneCell' = true) (hm : 0 < m)
    (h63 : n + m ≤ maxLen) (hbytes : (n + m) * bytes ≤ 140737488355328) (hbase : base ≤ w.heap.size)
    (h : ∀ v' w', w'.ownsRow base e size v' (n + m) (xs ++ news) → w.grownBy w' v.ownBlock → (v'.ownBlock = v.ownBlock ∨ v'.ownBlock = some w.heap.size) → wpList Tryz.prog ops Q rest (a.put o.dst v') w') : wpList Tryz.prog ops Q (o :: rest) a w :=
  wpList_plain hgd fun _ hK => by
    obtain ⟨v', w', hr, h2, h3, h4⟩ := run_append_own (P := Tryz.prog) w base t o.type e i z size bytes ht hi hz hsize hby hzs hsz v n xs hown ad m c news hl hnews h1 h63 hbytes hbase
    have h5 := append_where base t o.type e i z size bytes ht hi hz hsize hby v n xs hown ad m c news hl hnews h1 hm h63 hbytes v' w' hr
    unfold Oper.wp execOp
    simp only [ho, resolve, invoke, builtin, Sem.run_bind, Sem.run_pure, Result.andThen_ok, List.map_toArray, List.map_cons, List.map_nil, hs, hx, hr]
    exact hK _ _ (h v' w' h2 h3 h5)

/-- The same, of the operation alone. -/
theorem append_own3_wp (w : World) {o : Oper} {a : Act} {K : Act → World → Prop} {Q : Exit → Act → World → Prop} (s x : Operand) (t : TypeId)
    (ho : o.op = .call { callee := .builtin .append, args := #[s, x], argTypes := #[t, t] })
    (base : Nat) (e : TypeId) (i : TypeInfo) (z : Value) (size bytes : Nat) (ht : Tryz.prog.underlying t = some (.slice e)) (hi : Tryz.prog.info? e = some i) (hz : i.zero = some z)
    (hsize : i.size = size) (hby : i.bytes = bytes) (hzs : z.cells.size = size) (hsz : 0 < size)
    (v : Value) (n : Nat) (xs : List Value) (hs : a.eval s = v) (hown : w.ownsRow base e size v n xs)
    (ad : Addr) (m c : Nat) (news : List Value) (hx : a.eval x = .slice (some ad) m c) (hl : news.length = m * size) (hnews : ∀ j u, news[j]? = some u → w.cell? (ad.add j) = some u) (h1 : ∀ u ∈ news, u.oneCell' = true) (hm : 0 < m)
    (h63 : n + m ≤ maxLen) (hbytes : (n + m) * bytes ≤ 140737488355328) (hbase : base ≤ w.heap.size)
    (h : ∀ v' w', w'.ownsRow base e size v' (n + m) (xs ++ news) → w.grownBy w' v.ownBlock → (v'.ownBlock = v.ownBlock ∨ v'.ownBlock = some w.heap.size) → K (a.put o.dst v') w') : o.wp Tryz.prog a w K Q := by
  obtain ⟨v', w', hr, h2, h3, h4⟩ := run_append_own (P := Tryz.prog) w base t o.type e i z size bytes ht hi hz hsize hby hzs hsz v n xs hown ad m c news hl hnews h1 h63 hbytes hbase
  have h5 := append_where base t o.type e i z size bytes ht hi hz hsize hby v n xs hown ad m c news hl hnews h1 hm h63 hbytes v' w' hr
  unfold Oper.wp execOp
  simp only [ho, resolve, invoke, builtin, Sem.run_bind, Sem.run_pure, Result.andThen_ok, List.map_toArray, List.map_cons, List.map_nil, hs, hx, hr]
  exact h v' w' h2 h3 h5

theorem own_heap {w w' : World} {B n s : Nat} {e : TypeId} {v : Value} {xs : List Value} (h : w.ownsRow B e s v n xs) (hh : ∀ g, v.ownBlock = some g → w'.heap[g]? = w.heap[g]?) : w'.ownsRow B e s v n xs := by
  refine ⟨h.1, ?_⟩
  rcases h.2 with h1 | ⟨g, cap, cur, rfl, h2, h3, h4⟩
  · exact .inl h1
  · exact .inr ⟨g, cap, cur, rfl, h2, by rw [hh g rfl]; exact h3, h4⟩

theorem len_szs : ∀ (As : List Tr), As.length ≤ szs As
  | [] => by rw [szs]; exact Nat.le_refl _
  | (.mk k t ks) :: As => by
    have := len_szs As
    rw [szs, Tr.sz, List.length_cons]; omega
end Go.Proofs.YtnmofolhfbldjaaGreatDoor

/-
  What l3Parts, l4Tree and l4Trees of the model answer: the trees of nodes.
-/
namespace Go.Proofs.YtnmofolhfbldjaaGreatDoor
open Go.RowKit
set_option linter.unusedVariables false


/-- The numbers of trees' first nodes. -/
def rootsAt : List Tr → Nat → List Nat
  | [], _ => []
  | T :: Ts, n => n :: rootsAt Ts (n + T.sz)
theorem rootsAt_len : ∀ (Ts : List Tr) (n : Nat), (rootsAt Ts n).length = Ts.length
  | [], _ => rfl
  | T :: Ts, n => by rw [rootsAt, List.length_cons, List.length_cons, rootsAt_len Ts]
mutual
/-- A node's list is the one that is around its tree, or in it. -/
theorem flat_up : ∀ (T : Tr) (n : Nat) (up : Int), ∀ d ∈ T.flat n up, d.u = up ∨ ((n : Int) ≤ d.u ∧ d.u < (n : Int) + T.sz)
  | .mk k t ks, n, up, d, h => by
    rw [Tr.flat] at h
    rcases List.mem_cons.1 h with rfl | h
    · exact .inl rfl
    · have := flats_up ks (n + 1) n d h
      rw [Tr.sz]
      omega
theorem flats_up : ∀ (Ts : List Tr) (n : Nat) (up : Int), ∀ d ∈ flats Ts n up, d.u = up ∨ ((n : Int) ≤ d.u ∧ d.u < (n : Int) + szs Ts)
  | [], n, up, d, h => by rw [flats] at h; cases h
  | T :: Ts, n, up, d, h => by
    rw [flats] at h
    rw [szs]
    rcases List.mem_append.1 h with h | h
    · have := flat_up T n up d h
      omega
    · have := flats_up Ts (n + T.sz) up d h
      omega
end
theorem du_app {l : List Dm} {A B : List Dm} (h : l = A ++ B) (i : Nat) (hi : A.length ≤ i) : du l i = (B.getD (i - A.length) default).u := by
  unfold du
  rw [h, List.getD, List.getElem?_append_right hi]; rfl

/-- The parts of a node that lie behind it: those of a row of trees. -/
theorem prt_roots (l : List Dm) (k : Nat) : ∀ (Ts : List Tr) (A : List Dm) (C : List Dm), l = A ++ flats Ts A.length (k : Int) ++ C → k < A.length → (prt l (A.length + szs Ts) k = prt l A.length k ++ rootsAt Ts A.length)
  | [], A, C, h, hk => by rw [szs, rootsAt]; simp
  | T :: Ts, A, C, h, hk => by
    obtain ⟨kk, t, ks⟩ := T
    have hT := flat_sz (.mk kk t ks) A.length (k : Int)
    -- the tree itself
    have h1 : ∀ m, 1 ≤ m → m ≤ (Tr.mk kk t ks).sz → prt l (A.length + m) k = prt l A.length k ++ [A.length] := by
      intro m
      induction m with
      | zero => intro hm; omega
      | succ m ih =>
        intro _ hm
        show prt l (A.length + m + 1) k = _
        rw [prt_snoc]
        have hd : du l (A.length + m) = (((Tr.mk kk t ks).flat A.length (k : Int)).getD m default).u := by
          rw [du_app (l := l) (A := A) (B := flats (.mk kk t ks :: Ts) A.length (k : Int) ++ C) (by rw [h]; simp) (A.length + m) (by omega), flats]
          congr 1
          rw [show A.length + m - A.length = m by omega, List.append_assoc, List.getD, List.getD, List.getElem?_append_left (by omega)]
        by_cases hm0 : m = 0
        · subst hm0
          have : du l (A.length + 0) = (k : Int) := by rw [hd, Tr.flat]; rfl
          rw [if_pos ⟨by omega, this⟩]
          rfl
        · rw [ih (by omega) (by omega)]
          have hne : ¬ du l (A.length + m) = (k : Int) := by
            rw [hd, Tr.flat]
            obtain ⟨m', rfl⟩ : ∃ m', m = m' + 1 := ⟨m - 1, by omega⟩
            have hlt : m' < (flats ks (A.length + 1) (A.length : Int)).length := by rw [flats_sz]; rw [Tr.sz] at hm; omega
            have hmem : (flats ks (A.length + 1) (A.length : Int)).getD m' default ∈ flats ks (A.length + 1) (A.length : Int) := by
              rw [List.getD, List.getElem?_eq_getElem hlt]; exact List.getElem_mem hlt
            have := flats_up ks (A.length + 1) A.length _ hmem
            simp only [List.getD_cons_succ]
            omega
          rw [if_neg (fun h => hne h.2), List.append_nil]
    have hs : 1 ≤ (Tr.mk kk t ks).sz := by rw [Tr.sz]; omega
    have h2 := prt_roots l k Ts (A ++ (Tr.mk kk t ks).flat A.length (k : Int)) C (by rw [h, flats, List.length_append, hT]; simp) (by rw [List.length_append]; omega)
    rw [List.length_append, hT] at h2
    rw [szs, ← Nat.add_assoc, h2, h1 _ hs (Nat.le_refl _), rootsAt, List.append_assoc]; rfl
/-- Nodes whose lists are others add no part. -/
theorem prt_rest (l : List Dm) (k n : Nat) : ∀ m, (∀ i, n ≤ i → i < n + m → du l i ≠ (k : Int)) → prt l (n + m) k = prt l n k
  | 0, _ => rfl
  | m + 1, h => by
    show prt l (n + m + 1) k = _
    rw [prt_snoc, prt_rest l k n m (fun i h1 h2 => h i h1 (by omega)), if_neg (fun hh => h (n + m) (by omega) (by omega) hh.2), List.append_nil]

/-- The parts of a tree's first node. -/
theorem prt_tree {l pre post : List Dm} {k : Int} {t : ByteArray} {ks : List Tr} {up : Int} (hl : l = pre ++ (Tr.mk k t ks).flat pre.length up ++ post) (hpost : ∀ d ∈ post, d.u < (pre.length : Int) ∨ (pre.length : Int) + (Tr.mk k t ks).sz ≤ d.u) :
    prt l l.length pre.length = rootsAt ks (pre.length + 1) := by
  have hA : l = (pre ++ [⟨k, t, up⟩]) ++ flats ks (pre ++ [(⟨k, t, up⟩ : Dm)]).length (pre.length : Int) ++ post := by
    rw [hl, Tr.flat]; simp
  have h1 := prt_roots l pre.length ks (pre ++ [⟨k, t, up⟩]) post hA (by simp)
  have hlen : l.length = pre.length + 1 + szs ks + post.length := by rw [hA]; simp [flats_sz]; omega
  have h2 := prt_rest l pre.length (pre.length + 1 + szs ks) post.length (fun i hi1 hi2 => by
    have hd := du_app (l := l) (A := (pre ++ [⟨k, t, up⟩]) ++ flats ks (pre ++ [(⟨k, t, up⟩ : Dm)]).length (pre.length : Int)) (B := post) hA i (by simp [flats_sz]; omega)
    rw [hd]
    have hl' : ((pre ++ [(⟨k, t, up⟩ : Dm)]) ++ flats ks (pre ++ [(⟨k, t, up⟩ : Dm)]).length (pre.length : Int)).length = pre.length + 1 + szs ks := by simp [flats_sz]; omega
    rw [hl']
    have hlt : i - (pre.length + 1 + szs ks) < post.length := by omega
    have hmem : post.getD (i - (pre.length + 1 + szs ks)) default ∈ post := by rw [List.getD, List.getElem?_eq_getElem hlt]; exact List.getElem_mem hlt
    have := hpost _ hmem
    rw [Tr.sz] at this
    omega)
  rw [hlen, h2]
  have e : (pre ++ [(⟨k, t, up⟩ : Dm)]).length = pre.length + 1 := by simp
  rw [e] at h1
  rw [h1, prt_low l pre.length _ (Nat.le_refl _), List.nil_append]

set_option maxHeartbeats 1000000 in
set_option maxRecDepth 100000 in
theorem l3Parts_node (v0 : Value) (l : List Dm) (k : Nat) (x : Int) (w : World) (hx : x = (k : Int)) (hk : k < l.length) (hn : l.length ≤ 300) (hD : NodeAt w v0 l) :
    Calls Tryz.prog 24 #[v0, .int .i64 x] w fun e w' => ∃ v : Value, e = .returned v ∧ w'.ownsRow w.heap.size 3 1 v (prt l l.length k).length (ints (natI (prt l l.length k))) ∧ Below w.heap.size w w' := by
  obtain ⟨b, cap, hv0, HD⟩ : ∃ b cap, v0 = .slice (some ⟨b, 0, none⟩) l.length cap ∧ Hid (∀ w', Below w.heap.size w w' → ∀ j, j < l.length → w'.cell? ⟨b, j * 3 + 2, none⟩ = some (.int .i64 (du l j))) := by
    obtain ⟨g, cap, cur, h1, h2, h3⟩ := hD.cells k hk
    refine ⟨g, cap, h1, fun w' hB j hj => ?_⟩
    obtain ⟨g', cap', cur', h1', h2', h3'⟩ := (hD.below hB (Nat.le_refl _)).cells j hj
    rw [h1] at h1'
    injection h1' with e1 e2 e3
    injection e1 with e1
    injection e1 with e1
    subst e1
    exact (h3' w' h2').2.2
  subst hv0
  subst hx
  clear hD
  obtain ⟨i0, hi, hz0, hz1, hz2⟩ := info_parts Tryz.info_int
  go_enter Tryz.func24, Tryz.ntmps24
  go_wp2_with fail
  go_loopg [5, 6] (l.length - (k + 1)) (fun g v x wr => ∃ (j n : Nat), g = l.length - j ∧ j ≤ l.length ∧ k < j ∧ x = .int .i64 (j : Int) ∧ Hid (n = (prt l j k).length) ∧ n ≤ 300 ∧ wr.ownsRow w.heap.size 3 1 v n (ints (natI (prt l j k))) ∧ Below w.heap.size w wr)
  case atStart =>
    refine ⟨k + 1, 0, rfl, by omega, by omega, by go_num, ?_, by omega, ?_, Below.refl _ _⟩
    · unfold Hid; rw [prt_low l k (k + 1) (Nat.le_refl _)]; rfl
    · rw [prt_low l k (k + 1) (Nat.le_refl _)]; exact World.ownsRow_nil _ _ _ _
  case round =>
    obtain ⟨j, n, hg, hj, hkj, rfl, HN, hn3, hown, hW⟩ := hrel
    have hWs := hW.size
    by_cases hlt : (j : Int) < (l.length : Int)
    · have hj' : j < l.length := by omega
      have hcu := HD.out wr hW j hj'
      obtain ⟨y, hy⟩ : ∃ y, y = du l j := ⟨_, rfl⟩
      rw [← hy] at hcu
      by_cases h1 : y = (k : Int)
      · have HP : Hid (prt l (j + 1) k = prt l j k ++ [j]) := by unfold Hid; rw [prt_snoc, if_pos ⟨hkj, by rw [← hy, h1]⟩]
        have h1' : (y == (k : Int)) = true := by rw [h1]; exact beq_self_eq_true _
        clear hy h1
        go_wp2_with (first | (at_builtin; refine wpList_append_own _ rfl _ _ 50 rfl w.heap.size 3 i0 (.int .i64 0) 1 8 Tryz.underlying50 hi hz0 hz1 hz2 rfl (by decide) _ _ _ rfl (hown.alloc _) ⟨wr.heap.size, 0, none⟩ 1 1 [.int .i64 (j : Int)] rfl rfl (cell_one_new _ _ _) (one_cell _) (by unfold maxLen; omega) (by omega) (by simp; omega) ?_; intro v' w1 hown' hgrow _))
        go_roundg (l.length - (j + 1))
        case measure => omega
        case rel =>
          have hnl := HN.out
          have hpl := prt_len l (j + 1) k
          rw [HP.out] at hpl
          simp at hpl
          refine ⟨j + 1, n + 1, rfl, by omega, by omega, by go_num, ?_, by omega, ?_, ?_⟩
          · unfold Hid; rw [HP.out, hnl]; simp
          · rw [HP.out]; simpa [ints, natI] using hown'
          · refine Below.grown (hW.alloc hWs _) hgrow (by simp; omega) ?_
            intro k hk; exact own_ge hown hk
      · have HP : Hid (prt l (j + 1) k = prt l j k) := by unfold Hid; rw [prt_snoc, if_neg (fun h => h1 (by rw [hy]; exact h.2)), List.append_nil]
        have h1' : (y == (k : Int)) = false := beq_eq_false_iff_ne.2 h1
        clear hy h1
        go_wp2_with fail
        go_roundg (l.length - (j + 1))
        case measure => omega
        case rel => exact ⟨j + 1, n, rfl, by omega, by omega, by go_num, by unfold Hid; rw [HP.out]; exact HN.out, by omega, by rw [HP.out]; exact hown, hW⟩
    · have hje : j = l.length := by omega
      subst hje
      go_wp2
      go_ret
      exact ⟨_, rfl, by rw [← HN.out]; exact hown, hW⟩
end Go.Proofs.YtnmofolhfbldjaaGreatDoor
