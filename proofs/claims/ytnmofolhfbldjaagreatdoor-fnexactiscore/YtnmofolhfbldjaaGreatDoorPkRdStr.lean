/-
  The texts RdStr, RdOne, RdFact, RdDot, one behind the other.
-/
import Derived.Test.YtnmofolhfbldjaaGreatDoorPkAppDatum

/-
  The model's reader: a string.
-/
namespace Go.Proofs.YtnmofolhfbldjaaGreatDoor
open Go.RowKit
set_option linter.unusedVariables false

/-- What the model's reader leaves. -/
def Res (w : World) (B b : Nat) (s : ByteArray) (out : List Dm) : Option (Nat × List Dm) → Prop
  | some (a', ps) => St w B b s (a' : Int) (out ++ ps) 0
  | none => ∃ (a' : Nat) (out' : List Dm) (c' : Int), c' ≠ 0 ∧ a' ≤ s.size ∧ out'.length ≤ 300 ∧ St w B b s (a' : Int) out' c'
theorem grown_alloc {w w' : World} {b : Nat} (h : w.grownBy w' (some b)) (x : Obj) : w.grownBy (w'.alloc x) (some b) := grown_trans h (World.grownBy_alloc w' x (some b))
theorem conv_byte (W : World) (b : Nat) (c : UInt8) (hc : W.cell? ⟨b, 0, none⟩ = some (.int .u8 (c.toNat : Int))) :
    (convert 63 9 (.slice (some ⟨b, 0, none⟩) 1 1)).run Tryz.prog W = .ok (.string ⟨#[c]⟩) W :=
  run_convert_bytes_back (P := Tryz.prog) W 63 9 5 ⟨b, 0, none⟩ 1 [c] Tryz.underlying63 Tryz.underlying5 Tryz.underlying9 (fun j hj => by
    have : j = 0 := by simp at hj; exact hj
    subst this
    simpa [Addr.add] using hc)
theorem one_more {o : ByteArray} (c : UInt8) (h : o.size ≤ 100) : (o ++ (⟨#[c]⟩ : ByteArray)).size ≤ maxLen := by
  rw [ByteArray.size_append]
  have : (⟨#[c]⟩ : ByteArray).size = 1 := rfl
  unfold maxLen
  omega
theorem one_list (o : ByteArray) (c : UInt8) : (o ++ (⟨#[c]⟩ : ByteArray)).data.toList = o.data.toList ++ [c] := by rw [ByteArray.data_append, Array.toList_append]
theorem strF_step {s : ByteArray} {g k : Nat} {t : List UInt8} (hk : k < s.size) (hg : s.size - k < g) : strF s g k t = if byteAt s k = 34 then some (k + 1, t) else match escP s k with
    | none => none
    | some (k', b) => if strOk (t ++ [b]) then strF s (g - 1) k' (t ++ [b]) else none := by
  obtain ⟨f, rfl⟩ : ∃ f, g = f + 1 := ⟨g - 1, by omega⟩
  rw [strF, if_neg (by omega)]
  rfl
theorem strF_quote {s : ByteArray} {g k : Nat} {t : List UInt8} (hk : k < s.size) (hg : s.size - k < g) (h : byteAt s k = 34) : strF s g k t = some (k + 1, t) := by rw [strF_step hk hg, if_pos h]
theorem strF_end {s : ByteArray} {g k : Nat} {t : List UInt8} (hk : k = s.size) : strF s g k t = none := by
  cases g with
  | zero => rfl
  | succ f => rw [strF, if_pos hk]
theorem strF_none {s : ByteArray} {g k : Nat} {t : List UInt8} (hk : k < s.size) (hg : s.size - k < g) (h : byteAt s k ≠ 34) (he : escP s k = none) : strF s g k t = none := by rw [strF_step hk hg, if_neg h, he]
theorem strF_no {s : ByteArray} {g k k' : Nat} {t : List UInt8} {c : UInt8} (hk : k < s.size) (hg : s.size - k < g) (h : byteAt s k ≠ 34) (he : escP s k = some (k', c)) (ho : strOk (t ++ [c]) = false) : strF s g k t = none := by
  rw [strF_step hk hg, if_neg h, he]; simp only [ho]; rfl
theorem strF_go {s : ByteArray} {g k k' : Nat} {t : List UInt8} {c : UInt8} (hk : k < s.size) (hg : s.size - k < g) (h : byteAt s k ≠ 34) (he : escP s k = some (k', c)) (ho : strOk (t ++ [c]) = true) : strF s g k t = strF s (g - 1) k' (t ++ [c]) := by
  rw [strF_step hk hg, if_neg h, he]; simp only [ho]; rfl
theorem esc_plain {s : ByteArray} {k : Nat} (h : byteAt s k ≠ 92) : escP s k = some (k + 1, byteAt s k) := by unfold escP; rw [if_neg h]
theorem esc_end {s : ByteArray} {k : Nat} (h : byteAt s k = 92) (he : k + 1 = s.size) : escP s k = none := by unfold escP; rw [if_pos h, if_pos he]
theorem esc_self {s : ByteArray} {k : Nat} (h : byteAt s k = 92) (he : k + 1 < s.size) (h2 : byteAt s (k + 1) = 34 ∨ byteAt s (k + 1) = 92) : escP s k = some (k + 2, byteAt s (k + 1)) := by unfold escP; rw [if_pos h, if_neg (by omega), if_pos h2]
theorem esc_n {s : ByteArray} {k : Nat} (h : byteAt s k = 92) (he : k + 1 < s.size) (h2 : byteAt s (k + 1) = 110) : escP s k = some (k + 2, 10) := by unfold escP; rw [if_pos h, if_neg (by omega), if_neg (by rw [h2]; decide), if_pos h2]
theorem esc_no {s : ByteArray} {k : Nat} (h : byteAt s k = 92) (he : k + 1 < s.size) (h1 : byteAt s (k + 1) ≠ 34) (h2 : byteAt s (k + 1) ≠ 92) (h3 : byteAt s (k + 1) ≠ 110) : escP s k = none := by unfold escP; rw [if_pos h, if_neg (by omega), if_neg (by simp [h1, h2]), if_neg h3]
/-- What a string leaves. -/
def strR (s : ByteArray) (p : Nat) (up : Int) (n : Nat) : Option (Nat × List Dm) :=
  match strP s p with
  | none => none
  | some (a', t) => if 300 ≤ n then none else some (a', [⟨3, ⟨t.toArray⟩, up⟩])
theorem strR_none {s : ByteArray} {p : Nat} {up : Int} {n : Nat} (h : strP s p = none) : strR s p up n = none := by unfold strR; rw [h]
theorem strR_some {s : ByteArray} {p : Nat} {up : Int} {n a' : Nat} {t : List UInt8} (h : strP s p = some (a', t)) : strR s p up n = if 300 ≤ n then none else some (a', [⟨3, ⟨t.toArray⟩, up⟩]) := by unfold strR; rw [h]

set_option maxHeartbeats 2000000 in
set_option maxRecDepth 100000 in
theorem str_st (B b : Nat) (s : ByteArray) (p : Nat) (out : List Dm) (up deep : Int) (w : World) (hs : s.size ≤ 1500) (hp : p < s.size) (hn : out.length ≤ 300) (h : St w B b s (p : Int) out 0) :
    Calls Tryz.prog 20 #[.pointer (some ⟨b, 0, none⟩), .int .i64 up, .int .i64 deep] w fun e w' => e = .returned (.tuple #[]) ∧ Res w' B b s out (strR s (p + 1) up out.length) ∧ Below B w w' := by
  obtain ⟨hB, v, hR, ho⟩ := h
  have hbl := RowAt.lt hR
  have a1 := r_1 hR
  have HO := hideT' ho
  have HN := hideT' hn
  have HNE := hideT' (own3_ne ho hR (by decide))
  have HR0 := hideT' hR
  clear ho hn
  have NO : Hid (∀ (w1 : World) (a' : Nat) (c' : Int), c' ≠ 0 → a' ≤ s.size → strP s (p + 1) = none → RAt w1 b s (a' : Int) v c' → w.grownBy w1 (some b) → Res w1 B b s out (strR s (p + 1) up out.length) ∧ Below B w w1) := by
    intro w1 a' c' hc ha hz hR1 hg1
    rw [strR_none hz]
    exact ⟨⟨a', out, c', hc, ha, HN.out, hB, v, hR1, own3_grown HO.out hg1 HNE.out⟩, (Below.refl B w).grown hg1 (by omega) (by intro k hk; injection hk; omega)⟩
  go_enter Tryz.func20, Tryz.ntmps20
  go_wp2_with (refine store_at rfl 3 _ _ rfl rfl b 1 (.int .i64 ((p : Int) + 1)) rfl rfl one_int rfl 36 (rC s p v 0) hR (show 1 < 4 by omega) ?_; intro w0 hR0 hg0 hs0)
  clear a1
  go_loopg [6, 7] (s.size - (p + 1)) (fun g x y wr => ∃ (k f : Nat) (o : ByteArray), g = s.size - k ∧ k ≤ s.size ∧ s.size - k < f ∧ x = .string o ∧ Hid (strF s f k o.data.toList = strP s (p + 1)) ∧ Hid (strOk o.data.toList = true) ∧ RAt wr b s (k : Int) v 0 ∧ w.grownBy wr (some b))
  case atStart => exact ⟨p + 1, s.size + 1 - (p + 1), ⟨#[]⟩, rfl, by omega, by omega, rfl, rfl, rfl, hR0, hg0⟩
  case round =>
    obtain ⟨k, f, o, hg, hk, hf, rfl, HK, HOK, hRr, hG⟩ := hrel
    clear hR hR0 hg0 hs0
    have c0 := r_0 hRr
    have c1 := r_1 hRr
    have hol : o.size ≤ 100 := by
      have h1 : o.data.toList.length = o.size := by simp
      have h2 := HOK.out
      unfold strOk at h2
      rw [Bool.and_eq_true, decide_eq_true_eq] at h2
      omega
    by_cases hlt : (k : Int) = (s.size : Int)
    · have HZ : Hid (strP s (p + 1) = none) := by unfold Hid; rw [← HK.out, strF_end (by omega)]
      go_wp2_with fail
      go_quiet (fail)
      go_wp2_with fail
      refine (bad_any b s k 0 2 v _ (by exact hRr)).mono ?_
      rintro e w1 ⟨rfl, hR1, hg1, _⟩
      go_wp2
      (try simp only [Exit.inBlock, Exit.then]); refine bodyPost_ret (results_none rfl _ _ _) rfl ?_
      exact ⟨rfl, NO.out _ k 2 (by decide) hk HZ.out hR1 (grown_trans hG (grown_ahead _ hg1))⟩
    · have hk' : k < s.size := by omega
      have hkne : ((k : Int) == (s.size : Int)) = false := beq_eq_false_iff_ne.2 hlt
      have HB := hideT' (byteAt_eq hk')
      clear hlt
      by_cases h34 : s[k] = 34
      · have hb : (s[k].toNat : Int) = 34 := by rw [h34]; rfl
        have HZ : Hid (strP s (p + 1) = some (k + 1, o.data.toList)) := by unfold Hid; rw [← HK.out, strF_quote hk' hf (by rw [HB.out]; exact h34)]
        clear h34
        go_wp2_with fail
        go_quiet (fail)
        go_wp2_with fail
        go_quiet (fail)
        go_wp2_with (refine store_at rfl 3 _ _ rfl rfl b 1 (.int .i64 ((k : Int) + 1)) rfl rfl one_int rfl 36 (rC s k v 0) hRr (show 1 < 4 by omega) ?_; intro w1 hR1 hg1 hs1)
        have hG1 := grown_trans hG (grown_ahead _ hg1)
        obtain ⟨hS1, hW1⟩ := St.own (w' := w1) (a' := ((k + 1 : Nat) : Int)) (c' := 0) hB HR0.out HO.out (by exact hR1) hG1
        refine (put_any B b s ((k + 1 : Nat) : Int) 0 out 3 o up deep w1 HN.out hS1).mono ?_
        rintro e w2 ⟨rfl, hS2, hW2⟩
        go_wp2
        go_end0
        refine ⟨rfl, ?_, hW1.trans hW2⟩
        rw [strR_some HZ.out]
        have e3 : fullB out 3 deep = decide (out.length = 300) := by unfold fullB isL; simp
        by_cases h3 : out.length = 300
        · rw [put_full (by rw [e3]; exact decide_eq_true h3)] at hS2
          rw [if_pos (by omega)]
          exact ⟨k + 1, out, 4, by decide, by omega, HN.out, hS2⟩
        · rw [put_ok (by rw [e3]; exact decide_eq_false h3)] at hS2
          have := HN.out
          rw [if_neg (by omega)]
          exact hS2
      · have n34 : ((s[k].toNat : Int) == 34) = false := byte_ne (n := 34) (by decide) h34
        by_cases h92 : s[k] = 92
        · have hb : (s[k].toNat : Int) = 92 := by rw [h92]; rfl
          have H92 : Hid (byteAt s k = 92) := by unfold Hid; rw [HB.out]; exact h92
          have H34 : Hid (byteAt s k ≠ 34) := by unfold Hid; rw [HB.out]; exact h34
          have hc1 : ¬ 9223372036854775807 < o.size + 1 := by omega
          obtain ⟨k1, hk1⟩ : ∃ k1 : Nat, k1 = k + 1 := ⟨_, rfl⟩
          have E1 : Hid ((k : Int) + 1 = (k1 : Int)) := by unfold Hid; omega
          have HK1 := hideT' hk1
          have hk1s : k1 ≤ s.size := by omega
          clear h34 h92 hk1
          by_cases he : (k1 : Int) = (s.size : Int)
          · have HZ : Hid (strP s (p + 1) = none) := by unfold Hid; rw [← HK.out]; exact strF_none hk' hf H34.out (esc_end H92.out (by have := HK1.out; omega))
            go_wp2_with fail
            go_quiet (fail)
            go_wp2_with fail
            go_quiet (fail)
            go_wp2_with (refine store_at rfl 3 _ _ rfl rfl b 1 (.int .i64 ((k : Int) + 1)) rfl rfl one_int rfl 36 (rC s k v 0) hRr (show 1 < 4 by omega) ?_; intro w1 hR1 hg1 hs1)
            have hG1 := grown_trans hG (grown_ahead _ hg1)
            have hR1' : RAt w1 b s (k1 : Int) v 0 := by have h := hR1; rw [E1.out] at h; exact h
            have d0 := r_0 hR1'
            have d1 := r_1 hR1'
            clear c0 c1 hRr hR1
            go_quiet (fail)
            go_wp2_with fail
            refine (bad_any b s k1 0 2 v _ (by exact hR1')).mono ?_
            rintro e w5 ⟨rfl, hR5, hg5, _⟩
            go_wp2
            (try simp only [Exit.inBlock, Exit.then]); refine bodyPost_ret (results_none rfl _ _ _) rfl ?_
            exact ⟨rfl, NO.out _ k1 2 (by decide) (by omega) HZ.out hR5 (grown_trans hG1 (grown_ahead _ hg5))⟩
          · have hk1' : k1 < s.size := by omega
            have hene : ((k1 : Int) == (s.size : Int)) = false := beq_eq_false_iff_ne.2 he
            have hk1l : (k1 : Int) < (s.size : Int) := by omega
            have HB2 : Hid (byteAt s (k + 1) = s[k1]) := by unfold Hid; rw [← HK1.out]; exact byteAt_eq hk1'
            clear he
            by_cases hd34 : s[k1] = 34
            · have hbd : (s[k1].toNat : Int) = 34 := by rw [hd34]; rfl
              have HE : Hid (escP s k = some (k + 2, s[k1])) := by unfold Hid; rw [esc_self H92.out (by have := HK1.out; omega) (by rw [HB2.out]; simp [hd34]), HB2.out]
              have HSZ := hideT' (one_more (o := o) s[k1] hol)
              have hcv := fun (W : World) (b : Nat) => conv_byte W b s[k1]
              clear hd34
              go_wp2_with fail
              go_quiet (fail)
              go_wp2_with fail
              go_quiet (fail)
              go_wp2_with (refine store_at rfl 3 _ _ rfl rfl b 1 (.int .i64 ((k : Int) + 1)) rfl rfl one_int rfl 36 (rC s k v 0) hRr (show 1 < 4 by omega) ?_; intro w1 hR1 hg1 hs1)
              have hG1 := grown_trans hG (grown_ahead _ hg1)
              have hR1' : RAt w1 b s (k1 : Int) v 0 := by have h := hR1; rw [E1.out] at h; exact h
              have d0 := r_0 hR1'
              have d1 := r_1 hR1'
              clear c0 c1 hRr hR1
              go_quiet (fail)
              go_wp2_with fail
              go_quiet (fail)
              go_wp2_with fail
              go_quiet (fail)
              go_wp2_with (refine store_at rfl 3 _ _ rfl rfl b 1 (.int .i64 ((k1 : Int) + 1)) rfl rfl one_int rfl 36 (rC s k1 v 0) hR1' (show 1 < 4 by omega) ?_; intro w2 hR2 hg2 hs2)
              have hG2 := grown_trans hG1 (grown_ahead _ hg2)
              refine (l3String_any _ _ HSZ.out).mono ?_
              rintro e w9 ⟨rfl, he9⟩
              rw [he9]
              clear he9 w9
              have EL := hideT' (one_list o s[k1])
              rw [EL.out]
              cases hso : strOk (o.data.toList ++ [s[k1]]) with
              | false =>
                have HZ : Hid (strP s (p + 1) = none) := by unfold Hid; rw [← HK.out]; exact strF_no hk' hf H34.out HE.out hso
                clear hso
                go_wp2_with fail
                refine (bad_any b s (k1 + 1 : Nat) 0 3 v _ (RowAt.old (by exact hR2) _)).mono ?_
                rintro e w5 ⟨rfl, hR5, hg5, _⟩
                go_wp2
                (try simp only [Exit.inBlock, Exit.then]); refine bodyPost_ret (results_none rfl _ _ _) rfl ?_
                exact ⟨rfl, NO.out _ (k1 + 1) 3 (by decide) (by omega) HZ.out hR5 (grown_trans (grown_alloc hG2 _) hg5)⟩
              | true =>
                have HZ : Hid (strF s (f - 1) (k + 2) (o.data.toList ++ [s[k1]]) = strP s (p + 1)) := by unfold Hid; rw [← HK.out]; exact (strF_go hk' hf H34.out HE.out hso).symm
                have HSO := hideT' hso
                clear hso
                go_wp2
                go_roundg (s.size - (k1 + 1))
                case measure => have := HK1.out; omega
                case rel => exact ⟨k1 + 1, f - 1, _, rfl, by omega, by have := HK1.out; omega, rfl, by unfold Hid; rw [EL.out, ← HZ.out, show k1 + 1 = k + 2 from by have := HK1.out; omega], by unfold Hid; rw [EL.out]; exact HSO.out, RowAt.old (by exact hR2) _, grown_alloc hG2 _⟩
            · have m34 : ((s[k1].toNat : Int) == 34) = false := byte_ne (n := 34) (by decide) hd34
              by_cases hd92 : s[k1] = 92
              · have hbd : (s[k1].toNat : Int) = 92 := by rw [hd92]; rfl
                have HE : Hid (escP s k = some (k + 2, s[k1])) := by unfold Hid; rw [esc_self H92.out (by have := HK1.out; omega) (by rw [HB2.out]; simp [hd92]), HB2.out]
                have HSZ := hideT' (one_more (o := o) s[k1] hol)
                have hcv := fun (W : World) (b : Nat) => conv_byte W b s[k1]
                clear hd92 hd34
                go_wp2_with fail
                go_quiet (fail)
                go_wp2_with fail
                go_quiet (fail)
                go_wp2_with (refine store_at rfl 3 _ _ rfl rfl b 1 (.int .i64 ((k : Int) + 1)) rfl rfl one_int rfl 36 (rC s k v 0) hRr (show 1 < 4 by omega) ?_; intro w1 hR1 hg1 hs1)
                have hG1 := grown_trans hG (grown_ahead _ hg1)
                have hR1' : RAt w1 b s (k1 : Int) v 0 := by have h := hR1; rw [E1.out] at h; exact h
                have d0 := r_0 hR1'
                have d1 := r_1 hR1'
                clear c0 c1 hRr hR1
                go_quiet (fail)
                go_wp2_with fail
                go_quiet (fail)
                go_wp2_with fail
                go_quiet (fail)
                go_wp2_with (refine store_at rfl 3 _ _ rfl rfl b 1 (.int .i64 ((k1 : Int) + 1)) rfl rfl one_int rfl 36 (rC s k1 v 0) hR1' (show 1 < 4 by omega) ?_; intro w2 hR2 hg2 hs2)
                have hG2 := grown_trans hG1 (grown_ahead _ hg2)
                refine (l3String_any _ _ HSZ.out).mono ?_
                rintro e w9 ⟨rfl, he9⟩
                rw [he9]
                clear he9 w9
                have EL := hideT' (one_list o s[k1])
                rw [EL.out]
                cases hso : strOk (o.data.toList ++ [s[k1]]) with
                | false =>
                  have HZ : Hid (strP s (p + 1) = none) := by unfold Hid; rw [← HK.out]; exact strF_no hk' hf H34.out HE.out hso
                  clear hso
                  go_wp2_with fail
                  refine (bad_any b s (k1 + 1 : Nat) 0 3 v _ (RowAt.old (by exact hR2) _)).mono ?_
                  rintro e w5 ⟨rfl, hR5, hg5, _⟩
                  go_wp2
                  (try simp only [Exit.inBlock, Exit.then]); refine bodyPost_ret (results_none rfl _ _ _) rfl ?_
                  exact ⟨rfl, NO.out _ (k1 + 1) 3 (by decide) (by omega) HZ.out hR5 (grown_trans (grown_alloc hG2 _) hg5)⟩
                | true =>
                  have HZ : Hid (strF s (f - 1) (k + 2) (o.data.toList ++ [s[k1]]) = strP s (p + 1)) := by unfold Hid; rw [← HK.out]; exact (strF_go hk' hf H34.out HE.out hso).symm
                  have HSO := hideT' hso
                  clear hso
                  go_wp2
                  go_roundg (s.size - (k1 + 1))
                  case measure => have := HK1.out; omega
                  case rel => exact ⟨k1 + 1, f - 1, _, rfl, by omega, by have := HK1.out; omega, rfl, by unfold Hid; rw [EL.out, ← HZ.out, show k1 + 1 = k + 2 from by have := HK1.out; omega], by unfold Hid; rw [EL.out]; exact HSO.out, RowAt.old (by exact hR2) _, grown_alloc hG2 _⟩
              · have m92 : ((s[k1].toNat : Int) == 92) = false := byte_ne (n := 92) (by decide) hd92
                by_cases hd110 : s[k1] = 110
                · have hbd : (s[k1].toNat : Int) = 110 := by rw [hd110]; rfl
                  have HE : Hid (escP s k = some (k + 2, 10)) := by unfold Hid; rw [esc_n H92.out (by have := HK1.out; omega) (by rw [HB2.out]; exact hd110)]
                  have HSZ := hideT' (one_more (o := o) 10 hol)
                  have hcv := fun (W : World) (b : Nat) => conv_byte W b 10
                  clear hd34 hd92 hd110
                  go_wp2_with fail
                  go_quiet (fail)
                  go_wp2_with fail
                  go_quiet (fail)
                  go_wp2_with (refine store_at rfl 3 _ _ rfl rfl b 1 (.int .i64 ((k : Int) + 1)) rfl rfl one_int rfl 36 (rC s k v 0) hRr (show 1 < 4 by omega) ?_; intro w1 hR1 hg1 hs1)
                  have hG1 := grown_trans hG (grown_ahead _ hg1)
                  have hR1' : RAt w1 b s (k1 : Int) v 0 := by have h := hR1; rw [E1.out] at h; exact h
                  have d0 := r_0 hR1'
                  have d1 := r_1 hR1'
                  clear c0 c1 hRr hR1
                  go_quiet (fail)
                  go_wp2_with fail
                  go_quiet (fail)
                  go_wp2_with (refine store_at rfl 3 _ _ rfl rfl b 1 (.int .i64 ((k1 : Int) + 1)) rfl rfl one_int rfl 36 (rC s k1 v 0) hR1' (show 1 < 4 by omega) ?_; intro w2 hR2 hg2 hs2)
                  have hG2 := grown_trans hG1 (grown_ahead _ hg2)
                  refine (l3String_any _ _ HSZ.out).mono ?_
                  rintro e w9 ⟨rfl, he9⟩
                  rw [he9]
                  clear he9 w9
                  have EL := hideT' (one_list o 10)
                  rw [EL.out]
                  cases hso : strOk (o.data.toList ++ [10]) with
                  | false =>
                    have HZ : Hid (strP s (p + 1) = none) := by unfold Hid; rw [← HK.out]; exact strF_no hk' hf H34.out HE.out hso
                    clear hso
                    go_wp2_with fail
                    refine (bad_any b s (k1 + 1 : Nat) 0 3 v _ (RowAt.old (by exact hR2) _)).mono ?_
                    rintro e w5 ⟨rfl, hR5, hg5, _⟩
                    go_wp2
                    (try simp only [Exit.inBlock, Exit.then]); refine bodyPost_ret (results_none rfl _ _ _) rfl ?_
                    exact ⟨rfl, NO.out _ (k1 + 1) 3 (by decide) (by omega) HZ.out hR5 (grown_trans (grown_alloc hG2 _) hg5)⟩
                  | true =>
                    have HZ : Hid (strF s (f - 1) (k + 2) (o.data.toList ++ [10]) = strP s (p + 1)) := by unfold Hid; rw [← HK.out]; exact (strF_go hk' hf H34.out HE.out hso).symm
                    have HSO := hideT' hso
                    clear hso
                    go_wp2
                    go_roundg (s.size - (k1 + 1))
                    case measure => have := HK1.out; omega
                    case rel => exact ⟨k1 + 1, f - 1, _, rfl, by omega, by have := HK1.out; omega, rfl, by unfold Hid; rw [EL.out, ← HZ.out, show k1 + 1 = k + 2 from by have := HK1.out; omega], by unfold Hid; rw [EL.out]; exact HSO.out, RowAt.old (by exact hR2) _, grown_alloc hG2 _⟩
                · have m110 : ((s[k1].toNat : Int) == 110) = false := byte_ne (n := 110) (by decide) hd110
                  have HZ : Hid (strP s (p + 1) = none) := by unfold Hid; rw [← HK.out]; exact strF_none hk' hf H34.out (esc_no H92.out (by have := HK1.out; omega) (by rw [HB2.out]; exact hd34) (by rw [HB2.out]; exact hd92) (by rw [HB2.out]; exact hd110))
                  clear hd34 hd92 hd110
                  go_wp2_with fail
                  go_quiet (fail)
                  go_wp2_with fail
                  go_quiet (fail)
                  go_wp2_with (refine store_at rfl 3 _ _ rfl rfl b 1 (.int .i64 ((k : Int) + 1)) rfl rfl one_int rfl 36 (rC s k v 0) hRr (show 1 < 4 by omega) ?_; intro w1 hR1 hg1 hs1)
                  have hG1 := grown_trans hG (grown_ahead _ hg1)
                  have hR1' : RAt w1 b s (k1 : Int) v 0 := by have h := hR1; rw [E1.out] at h; exact h
                  have d0 := r_0 hR1'
                  have d1 := r_1 hR1'
                  clear c0 c1 hRr hR1
                  go_quiet (fail)
                  go_wp2_with fail
                  go_quiet (fail)
                  go_wp2_with fail
                  refine (bad_any b s k1 0 3 v _ (by exact hR1')).mono ?_
                  rintro e w5 ⟨rfl, hR5, hg5, _⟩
                  go_wp2
                  (try simp only [Exit.inBlock, Exit.then]); refine bodyPost_ret (results_none rfl _ _ _) rfl ?_
                  exact ⟨rfl, NO.out _ k1 3 (by decide) (by omega) HZ.out hR5 (grown_trans hG1 (grown_ahead _ hg5))⟩
        · have n92 : ((s[k].toNat : Int) == 92) = false := byte_ne (n := 92) (by decide) h92
          have HE : Hid (escP s k = some (k + 1, s[k])) := by unfold Hid; rw [← HB.out]; exact esc_plain (by rw [HB.out]; exact h92)
          have H34 : Hid (byteAt s k ≠ 34) := by unfold Hid; rw [HB.out]; exact h34
          have hcv := fun (W : World) (b : Nat) => conv_byte W b s[k]
          clear h34 h92
          have HSZ := hideT' (one_more (o := o) s[k] hol)
          have hc1 : ¬ 9223372036854775807 < o.size + 1 := by omega
          go_wp2_with fail
          go_quiet (fail)
          go_wp2_with fail
          go_quiet (fail)
          go_wp2_with (refine store_at rfl 3 _ _ rfl rfl b 1 (.int .i64 ((k : Int) + 1)) rfl rfl one_int rfl 36 (rC s k v 0) hRr (show 1 < 4 by omega) ?_; intro w1 hR1 hg1 hs1)
          have hG1 := grown_trans hG (grown_ahead _ hg1)
          refine (l3String_any _ _ HSZ.out).mono ?_
          rintro e w9 ⟨rfl, he9⟩
          rw [he9]
          clear he9 w9
          have EL := hideT' (one_list o s[k])
          rw [EL.out]
          cases hso : strOk (o.data.toList ++ [s[k]]) with
          | false =>
            have HZ : Hid (strP s (p + 1) = none) := by unfold Hid; rw [← HK.out]; exact strF_no hk' hf H34.out HE.out hso
            clear hso
            go_wp2_with fail
            refine (bad_any b s (k + 1 : Nat) 0 3 v _ (RowAt.old (by exact hR1) _)).mono ?_
            rintro e w5 ⟨rfl, hR5, hg5, _⟩
            go_wp2
            (try simp only [Exit.inBlock, Exit.then]); refine bodyPost_ret (results_none rfl _ _ _) rfl ?_
            exact ⟨rfl, NO.out _ (k + 1) 3 (by decide) (by omega) HZ.out hR5 (grown_trans (grown_alloc hG1 _) hg5)⟩
          | true =>
            have HZ : Hid (strF s (f - 1) (k + 1) (o.data.toList ++ [s[k]]) = strP s (p + 1)) := by unfold Hid; rw [← HK.out]; exact (strF_go hk' hf H34.out HE.out hso).symm
            have HSO := hideT' hso
            clear hso
            go_wp2
            go_roundg (s.size - (k + 1))
            case measure => omega
            case rel => exact ⟨k + 1, f - 1, _, rfl, by omega, by omega, rfl, by unfold Hid; rw [EL.out]; exact HZ.out, by unfold Hid; rw [EL.out]; exact HSO.out, RowAt.old (by exact hR1) _, grown_alloc hG1 _⟩
end Go.Proofs.YtnmofolhfbldjaaGreatDoor

/-
  The model's reader: a datum, case by case.
-/
namespace Go.Proofs.YtnmofolhfbldjaaGreatDoor
open Go.RowKit
set_option linter.unusedVariables false

/-- The list k is dotted. -/
def dotAt (l : List Dm) (k : Nat) (d : Bool) : List Dm := if d then l.set k ⟨6, (l.getD k default).t, (l.getD k default).u⟩ else l
theorem dotAt_len (l : List Dm) (k : Nat) (d : Bool) : (dotAt l k d).length = l.length := by unfold dotAt; split <;> simp
theorem dotAt_app (out ps : List Dm) (up : Int) (d : Bool) : dotAt (out ++ [⟨5, ⟨#[]⟩, up⟩] ++ ps) out.length d = out ++ (⟨if d then 6 else 5, ⟨#[]⟩, up⟩ :: ps) := by
  unfold dotAt
  cases d <;> simp
def lst (k : Nat) (out : List Dm) : Option (Nat × Bool × List Dm) → Prop → (Nat → List Dm → Prop) → Prop
  | none, p, _ => p
  | some (a', d, ps), _, q => q a' (dotAt (out ++ ps) k d)
def Bad (w : World) (B b : Nat) (s : ByteArray) : Prop := ∃ (a' : Nat) (out' : List Dm) (c' : Int), c' ≠ 0 ∧ a' ≤ s.size ∧ out'.length ≤ 300 ∧ St w B b s (a' : Int) out' c'
/-- What a list leaves. -/
def ResL (w : World) (B b : Nat) (s : ByteArray) (out : List Dm) (k : Nat) (r : Option (Nat × Bool × List Dm)) : Prop := lst k out r (Bad w B b s) fun a' o => St w B b s (a' : Int) o 0
def OneC (f : Nat) : Prop := ∀ (B b : Nat) (s : ByteArray) (a : Nat) (out : List Dm) (up : Int) (deep : Nat) (w : World), s.size ≤ 1500 → a ≤ s.size → 2 * (s.size - a) + 1 ≤ f → out.length ≤ 300 → deep ≤ 25 → St w B b s (a : Int) out 0 →
  Calls Tryz.prog 11 #[.pointer (some ⟨b, 0, none⟩), .int .i64 up, .int .i64 (deep : Int)] w fun e w' => e = .returned (.tuple #[]) ∧ Res w' B b s out (oneF s f a up (deep : Int) out.length) ∧ Below B w w'
def ListC (f : Nat) : Prop := ∀ (B b : Nat) (s : ByteArray) (a : Nat) (out : List Dm) (k deep : Nat) (w : World), s.size ≤ 1500 → a ≤ s.size → 2 * (s.size - a) + 2 ≤ f → out.length ≤ 300 → out.length = k + 1 → deep ≤ 25 → St w B b s (a : Int) out 0 →
  Calls Tryz.prog 18 #[.pointer (some ⟨b, 0, none⟩), .int .i64 (k : Int), .int .i64 (deep : Int)] w fun e w' => e = .returned (.tuple #[]) ∧ ResL w' B b s out k (listF s f a k (deep : Int) out.length) ∧ Below B w w'

set_option maxHeartbeats 1000000 in
set_option maxRecDepth 100000 in
theorem one_code (B b : Nat) (s : ByteArray) (a : Nat) (c : Int) (out : List Dm) (up deep : Int) (w : World) (hs : s.size ≤ 1500) (ha : a ≤ s.size) (hc : c ≠ 0) (h : St w B b s (a : Int) out c) :
    Calls Tryz.prog 11 #[.pointer (some ⟨b, 0, none⟩), .int .i64 up, .int .i64 deep] w fun e w' => e = .returned (.tuple #[]) ∧ St w' B b s (skipP s a : Int) out c ∧ Below B w w' := by
  have hc' : (c != 0) = true := by simpa using hc
  have HC : Hid (cod c 2 = c) := if_neg hc
  obtain ⟨q, hqe⟩ : ∃ q, q = skipP s a := ⟨_, rfl⟩
  have hq : q ≤ s.size := by rw [hqe]; exact (skipP_le s a ha).2
  rw [← hqe]
  have HQ := hideT' hqe
  clear hc hqe
  go_enter Tryz.func11, Tryz.ntmps11
  go_wp2_with fail
  refine (skip_st B b s a c out w hs ha h).mono ?_
  rintro e w1 ⟨rfl, hS1, hW1⟩
  rw [← HQ.out] at hS1
  have HS1 := hideT' hS1
  obtain ⟨_, v1, hR1, ho1⟩ := hS1
  have c0 := r_0 hR1
  have c1 := r_1 hR1
  have c3 := r_3 hR1
  by_cases he : (q : Int) = (s.size : Int)
  · go_wp2_with fail
    go_quiet (fail)
    go_wp2_with fail
    refine (bad_st B b s q c 2 out _ (by exact HS1.out)).mono ?_
    rintro e w2 ⟨rfl, hS2, hW2⟩
    rw [HC.out] at hS2
    have HS2 := hideT' hS2
    obtain ⟨_, v2, hR2, ho2⟩ := hS2
    have d3 := r_3 hR2
    go_wp2
    first | go_end0 | ((try simp only [Exit.inBlock, Exit.then]); refine bodyPost_ret (results_none rfl _ _ _) rfl ?_)
    exact ⟨rfl, HS2.out, (below_drewN hW1 _).trans hW2⟩
  · have he' : ((q : Int) == (s.size : Int)) = false := beq_eq_false_iff_ne.2 he
    clear he
    go_wp2_with fail
    go_quiet (fail)
    go_wp2
    first | go_end0 | ((try simp only [Exit.inBlock, Exit.then]); refine bodyPost_ret (results_none rfl _ _ _) rfl ?_)
    exact ⟨rfl, HS1.out, below_drewN hW1 _⟩
set_option maxHeartbeats 1000000 in
set_option maxRecDepth 100000 in
theorem list_code (B b : Nat) (s : ByteArray) (a c : Int) (out : List Dm) (k deep : Int) (w : World) (hc : c ≠ 0) (h : St w B b s a out c) :
    Calls Tryz.prog 18 #[.pointer (some ⟨b, 0, none⟩), .int .i64 k, .int .i64 deep] w fun e w' => e = .returned (.tuple #[]) ∧ w' = w := by
  have hc' : (c == 0) = false := by simpa using hc
  clear hc
  obtain ⟨_, v1, hR1, ho1⟩ := h
  have c3 := r_3 hR1
  go_enter Tryz.func18, Tryz.ntmps18
  go_wp2_with fail
  go_loopg [6] 0 (fun g x wr => wr = w)
  case atStart => rfl
  case round =>
    subst hrel
    go_wp2
    go_end0
    exact ⟨rfl, rfl⟩

set_option maxHeartbeats 1000000 in
set_option maxRecDepth 100000 in
theorem one_end (f : Nat) (B b : Nat) (s : ByteArray) (a : Nat) (out : List Dm) (up : Int) (deep : Nat) (w : World) (hs : s.size ≤ 1500) (ha : a ≤ s.size) (hf : 2 * (s.size - a) + 1 ≤ f + 1) (hn : out.length ≤ 300) (hd : deep ≤ 25) (hb : skipP s a = s.size) (h : St w B b s (a : Int) out 0) :
    Calls Tryz.prog 11 #[.pointer (some ⟨b, 0, none⟩), .int .i64 up, .int .i64 (deep : Int)] w fun e w' => e = .returned (.tuple #[]) ∧ Res w' B b s out (oneF s (f + 1) a up (deep : Int) out.length) ∧ Below B w w' := by
  obtain ⟨q, hqe⟩ : ∃ q, q = skipP s a := ⟨_, rfl⟩
  have hqa := skipP_le s a ha
  rw [← hqe] at hqa hb
  obtain ⟨hq0, hq⟩ := hqa
  have HQ := hideT' hqe
  have HN := hideT' hn
  have HF := hideT' hf
  have HD := hideT' hd
  have HU : Hid (oneF s (f + 1) a up (deep : Int) out.length = none) := by unfold Hid; rw [oneF, ← HQ.out, if_pos hb]
  have he : (q : Int) = (s.size : Int) := by omega
  clear hb
  clear hqe hn hf hd
  go_enter Tryz.func11, Tryz.ntmps11
  go_wp2_with fail
  refine (skip_st B b s a 0 out w hs ha h).mono ?_
  rintro e w1 ⟨rfl, hS1, hW1⟩
  rw [← HQ.out] at hS1
  have HS1 := hideT' hS1
  obtain ⟨hB, v1, hR1, ho1⟩ := hS1
  have c0 := r_0 hR1
  have c1 := r_1 hR1
  have c3 := r_3 hR1
  go_wp2_with fail
  go_quiet (fail)
  go_wp2_with fail
  refine (bad_st B b s q 0 2 out _ (by exact HS1.out)).mono ?_
  rintro e w2 ⟨rfl, hS2, hW2⟩
  have HS2 := hideT' hS2
  obtain ⟨_, v2, hR2, ho2⟩ := hS2
  have d3 := r_3 hR2
  have e2 : cod 0 2 = 2 := rfl
  rw [e2] at d3
  go_wp2
  first | go_end0 | ((try simp only [Exit.inBlock, Exit.then]); refine bodyPost_ret (results_none rfl _ _ _) rfl ?_)
  rw [HU.out]
  exact ⟨rfl, ⟨q, out, 2, by decide, by omega, HN.out, HS2.out⟩, (below_drewN hW1 _).trans hW2⟩

set_option maxHeartbeats 1000000 in
set_option maxRecDepth 100000 in
theorem one_close (f : Nat) (B b : Nat) (s : ByteArray) (a : Nat) (out : List Dm) (up : Int) (deep : Nat) (w : World) (hs : s.size ≤ 1500) (ha : a ≤ s.size) (hf : 2 * (s.size - a) + 1 ≤ f + 1) (hn : out.length ≤ 300) (hd : deep ≤ 25) (hb : skipP s a ≠ s.size ∧ byteAt s (skipP s a) = 41) (h : St w B b s (a : Int) out 0) :
    Calls Tryz.prog 11 #[.pointer (some ⟨b, 0, none⟩), .int .i64 up, .int .i64 (deep : Int)] w fun e w' => e = .returned (.tuple #[]) ∧ Res w' B b s out (oneF s (f + 1) a up (deep : Int) out.length) ∧ Below B w w' := by
  obtain ⟨q, hqe⟩ : ∃ q, q = skipP s a := ⟨_, rfl⟩
  have hqa := skipP_le s a ha
  rw [← hqe] at hqa hb
  obtain ⟨hq0, hq⟩ := hqa
  have HQ := hideT' hqe
  have HN := hideT' hn
  have HF := hideT' hf
  have HD := hideT' hd
  obtain ⟨hb0, hb1⟩ := hb
  have hql : q < s.size := by omega
  have hqi : (q : Int) < (s.size : Int) := by omega
  have hqn : ((q : Int) == (s.size : Int)) = false := beq_eq_false_iff_ne.2 (by omega)
  have hbq : (s[q].toNat : Int) = 41 := by rw [← byteAt_eq hql, hb1]; rfl
  have HU : Hid (oneF s (f + 1) a up (deep : Int) out.length = none) := by unfold Hid; rw [oneF, ← HQ.out, if_neg hb0, hb1, if_neg (by decide), if_pos rfl]
  clear hb0 hb1
  clear hqe hn hf hd
  go_enter Tryz.func11, Tryz.ntmps11
  go_wp2_with fail
  refine (skip_st B b s a 0 out w hs ha h).mono ?_
  rintro e w1 ⟨rfl, hS1, hW1⟩
  rw [← HQ.out] at hS1
  have HS1 := hideT' hS1
  obtain ⟨hB, v1, hR1, ho1⟩ := hS1
  have c0 := r_0 hR1
  have c1 := r_1 hR1
  have c3 := r_3 hR1
  go_wp2_with fail
  go_quiet (fail)
  go_wp2_with fail
  go_quiet (fail)
  go_wp2_with fail
  refine (bad_st B b s q 0 3 out _ (by exact HS1.out)).mono ?_
  rintro e w2 ⟨rfl, hS2, hW2⟩
  go_wp2
  first | go_end0 | ((try simp only [Exit.inBlock, Exit.then]); refine bodyPost_ret (results_none rfl _ _ _) rfl ?_)
  rw [HU.out]
  exact ⟨rfl, ⟨q, out, 3, by decide, by omega, HN.out, hS2⟩, (below_drewN hW1 _).trans hW2⟩

set_option maxHeartbeats 1000000 in
set_option maxRecDepth 100000 in
theorem one_str (f : Nat) (B b : Nat) (s : ByteArray) (a : Nat) (out : List Dm) (up : Int) (deep : Nat) (w : World) (hs : s.size ≤ 1500) (ha : a ≤ s.size) (hf : 2 * (s.size - a) + 1 ≤ f + 1) (hn : out.length ≤ 300) (hd : deep ≤ 25) (hb : skipP s a ≠ s.size ∧ byteAt s (skipP s a) = 34) (h : St w B b s (a : Int) out 0) :
    Calls Tryz.prog 11 #[.pointer (some ⟨b, 0, none⟩), .int .i64 up, .int .i64 (deep : Int)] w fun e w' => e = .returned (.tuple #[]) ∧ Res w' B b s out (oneF s (f + 1) a up (deep : Int) out.length) ∧ Below B w w' := by
  obtain ⟨q, hqe⟩ : ∃ q, q = skipP s a := ⟨_, rfl⟩
  have hqa := skipP_le s a ha
  rw [← hqe] at hqa hb
  obtain ⟨hq0, hq⟩ := hqa
  have HQ := hideT' hqe
  have HN := hideT' hn
  have HF := hideT' hf
  have HD := hideT' hd
  obtain ⟨hb0, hb1⟩ := hb
  have hql : q < s.size := by omega
  have hqi : (q : Int) < (s.size : Int) := by omega
  have hqn : ((q : Int) == (s.size : Int)) = false := beq_eq_false_iff_ne.2 (by omega)
  have hbq : (s[q].toNat : Int) = 34 := by rw [← byteAt_eq hql, hb1]; rfl
  have HU : Hid (oneF s (f + 1) a up (deep : Int) out.length = strR s (q + 1) up out.length) := by unfold Hid; rw [oneF, ← HQ.out, if_neg hb0, hb1, if_neg (by decide), if_neg (by decide), if_neg (by decide), if_pos rfl]; rfl
  clear hb0 hb1
  clear hqe hn hf hd
  go_enter Tryz.func11, Tryz.ntmps11
  go_wp2_with fail
  refine (skip_st B b s a 0 out w hs ha h).mono ?_
  rintro e w1 ⟨rfl, hS1, hW1⟩
  rw [← HQ.out] at hS1
  have HS1 := hideT' hS1
  obtain ⟨hB, v1, hR1, ho1⟩ := hS1
  have c0 := r_0 hR1
  have c1 := r_1 hR1
  have c3 := r_3 hR1
  go_wp2_with fail
  go_quiet (fail)
  go_wp2_with fail
  go_quiet (fail)
  go_wp2_with fail
  refine (str_st B b s q out up (deep : Int) _ hs hql HN.out (by exact HS1.out)).mono ?_
  rintro e w2 ⟨rfl, hS2, hW2⟩
  go_wp2
  first | go_end0 | ((try simp only [Exit.inBlock, Exit.then]); refine bodyPost_ret (results_none rfl _ _ _) rfl ?_)
  rw [HU.out]
  exact ⟨rfl, hS2, (below_drewN hW1 _).trans hW2⟩

set_option maxHeartbeats 1000000 in
set_option maxRecDepth 100000 in
theorem one_open (f : Nat) (IH : ListC f) (B b : Nat) (s : ByteArray) (a : Nat) (out : List Dm) (up : Int) (deep : Nat) (w : World) (hs : s.size ≤ 1500) (ha : a ≤ s.size) (hf : 2 * (s.size - a) + 1 ≤ f + 1) (hn : out.length ≤ 300) (hd : deep ≤ 25) (hb : skipP s a ≠ s.size ∧ byteAt s (skipP s a) = 40) (h : St w B b s (a : Int) out 0) :
    Calls Tryz.prog 11 #[.pointer (some ⟨b, 0, none⟩), .int .i64 up, .int .i64 (deep : Int)] w fun e w' => e = .returned (.tuple #[]) ∧ Res w' B b s out (oneF s (f + 1) a up (deep : Int) out.length) ∧ Below B w w' := by
  obtain ⟨q, hqe⟩ : ∃ q, q = skipP s a := ⟨_, rfl⟩
  have hqa := skipP_le s a ha
  rw [← hqe] at hqa hb
  obtain ⟨hq0, hq⟩ := hqa
  have HQ := hideT' hqe
  have HN := hideT' hn
  have HF := hideT' hf
  have HD := hideT' hd
  obtain ⟨hb0, hb1⟩ := hb
  have hql : q < s.size := by omega
  have hqi : (q : Int) < (s.size : Int) := by omega
  have hqn : ((q : Int) == (s.size : Int)) = false := beq_eq_false_iff_ne.2 (by omega)
  have hbq : (s[q].toNat : Int) = 40 := by rw [← byteAt_eq hql, hb1]; rfl
  have HU : Hid (oneF s (f + 1) a up (deep : Int) out.length = if 300 ≤ out.length ∨ 25 ≤ (deep : Int) then none else match listF s f (q + 1) out.length ((deep : Int) + 1) (out.length + 1) with
        | none => none
        | some (a', d, ps) => some (a', ⟨if d then 6 else 5, ⟨#[]⟩, up⟩ :: ps)) := by unfold Hid; rw [oneF, ← HQ.out, if_neg hb0, hb1, if_pos rfl]; rfl
  clear hb0 hb1
  have HIH := hideT' IH
  clear IH
  clear hqe hn hf hd
  go_enter Tryz.func11, Tryz.ntmps11
  go_wp2_with fail
  refine (skip_st B b s a 0 out w hs ha h).mono ?_
  rintro e w1 ⟨rfl, hS1, hW1⟩
  rw [← HQ.out] at hS1
  have HS1 := hideT' hS1
  obtain ⟨hB, v1, hR1, ho1⟩ := hS1
  have c0 := r_0 hR1
  have c1 := r_1 hR1
  have c3 := r_3 hR1
  go_wp2_with fail
  go_quiet (fail)
  go_wp2_with fail
  go_quiet (fail)
  go_wp2_with (refine store_at rfl 3 _ _ rfl rfl b 1 (.int .i64 ((q : Int) + 1)) rfl rfl one_int rfl 36 (rC s q v1 0) hR1 (show 1 < 4 by omega) ?_; intro w2 hR2 hg2 hs2)
  obtain ⟨hS2, hW2⟩ := St.own (w := w1) (w' := w2) (a' := ((q + 1 : Nat) : Int)) (c' := 0) hB hR1 ho1 (by exact hR2) (grown_ahead _ hg2)
  have hW2' := hW1.trans hW2
  clear c0 c1 c3 hR1 ho1 hg2 hs2 hR2
  refine (put_any B b s ((q + 1 : Nat) : Int) 0 out 5 ⟨#[]⟩ up (deep : Int) w2 HN.out hS2).mono ?_
  rintro e w3 ⟨rfl, hS3, hW3⟩
  have hwd : IntKind.i64.wrap ((deep : Int) + 1) = ((deep + 1 : Nat) : Int) := by rw [IntKind.wrap_i64]; have := HD.out; omega
  by_cases hful : 300 ≤ out.length ∨ 25 ≤ (deep : Int)
  · have e5 : fullB out 5 (deep : Int) = true := by
      have h1 := HN.out
      have h2 := HD.out
      unfold fullB isL
      rcases hful with h | h
      · rw [decide_eq_true (by omega : out.length = 300)]; rfl
      · rw [decide_eq_true (by omega : (deep : Int) = 25)]; simp
    rw [put_full e5] at hS3 ⊢
    have HU2 := hideT' (HU.out.trans (if_pos hful))
    clear hful e5 HU
    go_wp2_with fail
    refine (list_code B b s _ 4 out _ _ _ (by decide) (by exact hS3)).mono ?_
    rintro e w4 ⟨rfl, rfl⟩
    go_wp2
    first | go_end0 | ((try simp only [Exit.inBlock, Exit.then]); refine bodyPost_ret (results_none rfl _ _ _) rfl ?_)
    rw [HU2.out]
    exact ⟨rfl, ⟨q + 1, out, 4, by decide, by omega, HN.out, hS3⟩, hW2'.trans hW3⟩
  · have e5 : fullB out 5 (deep : Int) = false := by
      unfold fullB isL
      rw [decide_eq_false (by omega : ¬ out.length = 300), decide_eq_false (by omega : ¬ (deep : Int) = 25)]; simp
    rw [put_ok e5] at hS3 ⊢
    have HLT : Hid (out.length < 300 ∧ deep < 25) := by unfold Hid; omega
    have HU2 := hideT' (HU.out.trans (if_neg hful))
    clear hful e5 HU
    go_wp2_with fail
    refine (HIH.out B b s (q + 1) (out ++ [⟨5, ⟨#[]⟩, up⟩]) out.length (deep + 1) _ hs (by omega) (by have := HF.out; omega) (by rw [List.length_append]; have := HLT.out.1; simp only [List.length_cons, List.length_nil]; omega) (by simp) (by have := HLT.out.2; omega) (by exact hS3)).mono ?_
    rintro e w4 ⟨rfl, hS4, hW4⟩
    go_wp2
    first | go_end0 | ((try simp only [Exit.inBlock, Exit.then]); refine bodyPost_ret (results_none rfl _ _ _) rfl ?_)
    rw [HU2.out]
    refine ⟨rfl, ?_, (hW2'.trans hW3).trans hW4⟩
    rw [List.length_append] at hS4
    revert hS4
    show ResL w4 B b s _ _ (listF s f (q + 1) out.length (((deep + 1 : Nat)) : Int) (out.length + 1)) → _
    rw [show (((deep + 1 : Nat)) : Int) = (deep : Int) + 1 from by omega]
    generalize listF s f (q + 1) out.length ((deep : Int) + 1) (out.length + 1) = r
    intro hS4
    match r with
    | none => exact hS4
    | some (a', d, ps) =>
      have h5 : St w4 B b s (a' : Int) (dotAt (out ++ [⟨5, ⟨#[]⟩, up⟩] ++ ps) out.length d) 0 := hS4
      rw [dotAt_app] at h5
      exact h5

set_option maxHeartbeats 1000000 in
set_option maxRecDepth 100000 in
theorem one_quote (f : Nat) (IH : OneC f) (B b : Nat) (s : ByteArray) (a : Nat) (out : List Dm) (up : Int) (deep : Nat) (w : World) (hs : s.size ≤ 1500) (ha : a ≤ s.size) (hf : 2 * (s.size - a) + 1 ≤ f + 1) (hn : out.length ≤ 300) (hd : deep ≤ 25) (hb : skipP s a ≠ s.size ∧ byteAt s (skipP s a) = 39) (h : St w B b s (a : Int) out 0) :
    Calls Tryz.prog 11 #[.pointer (some ⟨b, 0, none⟩), .int .i64 up, .int .i64 (deep : Int)] w fun e w' => e = .returned (.tuple #[]) ∧ Res w' B b s out (oneF s (f + 1) a up (deep : Int) out.length) ∧ Below B w w' := by
  obtain ⟨q, hqe⟩ : ∃ q, q = skipP s a := ⟨_, rfl⟩
  have hqa := skipP_le s a ha
  rw [← hqe] at hqa hb
  obtain ⟨hq0, hq⟩ := hqa
  have HQ := hideT' hqe
  have HN := hideT' hn
  have HF := hideT' hf
  have HD := hideT' hd
  obtain ⟨hb0, hb1⟩ := hb
  have hql : q < s.size := by omega
  have hqi : (q : Int) < (s.size : Int) := by omega
  have hqn : ((q : Int) == (s.size : Int)) = false := beq_eq_false_iff_ne.2 (by omega)
  have hbq : (s[q].toNat : Int) = 39 := by rw [← byteAt_eq hql, hb1]; rfl
  have HU : Hid (oneF s (f + 1) a up (deep : Int) out.length = if 299 ≤ out.length ∨ 25 ≤ (deep : Int) then none else match oneF s f (q + 1) out.length ((deep : Int) + 1) (out.length + 2) with
        | none => none
        | some (a', ps) => some (a', ⟨5, ⟨#[]⟩, up⟩ :: ⟨2, ⟨#[113, 117, 111, 116, 101]⟩, out.length⟩ :: ps)) := by unfold Hid; rw [oneF, ← HQ.out, if_neg hb0, hb1, if_neg (by decide), if_neg (by decide), if_pos rfl]; rfl
  clear hb0 hb1
  have HIH := hideT' IH
  clear IH
  clear hqe hn hf hd
  go_enter Tryz.func11, Tryz.ntmps11
  go_wp2_with fail
  refine (skip_st B b s a 0 out w hs ha h).mono ?_
  rintro e w1 ⟨rfl, hS1, hW1⟩
  rw [← HQ.out] at hS1
  have HS1 := hideT' hS1
  obtain ⟨hB, v1, hR1, ho1⟩ := hS1
  have c0 := r_0 hR1
  have c1 := r_1 hR1
  have c3 := r_3 hR1
  go_wp2_with fail
  go_quiet (fail)
  go_wp2_with fail
  go_quiet (fail)
  go_wp2_with (refine store_at rfl 3 _ _ rfl rfl b 1 (.int .i64 ((q : Int) + 1)) rfl rfl one_int rfl 36 (rC s q v1 0) hR1 (show 1 < 4 by omega) ?_; intro w2 hR2 hg2 hs2)
  obtain ⟨hS2, hW2⟩ := St.own (w := w1) (w' := w2) (a' := ((q + 1 : Nat) : Int)) (c' := 0) hB hR1 ho1 (by exact hR2) (grown_ahead _ hg2)
  have hW2' := hW1.trans hW2
  clear c0 c1 c3 hR1 ho1 hg2 hs2 hR2
  refine (put_any B b s ((q + 1 : Nat) : Int) 0 out 5 ⟨#[]⟩ up (deep : Int) w2 HN.out hS2).mono ?_
  rintro e w3 ⟨rfl, hS3, hW3⟩
  have hwd : IntKind.i64.wrap ((deep : Int) + 1) = ((deep + 1 : Nat) : Int) := by rw [IntKind.wrap_i64]; have := HD.out; omega
  by_cases hful : 300 ≤ out.length ∨ 25 ≤ (deep : Int)
  · have e5 : fullB out 5 (deep : Int) = true := by
      have h1 := HN.out
      have h2 := HD.out
      unfold fullB isL
      rcases hful with h | h
      · rw [decide_eq_true (by omega : out.length = 300)]; rfl
      · rw [decide_eq_true (by omega : (deep : Int) = 25)]; simp
    rw [put_full e5] at hS3 ⊢
    have HU2 := hideT' (HU.out.trans (if_pos (by omega)))
    clear hful e5 HU
    go_wp2_with fail
    refine (put_any B b s ((q + 1 : Nat) : Int) 4 out 2 ⟨#[113, 117, 111, 116, 101]⟩ _ _ _ HN.out (by exact hS3)).mono ?_
    rw [put_code (by decide)]
    rintro e w4 ⟨rfl, hS4, hW4⟩
    go_wp2_with fail
    refine (one_code B b s (q + 1) 4 out _ _ _ hs (by omega) (by decide) (by exact hS4)).mono ?_
    rintro e w5 ⟨rfl, hS5, hW5⟩
    go_wp2
    first | go_end0 | ((try simp only [Exit.inBlock, Exit.then]); refine bodyPost_ret (results_none rfl _ _ _) rfl ?_)
    rw [HU2.out]
    exact ⟨rfl, ⟨skipP s (q + 1), out, 4, by decide, (skipP_le s (q + 1) (by omega)).2, HN.out, hS5⟩, ((hW2'.trans hW3).trans hW4).trans hW5⟩
  · have e5 : fullB out 5 (deep : Int) = false := by
      unfold fullB isL
      rw [decide_eq_false (by omega : ¬ out.length = 300), decide_eq_false (by omega : ¬ (deep : Int) = 25)]; simp
    rw [put_ok e5] at hS3 ⊢
    have HLT : Hid (out.length < 300 ∧ deep < 25) := by unfold Hid; omega
    have e2 : fullB (out ++ [⟨5, ⟨#[]⟩, up⟩]) 2 ((deep + 1 : Nat) : Int) = decide (out.length + 1 = 300) := by unfold fullB isL; simp
    clear hful e5
    by_cases h299 : out.length + 1 = 300
    · have HU2 := hideT' (HU.out.trans (if_pos (by omega)))
      clear HU
      have E2 := hideT' (put_full (out := out ++ [⟨5, ⟨#[]⟩, up⟩]) (d := ⟨2, ⟨#[113, 117, 111, 116, 101]⟩, out.length⟩) (deep := ((deep + 1 : Nat) : Int)) (by rw [e2]; exact decide_eq_true h299))
      clear e2 h299
      go_wp2_with fail
      refine (put_any B b s ((q + 1 : Nat) : Int) 0 (out ++ [⟨5, ⟨#[]⟩, up⟩]) 2 ⟨#[113, 117, 111, 116, 101]⟩ (out.length : Int) ((deep + 1 : Nat) : Int) _ (by rw [List.length_append]; have := HLT.out.1; simp only [List.length_cons, List.length_nil]; omega) (by exact hS3)).mono ?_
      rw [E2.out]
      rintro e w4 ⟨rfl, hS4, hW4⟩
      go_wp2_with fail
      refine (one_code B b s (q + 1) 4 _ _ _ _ hs (by omega) (by decide) (by exact hS4)).mono ?_
      rintro e w5 ⟨rfl, hS5, hW5⟩
      go_wp2
      first | go_end0 | ((try simp only [Exit.inBlock, Exit.then]); refine bodyPost_ret (results_none rfl _ _ _) rfl ?_)
      rw [HU2.out]
      exact ⟨rfl, ⟨skipP s (q + 1), _, 4, by decide, (skipP_le s (q + 1) (by omega)).2, by rw [List.length_append]; have := HLT.out.1; simp only [List.length_cons, List.length_nil]; omega, hS5⟩, ((hW2'.trans hW3).trans hW4).trans hW5⟩
    · have HU2 := hideT' (HU.out.trans (if_neg (by have := HLT.out; omega)))
      clear HU
      have E2 := hideT' (put_ok (out := out ++ [⟨5, ⟨#[]⟩, up⟩]) (d := ⟨2, ⟨#[113, 117, 111, 116, 101]⟩, out.length⟩) (deep := ((deep + 1 : Nat) : Int)) (by rw [e2]; exact decide_eq_false h299))
      have HL2 : Hid (out.length + 2 ≤ 300) := by unfold Hid; have := HLT.out; omega
      clear e2 h299
      go_wp2_with fail
      refine (put_any B b s ((q + 1 : Nat) : Int) 0 (out ++ [⟨5, ⟨#[]⟩, up⟩]) 2 ⟨#[113, 117, 111, 116, 101]⟩ (out.length : Int) ((deep + 1 : Nat) : Int) _ (by rw [List.length_append]; have := HLT.out.1; simp only [List.length_cons, List.length_nil]; omega) (by exact hS3)).mono ?_
      rw [E2.out]
      rintro e w4 ⟨rfl, hS4, hW4⟩
      go_wp2_with fail
      refine (HIH.out B b s (q + 1) (out ++ [⟨5, ⟨#[]⟩, up⟩] ++ [⟨2, ⟨#[113, 117, 111, 116, 101]⟩, out.length⟩]) (out.length : Int) (deep + 1) _ hs (by omega) (by have := HF.out; omega) (by rw [List.length_append, List.length_append]; have := HL2.out; simp only [List.length_cons, List.length_nil]; omega) (by have := HLT.out.2; omega) (by exact hS4)).mono ?_
      rintro e w5 ⟨rfl, hS5, hW5⟩
      go_wp2
      first | go_end0 | ((try simp only [Exit.inBlock, Exit.then]); refine bodyPost_ret (results_none rfl _ _ _) rfl ?_)
      rw [HU2.out]
      refine ⟨rfl, ?_, ((hW2'.trans hW3).trans hW4).trans hW5⟩
      rw [List.length_append, List.length_append] at hS5
      revert hS5
      show Res w5 B b s _ (oneF s f (q + 1) out.length (((deep + 1 : Nat)) : Int) (out.length + 2)) → _
      rw [show (((deep + 1 : Nat)) : Int) = (deep : Int) + 1 from by omega]
      generalize oneF s f (q + 1) out.length ((deep : Int) + 1) (out.length + 2) = r
      intro hS5
      match r with
      | none => exact hS5
      | some (a', ps) =>
        have h5 : St w5 B b s (a' : Int) (out ++ [⟨5, ⟨#[]⟩, up⟩] ++ [⟨2, ⟨#[113, 117, 111, 116, 101]⟩, out.length⟩] ++ ps) 0 := hS5
        rw [List.append_assoc, List.append_assoc] at h5
        exact h5

/-- What a word leaves. -/
noncomputable def wordR (wd : ByteArray) (q' : Nat) (up : Int) (n : Nat) : Option (Nat × List Dm) :=
  match wordD wd with
  | none => none
  | some (k, t) => if 300 ≤ n then none else some (q', [⟨k, t, up⟩])
theorem wordR_put {w' : World} {B b : Nat} {s wd : ByteArray} {q' : Nat} {up deep : Int} {out : List Dm} {k : Int} {t : ByteArray} (h : wordD wd = some (k, t)) (hk : isL k = false) (hn : out.length ≤ 300) (hq : q' ≤ s.size) (hS : St w' B b s (q' : Int) (putP out 0 ⟨k, t, up⟩ deep).2.1 (putP out 0 ⟨k, t, up⟩ deep).2.2) : Res w' B b s out (wordR wd q' up out.length) := by
  unfold wordR
  rw [h]
  have e3 : fullB out k deep = decide (out.length = 300) := by unfold fullB; rw [hk]; simp
  by_cases h3 : out.length = 300
  · rw [put_full (by rw [e3]; exact decide_eq_true h3)] at hS
    simp only []
    rw [if_pos (by omega)]
    exact ⟨q', out, 4, by decide, hq, hn, hS⟩
  · rw [put_ok (by rw [e3]; exact decide_eq_false h3)] at hS
    simp only []
    rw [if_neg (by omega)]
    exact hS

theorem St.kept {w w' : World} {B b : Nat} {s : ByteArray} {a c : Int} {out : List Dm} (h : St w B b s a out c) (hW : Below w.heap.size w w') : St w' B b s a out c := by
  obtain ⟨hB, v, hR, ho⟩ := h
  refine ⟨hB, v, ?_, ho.1, ?_⟩
  · have hl := RowAt.lt hR
    unfold RAt RowAt at hR ⊢
    rw [hW.block b hl]
    exact hR
  · rcases ho.2 with h1 | ⟨g, cap, cur, rfl, h2, h3, h4⟩
    · exact .inl h1
    · refine .inr ⟨g, cap, cur, rfl, h2, ?_, h4⟩
      rw [hW.block g (Array.getElem?_eq_some_iff.1 h3).1]
      exact h3
theorem St.lt {w : World} {B b : Nat} {s : ByteArray} {a c : Int} {out : List Dm} (h : St w B b s a out c) : B ≤ w.heap.size := by
  obtain ⟨hB, v, hR, ho⟩ := h
  have := RowAt.lt hR
  omega
theorem tl_no {a : ByteArray} {x : Array UInt8} (h : a ≠ ⟨x⟩) : (a.toList == x.toList) = false := by
  rw [ByteArray.toList_eq, beq_eq_false_iff_ne]
  intro e
  exact h (ByteArray.ext (Array.ext' e))
theorem tl_yes {a : ByteArray} {x : Array UInt8} (h : a = ⟨x⟩) : (a.toList == x.toList) = true := by
  rw [ByteArray.toList_eq, h]; simp
theorem wD_t {w : ByteArray} (h : w = ⟨#[35, 116]⟩ ∨ w = ⟨#[35, 116, 114, 117, 101]⟩) : wordD w = some (4, ⟨#[116]⟩) := by unfold wordD; rw [if_pos h]
theorem wD_f {w : ByteArray} (h1 : ¬ (w = ⟨#[35, 116]⟩ ∨ w = ⟨#[35, 116, 114, 117, 101]⟩)) (h : w = ⟨#[35, 102]⟩ ∨ w = ⟨#[35, 102, 97, 108, 115, 101]⟩) : wordD w = some (4, ⟨#[102]⟩) := by unfold wordD; rw [if_neg h1, if_pos h]
theorem wD_n {w : ByteArray} (h1 : ¬ (w = ⟨#[35, 116]⟩ ∨ w = ⟨#[35, 116, 114, 117, 101]⟩)) (h2 : ¬ (w = ⟨#[35, 102]⟩ ∨ w = ⟨#[35, 102, 97, 108, 115, 101]⟩)) (h : numF w.data.toList = true) : wordD w = some (1, numTx w) := by unfold wordD; rw [if_neg h1, if_neg h2, if_pos h]
theorem wD_s {w : ByteArray} (h1 : ¬ (w = ⟨#[35, 116]⟩ ∨ w = ⟨#[35, 116, 114, 117, 101]⟩)) (h2 : ¬ (w = ⟨#[35, 102]⟩ ∨ w = ⟨#[35, 102, 97, 108, 115, 101]⟩)) (h3 : numF w.data.toList = false) : wordD w = if symT w.data.toList then some (2, w) else none := by unfold wordD; rw [if_neg h1, if_neg h2, if_neg (by rw [h3]; decide)]

set_option maxHeartbeats 1000000 in
set_option maxRecDepth 100000 in
theorem one_word (f : Nat) (B b : Nat) (s : ByteArray) (a : Nat) (out : List Dm) (up : Int) (deep : Nat) (w : World) (hs : s.size ≤ 1500) (ha : a ≤ s.size) (hf : 2 * (s.size - a) + 1 ≤ f + 1) (hn : out.length ≤ 300) (hd : deep ≤ 25) (hb : skipP s a ≠ s.size ∧ byteAt s (skipP s a) ≠ 40 ∧ byteAt s (skipP s a) ≠ 41 ∧ byteAt s (skipP s a) ≠ 39 ∧ byteAt s (skipP s a) ≠ 34) (h : St w B b s (a : Int) out 0) :
    Calls Tryz.prog 11 #[.pointer (some ⟨b, 0, none⟩), .int .i64 up, .int .i64 (deep : Int)] w fun e w' => e = .returned (.tuple #[]) ∧ Res w' B b s out (oneF s (f + 1) a up (deep : Int) out.length) ∧ Below B w w' := by
  obtain ⟨q, hqe⟩ : ∃ q, q = skipP s a := ⟨_, rfl⟩
  have hqa := skipP_le s a ha
  rw [← hqe] at hqa hb
  obtain ⟨hq0, hq⟩ := hqa
  have HQ := hideT' hqe
  have HN := hideT' hn
  have HF := hideT' hf
  have HD := hideT' hd
  obtain ⟨hb0, b40, b41, b39, b34⟩ := hb
  have hql : q < s.size := by omega
  have hqi : (q : Int) < (s.size : Int) := by omega
  have hqn : ((q : Int) == (s.size : Int)) = false := beq_eq_false_iff_ne.2 (by omega)
  have hbq := byteAt_eq hql
  have n40 : ((s[q].toNat : Int) == 40) = false := byte_ne (n := 40) (by decide) (by rw [← hbq]; exact b40)
  have n41 : ((s[q].toNat : Int) == 41) = false := byte_ne (n := 41) (by decide) (by rw [← hbq]; exact b41)
  have n39 : ((s[q].toNat : Int) == 39) = false := byte_ne (n := 39) (by decide) (by rw [← hbq]; exact b39)
  have n34 : ((s[q].toNat : Int) == 34) = false := byte_ne (n := 34) (by decide) (by rw [← hbq]; exact b34)
  obtain ⟨q', hq'⟩ : ∃ q', q' = wordP s q := ⟨_, rfl⟩
  have HQ' := hideT' hq'
  have HQL : Hid (q' ≤ s.size) := by unfold Hid; rw [hq']; exact (wordP_le s q hq).2
  obtain ⟨wd, hwd⟩ : ∃ wd, wd = s.extract q q' := ⟨_, rfl⟩
  have HWD := hideT' hwd
  have HU : Hid (oneF s (f + 1) a up (deep : Int) out.length = wordR wd q' up out.length) := by unfold Hid; rw [oneF, ← HQ.out, if_neg hb0, if_neg b40, if_neg b41, if_neg b39, if_neg b34, hwd, hq']; rfl
  have hws : Hid (wd.size ≤ maxLen) := by
    unfold Hid maxLen
    rw [hwd, ByteArray.size_extract]
    omega
  clear hb0 b40 b41 b39 b34 hbq hq' hwd
  clear hqe hn hf hd
  go_enter Tryz.func11, Tryz.ntmps11
  go_wp2_with fail
  refine (skip_st B b s a 0 out w hs ha h).mono ?_
  rintro e w1 ⟨rfl, hS1, hW1⟩
  rw [← HQ.out] at hS1
  have HS1 := hideT' hS1
  obtain ⟨hB, v1, hR1, ho1⟩ := hS1
  have c0 := r_0 hR1
  have c1 := r_1 hR1
  have c3 := r_3 hR1
  go_wp2_with fail
  go_quiet (fail)
  go_wp2_with fail
  go_quiet (fail)
  go_wp2_with fail
  refine (word_st B b s q 0 out _ hs hq (by exact HS1.out)).mono ?_
  rintro e w2 ⟨rfl, hS2, hW2⟩
  rw [← HQ'.out] at hS2 ⊢
  rw [← HWD.out]
  have hW2' := (below_drewN hW1 _).trans hW2
  clear c0 c1 c3 hR1 ho1
  go_wp2_with fail
  refine (l2Read_any wd _ hws.out).mono ?_
  rintro e w3 ⟨he3, hW3⟩
  rw [readAns_eq he3]
  have hW3' := hW2'.trans (hW3.mono hS2.lt)
  have hS3 := hS2.kept hW3
  clear he3 hS2 hW2 hW1 hW2' hW3 HS1
  by_cases t1 : wd = ⟨#[35, 116]⟩
  · have HWDD := hideT' (wD_t (.inl t1))
    have x1 : (wd.toList == [35, 116]) = true := tl_yes t1
    clear t1
    go_wp2_with fail
    refine (put_any B b s (q' : Int) 0 out 4 ⟨#[116]⟩ up (deep : Int) w3 HN.out hS3).mono ?_
    rintro e w4 ⟨rfl, hS4, hW4⟩
    go_wp2
    first | go_end0 | ((try simp only [Exit.inBlock, Exit.then]); refine bodyPost_ret (results_none rfl _ _ _) rfl ?_)
    rw [HU.out]
    exact ⟨rfl, wordR_put HWDD.out (by decide) HN.out HQL.out hS4, hW3'.trans hW4⟩
  · have x1 : (wd.toList == [35, 116]) = false := tl_no t1
    by_cases t2 : wd = ⟨#[35, 116, 114, 117, 101]⟩
    · have HWDD := hideT' (wD_t (.inr t2))
      have x2 : (wd.toList == [35, 116, 114, 117, 101]) = true := tl_yes t2
      clear t1 t2
      go_wp2_with fail
      refine (put_any B b s (q' : Int) 0 out 4 ⟨#[116]⟩ up (deep : Int) w3 HN.out hS3).mono ?_
      rintro e w4 ⟨rfl, hS4, hW4⟩
      go_wp2
      first | go_end0 | ((try simp only [Exit.inBlock, Exit.then]); refine bodyPost_ret (results_none rfl _ _ _) rfl ?_)
      rw [HU.out]
      exact ⟨rfl, wordR_put HWDD.out (by decide) HN.out HQL.out hS4, hW3'.trans hW4⟩
    · have x2 : (wd.toList == [35, 116, 114, 117, 101]) = false := tl_no t2
      have HT : Hid (¬ (wd = ⟨#[35, 116]⟩ ∨ wd = ⟨#[35, 116, 114, 117, 101]⟩)) := by unfold Hid; simp only [t1, t2, or_self, not_false_eq_true]
      clear t1 t2
      by_cases f1 : wd = ⟨#[35, 102]⟩
      · have HWDD := hideT' (wD_f HT.out (.inl f1))
        have x3 : (wd.toList == [35, 102]) = true := tl_yes f1
        clear f1
        go_wp2_with fail
        refine (put_any B b s (q' : Int) 0 out 4 ⟨#[102]⟩ up (deep : Int) w3 HN.out hS3).mono ?_
        rintro e w4 ⟨rfl, hS4, hW4⟩
        go_wp2
        first | go_end0 | ((try simp only [Exit.inBlock, Exit.then]); refine bodyPost_ret (results_none rfl _ _ _) rfl ?_)
        rw [HU.out]
        exact ⟨rfl, wordR_put HWDD.out (by decide) HN.out HQL.out hS4, hW3'.trans hW4⟩
      · have x3 : (wd.toList == [35, 102]) = false := tl_no f1
        by_cases f2 : wd = ⟨#[35, 102, 97, 108, 115, 101]⟩
        · have HWDD := hideT' (wD_f HT.out (.inr f2))
          have x4 : (wd.toList == [35, 102, 97, 108, 115, 101]) = true := tl_yes f2
          clear f1 f2
          go_wp2_with fail
          refine (put_any B b s (q' : Int) 0 out 4 ⟨#[102]⟩ up (deep : Int) w3 HN.out hS3).mono ?_
          rintro e w4 ⟨rfl, hS4, hW4⟩
          go_wp2
          first | go_end0 | ((try simp only [Exit.inBlock, Exit.then]); refine bodyPost_ret (results_none rfl _ _ _) rfl ?_)
          rw [HU.out]
          exact ⟨rfl, wordR_put HWDD.out (by decide) HN.out HQL.out hS4, hW3'.trans hW4⟩
        · have x4 : (wd.toList == [35, 102, 97, 108, 115, 101]) = false := tl_no f2
          have HFF : Hid (¬ (wd = ⟨#[35, 102]⟩ ∨ wd = ⟨#[35, 102, 97, 108, 115, 101]⟩)) := by unfold Hid; simp only [f1, f2, or_self, not_false_eq_true]
          clear f1 f2
          cases hnf : numF wd.data.toList with
          | true =>
            have HWDD := hideT' (wD_n HT.out HFF.out hnf)
            clear hnf
            go_wp2_with fail
            refine (put_any B b s (q' : Int) 0 out 1 (numTx wd) up (deep : Int) w3 HN.out hS3).mono ?_
            rintro e w4 ⟨rfl, hS4, hW4⟩
            go_wp2
            first | go_end0 | ((try simp only [Exit.inBlock, Exit.then]); refine bodyPost_ret (results_none rfl _ _ _) rfl ?_)
            rw [HU.out]
            exact ⟨rfl, wordR_put HWDD.out (by decide) HN.out HQL.out hS4, hW3'.trans hW4⟩
          | false =>
            have HWS := hideT' (wD_s HT.out HFF.out hnf)
            have HNF := hideT' hnf
            clear hnf
            go_wp2_with fail
            refine (l3Symbol_any wd _ hws.out).mono ?_
            rintro e w4 ⟨rfl, hW4⟩
            have hW4' := hW3'.trans (hW4.mono hS3.lt)
            have hS4 := hS3.kept hW4
            have e0 : symOk wd.data.toList = symT wd.data.toList := by unfold symOk; rw [HNF.out]; simp
            rw [e0]
            clear e0 hS3 hW3' hW4
            cases hst : symT wd.data.toList with
            | true =>
              have HWDD : Hid (wordD wd = some (2, wd)) := by unfold Hid; rw [HWS.out, hst]; rfl
              clear hst
              go_wp2_with fail
              refine (put_any B b s (q' : Int) 0 out 2 wd up (deep : Int) w4 HN.out hS4).mono ?_
              rintro e w5 ⟨rfl, hS5, hW5⟩
              go_wp2
              first | go_end0 | ((try simp only [Exit.inBlock, Exit.then]); refine bodyPost_ret (results_none rfl _ _ _) rfl ?_)
              rw [HU.out]
              exact ⟨rfl, wordR_put HWDD.out (by decide) HN.out HQL.out hS5, hW4'.trans hW5⟩
            | false =>
              have HWDD : Hid (wordD wd = none) := by unfold Hid; rw [HWS.out, hst]; rfl
              clear hst
              go_wp2_with fail
              refine (bad_st B b s q' 0 3 out _ (by exact hS4)).mono ?_
              rintro e w5 ⟨rfl, hS5, hW5⟩
              go_wp2
              first | go_end0 | ((try simp only [Exit.inBlock, Exit.then]); refine bodyPost_ret (results_none rfl _ _ _) rfl ?_)
              rw [HU.out]
              refine ⟨rfl, ?_, hW4'.trans hW5⟩
              unfold wordR
              rw [HWDD.out]
              exact ⟨q', out, 3, by decide, HQL.out, HN.out, hS5⟩
end Go.Proofs.YtnmofolhfbldjaaGreatDoor

/-
  Plain facts of the plain reader.
-/
namespace Go.Proofs.YtnmofolhfbldjaaGreatDoor
open Go.RowKit
set_option linter.unusedVariables false

theorem esc_le {s : ByteArray} {k k' : Nat} {c : UInt8} (hk : k < s.size) (h : escP s k = some (k', c)) : k < k' ∧ k' ≤ s.size := by
  unfold escP at h
  repeat' split at h
  all_goals first
    | (simp only [Option.some.injEq, Prod.mk.injEq] at h; omega)
    | cases h
theorem strF_le {s : ByteArray} : ∀ (f k : Nat) (t : List UInt8) (k' : Nat) (t' : List UInt8), k ≤ s.size → strF s f k t = some (k', t') → k < k' ∧ k' ≤ s.size
  | 0, k, t, k', t', hk, h => by cases h
  | f + 1, k, t, k', t', hk, h => by
    rw [strF] at h
    split at h
    · cases h
    · rename_i hk2
      split at h
      · simp only [Option.some.injEq, Prod.mk.injEq] at h; omega
      · split at h
        · cases h
        · rename_i k2 c he
          have := esc_le (by omega) he
          split at h
          · have := strF_le f k2 _ k' t' (by omega) h
            omega
          · cases h
theorem wordD_nil : wordD ⟨#[]⟩ = none := by
  have h1 : numF (⟨#[]⟩ : ByteArray).data.toList = false := by decide
  have h2 : symT (⟨#[]⟩ : ByteArray).data.toList = false := by decide
  unfold wordD
  rw [h1, h2, if_neg (by decide), if_neg (by decide)]
  rfl
theorem extract_nil (s : ByteArray) (q : Nat) : s.extract q q = ⟨#[]⟩ := by
  apply ByteArray.ext
  rw [ByteArray.data_extract]
  apply Array.ext'
  simp
theorem wordD_kind {w : ByteArray} {k : Int} {t : ByteArray} (h : wordD w = some (k, t)) : isL k = false := by
  unfold wordD at h
  repeat' split at h
  all_goals first
    | (simp only [Option.some.injEq, Prod.mk.injEq] at h; rw [← h.1]; decide)
    | cases h
/-- A datum read: where it ends, how many nodes, and whether it is a list. -/
def OneF (s : ByteArray) (a : Nat) (n a' : Nat) (ps : List Dm) : Prop :=
  a < a' ∧ a' ≤ s.size ∧ n + ps.length ≤ 300 ∧ 1 ≤ ps.length ∧ isL (ps.getD 0 default).k = ((byteAt s (skipP s a) == 40) || (byteAt s (skipP s a) == 39))
mutual
theorem oneF_le {s : ByteArray} : ∀ (f a : Nat) (up deep : Int) (n a' : Nat) (ps : List Dm), a ≤ s.size → n ≤ 300 → oneF s f a up deep n = some (a', ps) → OneF s a n a' ps
  | 0, a, up, deep, n, a', ps, ha, hn, h => by rw [oneF] at h; cases h
  | f + 1, a, up, deep, n, a', ps, ha, hn, h => by
    have hq := skipP_le s a ha
    rw [oneF] at h
    split at h
    · cases h
    · rename_i h0
      split at h
      · rename_i h40
        split at h
        · cases h
        · rename_i hl
          split at h
          · cases h
          · rename_i a2 d ps2 he
            have h2 := listF_le f (skipP s a + 1) n (deep + 1) (n + 1) a2 d ps2 (by omega) (by omega) he
            simp only [Option.some.injEq, Prod.mk.injEq] at h
            obtain ⟨rfl, rfl⟩ := h
            refine ⟨by omega, by omega, by rw [List.length_cons]; omega, by simp, ?_⟩
            rw [h40]
            cases d <;> rfl
      · split at h
        · cases h
        · split at h
          · rename_i h39
            split at h
            · cases h
            · rename_i hl
              split at h
              · cases h
              · rename_i a2 ps2 he
                have h2 := oneF_le f (skipP s a + 1) n (deep + 1) (n + 2) a2 ps2 (by omega) (by omega) he
                simp only [Option.some.injEq, Prod.mk.injEq] at h
                obtain ⟨rfl, rfl⟩ := h
                unfold OneF at h2
                refine ⟨by omega, by omega, by rw [List.length_cons, List.length_cons]; omega, by simp, ?_⟩
                rw [h39]
                rfl
          · rename_i h40 h41 h39
            have e4 : ((byteAt s (skipP s a) == 40) || (byteAt s (skipP s a) == 39)) = false := by
              rw [beq_eq_false_iff_ne.2 h40, beq_eq_false_iff_ne.2 h39]; rfl
            unfold OneF
            rw [e4]
            split at h
            · split at h
              · cases h
              · rename_i a2 t he
                split at h
                · cases h
                · have h2 := strF_le _ _ _ _ _ (by omega : skipP s a + 1 ≤ s.size) he
                  simp only [Option.some.injEq, Prod.mk.injEq] at h
                  obtain ⟨rfl, rfl⟩ := h
                  exact ⟨by omega, by omega, by simp; omega, by simp, rfl⟩
            · split at h
              · cases h
              · rename_i k t he
                split at h
                · cases h
                · have hw := wordP_le s (skipP s a) hq.2
                  have hne : wordP s (skipP s a) ≠ skipP s a := by
                    intro e
                    rw [e, extract_nil, wordD_nil] at he
                    cases he
                  simp only [Option.some.injEq, Prod.mk.injEq] at h
                  obtain ⟨rfl, rfl⟩ := h
                  exact ⟨by omega, by omega, by simp; omega, by simp, wordD_kind he⟩
theorem listF_le {s : ByteArray} : ∀ (f a k : Nat) (deep : Int) (n a' : Nat) (d : Bool) (ps : List Dm), a ≤ s.size → n ≤ 300 → listF s f a k deep n = some (a', d, ps) → a < a' ∧ a' ≤ s.size ∧ n + ps.length ≤ 300
  | 0, a, k, deep, n, a', d, ps, ha, hn, h => by rw [listF] at h; cases h
  | f + 1, a, k, deep, n, a', d, ps, ha, hn, h => by
    have hq := skipP_le s a ha
    rw [listF] at h
    split at h
    · cases h
    · rename_i h0
      split at h
      · simp only [Option.some.injEq, Prod.mk.injEq] at h
        obtain ⟨rfl, rfl, rfl⟩ := h
        exact ⟨by omega, by omega, by simp; omega⟩
      · split at h
        · split at h
          · cases h
          · split at h
            · cases h
            · rename_i a2 ps2 he
              have h2 := oneF_le f (skipP s a + 1) k deep n a2 ps2 (by omega) hn he
              unfold OneF at h2
              split at h
              · rename_i h41
                have hq2 := skipP_le s a2 h2.2.1
                simp only [Option.some.injEq, Prod.mk.injEq] at h
                obtain ⟨rfl, rfl, rfl⟩ := h
                exact ⟨by omega, by omega, by omega⟩
              · cases h
        · split at h
          · cases h
          · rename_i a2 ps2 he
            have h2 := oneF_le f (skipP s a) k deep n a2 ps2 (by omega) hn he
            unfold OneF at h2
            split at h
            · cases h
            · rename_i a3 d3 qs he2
              have h3 := listF_le f a2 k deep (n + ps2.length) a3 d3 qs (by omega) (by omega) he2
              simp only [Option.some.injEq, Prod.mk.injEq] at h
              obtain ⟨rfl, rfl, rfl⟩ := h
              rw [List.length_append]
              exact ⟨by omega, by omega, by omega⟩
end
end Go.Proofs.YtnmofolhfbldjaaGreatDoor

/-
  The model's reader: what stands behind a dot.
-/
namespace Go.Proofs.YtnmofolhfbldjaaGreatDoor
open Go.RowKit
set_option linter.unusedVariables false

theorem flat_set : ∀ (l : List Dm) (k : Nat), k < l.length → (l.flatMap dmL).set (k * 3) (.int .i64 6) = (l.set k ⟨6, (l.getD k default).t, (l.getD k default).u⟩).flatMap dmL
  | [], k, h => by simp at h
  | d :: l, 0, h => by simp [dmL]
  | d :: l, k + 1, h => by
    have hk : k < l.length := by simpa using h
    have ih := flat_set l k hk
    rw [List.set_cons_succ, List.flatMap_cons, List.flatMap_cons, List.set_append_right _ _ (by simp [dmL]; omega)]
    have e : (k + 1) * 3 - (dmL d).length = k * 3 := by simp [dmL]; omega
    rw [e, ih]
    rfl
theorem own3_block {w : World} {B n : Nat} {v : Value} {xs : List Value} (h : w.ownsRow B 39 3 v n xs) (hn : n ≠ 0) : ∃ g cap cur, v = .slice (some ⟨g, 0, none⟩) n cap ∧ B ≤ g ∧ RowAt w g 39 cur ∧ n ≤ cap ∧ cap ≤ maxLen ∧ cur.size = cap * 3 ∧ cur.toList.take (n * 3) = xs := by
  rcases h.2 with ⟨_, e⟩ | ⟨g, cap, cur, rfl, h2, h3, h4, h5, h6, h7⟩
  · exact absurd e hn
  · exact ⟨g, cap, cur, rfl, h2, h3, h4, h5, h6, h7⟩
theorem own3_kind {w : World} {B g n cap : Nat} {out : List Dm} (h : w.ownsRow B 39 3 (.slice (some ⟨g, 0, none⟩) n cap) out.length (out.flatMap dmL)) (i : Nat) (hi : i < out.length) : w.cell? ⟨g, i * 3, none⟩ = some (.int .i64 (dk out i)) := by
  have h1 := h.cells (g := g) rfl (i * 3) (.int .i64 (dk out i)) (by
    have := flat_get out i 0 hi (by decide)
    rw [show i * 3 = 3 * i + 0 from by omega, this]
    unfold dk
    rw [getD_at out i hi]
    rfl)
  have e : (⟨g, 0, none⟩ : Addr).add (i * 3) = ⟨g, i * 3, none⟩ := by unfold Addr.add; split <;> simp_all
  rw [e] at h1
  exact h1
theorem own3_set {w' : World} {B g cap k : Nat} {out : List Dm} {cur : Array Value} (hk : k < out.length) (h2 : B ≤ g) (h4 : out.length ≤ cap) (h5 : cap ≤ maxLen) (h6 : cur.size = cap * 3) (h7 : cur.toList.take (out.length * 3) = out.flatMap dmL)
    (hR : RowAt w' g 39 (cur.setIfInBounds (k * 3) (.int .i64 6))) : w'.ownsRow B 39 3 (.slice (some ⟨g, 0, none⟩) out.length cap) (dotAt out k true).length ((dotAt out k true).flatMap dmL) := by
  have hl := dotAt_len out k true
  refine ⟨by rw [dat_len]; omega, .inr ⟨g, cap, _, by rw [hl], h2, hR, by omega, h5, by simp; exact h6, ?_⟩⟩
  rw [hl, Array.toList_setIfInBounds, List.take_set, h7, flat_set out k hk]
  rfl
/-- What stands behind a dot leaves. -/
noncomputable def dotR (s : ByteArray) (f p k : Nat) (deep : Int) (n : Nat) : Option (Nat × Bool × List Dm) :=
  if n = k + 1 ∨ byteAt s (skipP s (p + 1)) = 40 ∨ byteAt s (skipP s (p + 1)) = 39 then none
  else match oneF s f (p + 1) k deep n with
    | none => none
    | some (a', ps) => if skipP s a' ≠ s.size ∧ byteAt s (skipP s a') = 41 then some (skipP s a' + 1, true, ps) else none
theorem dotR_none {s : ByteArray} {f p k : Nat} {deep : Int} {n : Nat} (h : oneF s f (p + 1) k deep n = none) : dotR s f p k deep n = none := by
  unfold dotR; rw [h]; split <;> rfl
theorem dotR_list {s : ByteArray} {f p k : Nat} {deep : Int} {n : Nat} (h : ((byteAt s (skipP s (p + 1)) == 40) || (byteAt s (skipP s (p + 1)) == 39)) = true) : dotR s f p k deep n = none := by
  unfold dotR
  rw [if_pos]
  simp only [Bool.or_eq_true, beq_iff_eq] at h
  exact .inr h
theorem dotR_some {s : ByteArray} {f p k : Nat} {deep : Int} {n a' : Nat} {ps : List Dm} (h0 : n ≠ k + 1) (h : ((byteAt s (skipP s (p + 1)) == 40) || (byteAt s (skipP s (p + 1)) == 39)) = false) (h1 : oneF s f (p + 1) k deep n = some (a', ps)) : dotR s f p k deep n = if skipP s a' ≠ s.size ∧ byteAt s (skipP s a') = 41 then some (skipP s a' + 1, true, ps) else none := by
  unfold dotR
  simp only [Bool.or_eq_false_iff, beq_eq_false_iff_ne] at h
  rw [if_neg (by simp only [h0, h.1, h.2, or_self, not_false_eq_true]), h1]

/-- The end of 'dot' where the code is set. -/
theorem bad_of {w : World} {B b : Nat} {s : ByteArray} {a' : Nat} {out' : List Dm} {c' : Int} (hc : c' ≠ 0) (ha : a' ≤ s.size) (hn : out'.length ≤ 300) (h : St w B b s (a' : Int) out' c') : Bad w B b s := ⟨a', out', c', hc, ha, hn, h⟩
theorem resL_none {w : World} {B b : Nat} {s : ByteArray} {out : List Dm} {k : Nat} {r : Option (Nat × Bool × List Dm)} (h : r = none) (hb : Bad w B b s) : ResL w B b s out k r := by subst h; exact hb

set_option maxHeartbeats 2000000 in
set_option maxRecDepth 100000 in
theorem dot_st (f : Nat) (IH : OneC f) (B b : Nat) (s : ByteArray) (p : Nat) (out : List Dm) (k deep : Nat) (parts : Int) (w : World) (hs : s.size ≤ 1500) (hp : p < s.size) (hf : 2 * (s.size - (p + 1)) + 1 ≤ f) (hn : out.length ≤ 300) (hk : k < out.length) (hd : deep ≤ 25) (hpa : parts = 0 ↔ out.length = k + 1) (h : St w B b s (p : Int) out 0) :
    Calls Tryz.prog 34 #[.pointer (some ⟨b, 0, none⟩), .int .i64 (k : Int), .int .i64 (deep : Int), .int .i64 parts] w fun e w' => e = .returned (.tuple #[]) ∧ ResL w' B b s out k (dotR s f p k (deep : Int) out.length) ∧ Below B w w' := by
  have HIH := hideT' IH
  have HN := hideT' hn
  have HF := hideT' hf
  have HD := hideT' hd
  have HK := hideT' hk
  by_cases h0 : parts = 0
  · have HZ : Hid (dotR s f p k (deep : Int) out.length = none) := by unfold Hid dotR; rw [if_pos (.inl (hpa.1 h0))]
    subst h0
    clear IH hn hf hd hk hpa
    go_enter Tryz.func34, Tryz.ntmps34
    go_wp2_with fail
    refine (bad_st B b s p 0 3 out w h).mono ?_
    rintro e w2 ⟨rfl, hS2, hW2⟩
    go_wp2
    first | go_end0 | ((try simp only [Exit.inBlock, Exit.then]); refine bodyPost_ret (results_none rfl _ _ _) rfl ?_)
    exact ⟨rfl, resL_none HZ.out (bad_of (by decide) (by omega) HN.out hS2), hW2⟩
  · have h0' : (parts == 0) = false := beq_eq_false_iff_ne.2 h0
    have HNK : Hid (out.length ≠ k + 1) := fun e => h0 (hpa.2 e)
    clear IH hn hf hd hk hpa h0
    obtain ⟨hB, v1, hR1, ho1⟩ := h
    obtain ⟨o, cap, rfl⟩ := own3_form ho1
    have c1 := r_1 hR1
    have c2 := r_2 hR1
    have HO1 := hideT' ho1
    clear ho1
    obtain ⟨n, hnn⟩ : ∃ n, n = out.length := ⟨_, rfl⟩
    have HNN := hideT' hnn
    rw [← hnn] at c2 hR1
    have HR1 : Hid (RAt w b s (p : Int) (.slice o n cap) 0) := hR1
    clear hnn
    go_enter Tryz.func34, Tryz.ntmps34
    go_wp2_with (refine store_at rfl 3 _ _ rfl rfl b 1 (.int .i64 ((p : Int) + 1)) rfl rfl one_int rfl 36 (rC s p (.slice o n cap) 0) hR1 (show 1 < 4 by omega) ?_; intro w2 hR2 hg2 hs2; have d2 := r_2 (show RAt w2 b s ((p + 1 : Nat) : Int) (.slice o n cap) 0 from hR2))
    obtain ⟨hS2, hW2⟩ := St.own (w := w) (w' := w2) (a' := ((p + 1 : Nat) : Int)) (c' := 0) hB (by rw [← HNN.out]; exact HR1.out) HO1.out (by rw [← HNN.out]; exact hR2) hg2
    clear c1 c2 d2 hR1 hR2 hg2 hs2
    refine (HIH.out B b s (p + 1) out (k : Int) deep w2 hs (by omega) HF.out HN.out HD.out hS2).mono ?_
    rintro e w3 ⟨rfl, hS3, hW3⟩
    have hW3' := hW2.trans hW3
    clear hS2 hW2 hW3
    cases hone : oneF s f (p + 1) (k : Int) (deep : Int) out.length with
    | none =>
      have HZ := hideT' (dotR_none hone)
      rw [hone] at hS3
      obtain ⟨a', out', c', hc, ha', hn', hSt⟩ := hS3
      have hc1 : (c' == 0) = false := beq_eq_false_iff_ne.2 hc
      have HC := hideT' hc
      have HN' := hideT' hn'
      have HS := hideT' hSt
      obtain ⟨_, v4, hR4, ho4⟩ := hSt
      have e3 := r_3 hR4
      clear hone hc hn' ho4
      go_wp2_with fail
      refine (skip_st B b s a' c' out' _ hs ha' (by exact HS.out)).mono ?_
      rintro e w5 ⟨rfl, hS5, hW5⟩
      have HS5 := hideT' hS5
      obtain ⟨_, v5, hR5, ho5⟩ := hS5
      have g3 := r_3 hR5
      go_wp2_with fail
      go_quiet (fail)
      go_wp2_with fail
      go_quiet (fail)
      go_wp2
      first | go_end0 | ((try simp only [Exit.inBlock, Exit.then]); refine bodyPost_ret (results_none rfl _ _ _) rfl ?_)
      exact ⟨rfl, resL_none HZ.out (bad_of HC.out (skipP_le s a' ha').2 HN'.out (by exact HS5.out)), below_drewN (hW3'.trans hW5) _⟩
    | some r =>
      obtain ⟨a', ps⟩ := r
      have hfa := oneF_le f (p + 1) (k : Int) (deep : Int) out.length a' ps (by omega) HN.out hone
      obtain ⟨_, ha', hl3, hl1, hlist⟩ := hfa
      have HONE := hideT' hone
      rw [hone] at hS3
      have hS3' : St w3 B b s (a' : Int) (out ++ ps) 0 := hS3
      obtain ⟨l, hl⟩ : ∃ l, l = out ++ ps := ⟨_, rfl⟩
      have hll : l.length = out.length + ps.length := by rw [hl, List.length_append]
      have hdk : dk l out.length = (ps.getD 0 default).k := by rw [hl]; unfold dk; simp [List.getD, List.getElem?_append_right]
      rw [← hl] at hS3'
      rw [← hdk] at hlist
      have HS := hideT' hS3'
      obtain ⟨_, v4, hR4, ho4⟩ := hS3'
      obtain ⟨g, cap4, cur, rfl, hgB, hRg, q4, q5, q6, q7⟩ := own3_block ho4 (by omega)
      have kk := own3_kind ho4 out.length (by omega)
      have e2 := r_2 hR4
      have e3 := r_3 hR4
      rw [← HNN.out] at kk hlist
      obtain ⟨N, hNN⟩ : ∃ N, N = l.length := ⟨_, rfl⟩
      have HNL := hideT' hNN
      have hnN : (n : Int) < (N : Int) := by have := HNN.out; omega
      have HL3 : Hid (l.length ≤ 300) := by unfold Hid; omega
      have HKN : Hid (k < l.length) := by unfold Hid; have := HK.out; omega
      have hkN : (k : Int) < (N : Int) := by have := HKN.out; omega
      have hN3 : N ≤ 300 := by rw [hNN]; exact HL3.out
      rw [← hNN] at e2
      have HEL := hideT' hl
      have HG : Hid (B ≤ g ∧ RowAt w3 g 39 cur ∧ l.length ≤ cap4 ∧ cap4 ≤ maxLen ∧ cur.size = cap4 * 3 ∧ cur.toList.take (l.length * 3) = l.flatMap dmL) := ⟨hgB, hRg, q4, q5, q6, q7⟩
      have HGB2 : Hid (some g ≠ some b) := fun e => own3_ne ho4 hR4 (by decide) (by rw [← e]; rfl)
      have HGB : Hid (g ≠ b) := fun e => HGB2.out (by rw [e])
      have HKC : Hid (k * 3 < cur.size) := by unfold Hid; have := HKN.out; omega
      clear hone hS3 hl hll hdk hl3 hl1 ho4 q4 q5 q6 q7 hgB hRg hNN
      obtain ⟨kd, hkd⟩ : ∃ kd, kd = dk l n := ⟨_, rfl⟩
      rw [← hkd] at kk hlist
      clear hkd
      cases hisl : isL kd with
      | true =>
        have HZ : Hid (dotR s f p k (deep : Int) out.length = none) := dotR_list (by rw [← hlist, hisl])
        have HIS := hideT' hisl
        clear hlist hisl
        go_wp2_with fail
        refine (l3IsList_any _ _).mono ?_
        rintro e w9 ⟨rfl, he9⟩
        rw [he9, HIS.out]
        clear he9 w9
        go_wp2_with fail
        refine (bad_st B b s a' 0 3 l _ (by exact HS.out)).mono ?_
        rintro e w4 ⟨rfl, hS4, hW4⟩
        have e03 : cod 0 3 = 3 := rfl
        rw [e03] at hS4
        have HS4 := hideT' hS4
        obtain ⟨_, v6, hR6, ho6⟩ := hS4
        have f3 := r_3 hR6
        have hW4' := hW3'.trans hW4
        clear e2 e3 kk hR4 ho6 hW4
        go_wp2_with fail
        refine (skip_st B b s a' 3 l _ hs ha' (by exact HS4.out)).mono ?_
        rintro e w5 ⟨rfl, hS5, hW5⟩
        have HS5 := hideT' hS5
        obtain ⟨_, v5, hR5, ho5⟩ := hS5
        have g3 := r_3 hR5
        go_wp2_with fail
        go_quiet (fail)
        go_wp2_with fail
        go_quiet (fail)
        go_wp2
        first | go_end0 | ((try simp only [Exit.inBlock, Exit.then]); refine bodyPost_ret (results_none rfl _ _ _) rfl ?_)
        exact ⟨rfl, resL_none HZ.out (bad_of (show (3 : Int) ≠ 0 by decide) (skipP_le s a' ha').2 HL3.out (by exact HS5.out)), below_drewN (hW4'.trans hW5) _⟩
      | false =>
        have HIS := hideT' hisl
        have HD1 : Hid (((byteAt s (skipP s (p + 1)) == 40) || (byteAt s (skipP s (p + 1)) == 39)) = false) := by unfold Hid; rw [← hlist, hisl]
        have HD2 := hideT' (dotR_some HNK.out HD1.out HONE.out)
        obtain ⟨q, hqe⟩ : ∃ q, q = skipP s a' := ⟨_, rfl⟩
        have hq : q ≤ s.size := by rw [hqe]; exact (skipP_le s a' ha').2
        have HQ := hideT' hqe
        rw [← hqe] at HD2
        clear hlist hisl hqe
        go_wp2_with fail
        refine (l3IsList_any _ _).mono ?_
        rintro e w9 ⟨rfl, he9⟩
        rw [he9, HIS.out]
        clear he9 w9
        go_wp2_with fail
        refine (skip_any b s a' 0 _ _ hs ha' (by exact hR4)).mono ?_
        rintro e w5 ⟨rfl, hR5, hg5, _⟩
        rw [← HQ.out] at hR5
        have HRG : Hid (RowAt w5 g 39 cur) := by
          have h1 := HG.out.2.1
          unfold Hid
          unfold RowAt at h1 ⊢
          rw [hg5.block g (Array.getElem?_eq_some_iff.1 h1).1 (fun e => HGB.out (by injection e))]
          exact h1
        have hW5 : Below B w3 w5 := (Below.refl B w3).grown hg5 (by have := RowAt.lt hR4; omega) (by intro j hj; injection hj; omega)
        have hW5' := hW3'.trans hW5
        have HS5 : Hid (St w5 B b s (q : Int) l 0) := by
          obtain ⟨x2, x3, x4, x5, x6, x7⟩ := HG.out
          exact ⟨hB, _, hR5, by rw [dat_len]; omega, .inr ⟨g, cap4, cur, rfl, x2, HRG.out, x4, x5, x6, x7⟩⟩
        have g0 := r_0 hR5
        have g1 := r_1 hR5
        have g2 := r_2 hR5
        have g3 := r_3 hR5
        rw [← HNL.out] at g2
        have HR5 := hideT' hR5
        clear e2 e3 kk hR4 hR5 hg5 hW5 hW3'
        by_cases he : (q : Int) = (s.size : Int)
        · have HZ : Hid (dotR s f p k (deep : Int) out.length = none) := HD2.out.trans (if_neg (fun h => h.1 (by omega)))
          go_wp2_with fail
          go_quiet (fail)
          go_wp2_with fail
          refine (bad_st B b s q 0 2 l _ (by exact HS5.out)).mono ?_
          rintro e w6 ⟨rfl, hS6, hW6⟩
          have e02 : cod 0 2 = 2 := rfl
          rw [e02] at hS6
          have HS6 := hideT' hS6
          obtain ⟨_, v6, hR6, ho6⟩ := hS6
          have f3 := r_3 hR6
          go_wp2_with fail
          go_quiet (fail)
          go_wp2
          first | go_end0 | ((try simp only [Exit.inBlock, Exit.then]); refine bodyPost_ret (results_none rfl _ _ _) rfl ?_)
          exact ⟨rfl, resL_none HZ.out (bad_of (show (2 : Int) ≠ 0 by decide) hq HL3.out (by exact HS6.out)), below_drewN ((below_drewN hW5' _).trans hW6) _⟩
        · have hql : q < s.size := by omega
          have hqi : (q : Int) < (s.size : Int) := by omega
          have hqn : ((q : Int) == (s.size : Int)) = false := beq_eq_false_iff_ne.2 he
          have HB := hideT' (byteAt_eq hql)
          clear he
          by_cases h41 : s[q] = 41
          · have hb41 : (s[q].toNat : Int) = 41 := by rw [h41]; rfl
            have HZ : Hid (dotR s f p k (deep : Int) out.length = some (q + 1, true, ps)) := HD2.out.trans (if_pos ⟨by omega, by rw [HB.out]; exact h41⟩)
            clear h41
            go_wp2_with fail
            go_quiet (fail)
            go_wp2_with fail
            go_quiet (fail)
            go_wp2_with (first | (refine store_at rfl 3 _ _ rfl rfl b 1 (.int .i64 ((q : Int) + 1)) rfl rfl one_int rfl 36 (rC s q (.slice (some ⟨g, 0, none⟩) l.length cap4) 0) HR5.out (show 1 < 4 by omega) ?_; intro w6 hR6 hg6 hs6; have g2' : w6.cell? ⟨b, 2, none⟩ = some (.slice (some ⟨g, 0, none⟩) N cap4) := by (rw [HNL.out]; exact r_2 (show RAt w6 b s ((q + 1 : Nat) : Int) (.slice (some ⟨g, 0, none⟩) l.length cap4) 0 from hR6))) | (refine store_at rfl 3 _ _ rfl rfl g (k * 3) (.int .i64 6) rfl rfl one_int rfl 39 cur (RowAt.grown HRG.out (grown_ahead _ hg6) HGB2.out) HKC.out ?_; intro w7 hR7 hg7 hs7))
            first | go_end0 | ((try simp only [Exit.inBlock, Exit.then]); refine bodyPost_ret (results_none rfl _ _ _) rfl ?_)
            have hz5 : B ≤ w5.heap.size := by have := RowAt.lt HR5.out; omega
            have hz6 : B ≤ w6.heap.size := by have := hg6.size; have e : (w5.drewN 0).heap.size = w5.heap.size := rfl; exact Nat.le_trans hz5 this
            refine ⟨rfl, ?_, ((below_drewN hW5' _).grown hg6 hz5 (by intro j hj; injection hj; omega)).grown hg7 hz6 (by intro j hj; injection hj; have := HG.out.1; omega)⟩
            rw [HZ.out]
            show St w7 B b s ((q + 1 : Nat) : Int) (dotAt (out ++ ps) k true) 0
            rw [← HEL.out]
            obtain ⟨x2, x3, x4, x5, x6, x7⟩ := HG.out
            have ho := own3_set HKN.out x2 x4 x5 x6 x7 hR7
            exact ⟨hB, _, RowAt.grown (show RAt w6 b s ((q + 1 : Nat) : Int) (.slice (some ⟨g, 0, none⟩) l.length cap4) 0 from hR6) hg7 (fun e => HGB2.out e.symm), ho⟩
          · have hb41 : ((s[q].toNat : Int) != 41) = true := by
              have := byte_ne (n := 41) (by decide) h41
              simpa [bne] using this
            have HZ : Hid (dotR s f p k (deep : Int) out.length = none) := HD2.out.trans (if_neg (fun h => h41 (by rw [← HB.out]; exact h.2)))
            clear h41
            go_wp2_with fail
            go_quiet (fail)
            go_wp2_with fail
            go_quiet (fail)
            go_wp2_with fail
            refine (bad_st B b s q 0 3 l _ (by exact HS5.out)).mono ?_
            rintro e w6 ⟨rfl, hS6, hW6⟩
            have e02 : cod 0 3 = 3 := rfl
            rw [e02] at hS6
            have HS6 := hideT' hS6
            obtain ⟨_, v6, hR6, ho6⟩ := hS6
            have f3 := r_3 hR6
            go_wp2
            first | go_end0 | ((try simp only [Exit.inBlock, Exit.then]); refine bodyPost_ret (results_none rfl _ _ _) rfl ?_)
            exact ⟨rfl, resL_none HZ.out (bad_of (show (3 : Int) ≠ 0 by decide) hq HL3.out (by exact HS6.out)), (below_drewN hW5' _).trans hW6⟩
end Go.Proofs.YtnmofolhfbldjaaGreatDoor
