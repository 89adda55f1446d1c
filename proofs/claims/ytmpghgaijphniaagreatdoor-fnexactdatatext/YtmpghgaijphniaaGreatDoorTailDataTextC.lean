/-
  The texts AppParts, AppDatum, Seats, ImplGoodData, ImplDataText, SpecText3, SpecDataText, DatLaw, SzData, DatCopy, one behind the other, as one.
-/
import Derived.Test.YtmpghgaijphniaaGreatDoorTailDataTextB
import Derived.Test.YtmpghgaijphniaaGreatDoorHeldMid
import Derived.Test.YtmpghgaijphniaaGreatDoorHeldCall
import Derived.Test.YtmpghgaijphniaaGreatDoorTailDataTextA
import Derived.Deep.OwnRows

/-
  What appendParts and appendDatum of impl answer, each by the other one.
-/
namespace Go.Proofs.YtmpghgaijphniaaGreatDoor
open Go.RowKit
set_option linter.unusedVariables false

structure Fine (l : List Dm) : Prop where
  few : l.length ≤ 300
  up : AllUp l
  dot : ∀ k, k < l.length → dotOk l k = true
  txt : ∀ k, k < l.length → txtOk (dk l k) (dt l k).data.toList = true
  size : ∀ k, k < l.length → (dt l k).size ≤ 1048576
theorem kind_of {q : Int} {t : List UInt8} (h : txtOk q t = true) : q = 1 ∨ q = 2 ∨ q = 3 ∨ q = 4 ∨ q = 5 ∨ q = 6 := by
  by_cases h1 : q = 1
  · exact .inl h1
  · by_cases h2 : q = 2
    · exact .inr (.inl h2)
    · by_cases h3 : q = 3
      · exact .inr (.inr (.inl h3))
      · by_cases h4 : q = 4
        · exact .inr (.inr (.inr (.inl h4)))
        · rw [txt_else h1 h2 h3 h4] at h
          unfold isL at h
          simp at h
          omega

/-- appendDatum answers as it should at node a. -/
def DatumOk (l : List Dm) (a : Nat) : Prop := ∀ (b B : Nat) (v : Value) (t : List UInt8) (w : World), B ≤ w.heap.size → b < B → DatAt w b l → BytesAt w B v t → t.length + 2200000 * (l.length - a) ≤ 900000000 →
  Calls Tryz.prog 40 #[v, slV b l, .int .i64 (a : Int)] w fun e w' => ∃ (v' : Value) (e' : Nat), e = .returned (.tuple #[v', .int .i64 (e' : Int)]) ∧ IsNx l (a : Int) e' ∧ (TX l a).length + 10 ≤ 2200000 * (e' - a) ∧ BytesAt w' B v' (t ++ TX l a) ∧ Below B w w'
/-- appendParts answers as it should at the list u, its parts beginning at a. -/
def PartsOk (l : List Dm) (u : Int) (a : Nat) : Prop := ∀ (b B : Nat) (v : Value) (t : List UInt8) (w : World), B ≤ w.heap.size → b < B → DatAt w b l → BytesAt w B v t → t.length + 10 + 2200000 * (l.length - a) ≤ 900000000 →
  Calls Tryz.prog 29 #[v, slV b l, .int .i64 (a : Int), .int .i64 u] w fun e w' => ∃ (v' : Value) (e' : Nat), e = .returned (.tuple #[v', .int .i64 (e' : Int)]) ∧ IsNx l u e' ∧ (jnK l (TX l) l.length u).length ≤ 2200000 * (e' - a) ∧ BytesAt w' B v' (t ++ jnK l (TX l) l.length u) ∧ Below B w w'

set_option maxHeartbeats 4000000 in
set_option maxRecDepth 100000 in
theorem parts_of {l : List Dm} (hF : Fine l) (u : Int) (a0 : Nat) (ha0 : (a0 : Int) = u + 1) (hl0 : a0 ≤ l.length) (ih : ∀ a, a0 ≤ a → a < l.length → DatumOk l a) : PartsOk l u a0 := by
  intro b B v t w hB hb hD hv hlen
  have HF := hideT' hF
  have HI := hideT' ih
  have HD := hideT' hD
  have hn3 := hF.few
  obtain ⟨i0, hi, hz0, hz1, hz2⟩ := info_parts info_u8
  have hP0 := hideT' (AtPart.start hF.up ha0 hl0)
  have hj0 : Hid (jnK l (TX l) a0 u = []) := by unfold Hid jnK; rw [kid_low l u a0 (by omega)]; rfl
  have hblt : b < w.heap.size := by omega
  have HA0 := hideT' ha0
  clear hF ih hD ha0
  go_enter Tryz.func29, Tryz.ntmps29
  go_wp2_with fail
  go_loopg [0, 2] (l.length - a0) (fun g x i wr => ∃ (a : Nat) (T : List UInt8), g = l.length - a ∧ i = .int .i64 (a : Int) ∧ a0 ≤ a ∧ Hid (AtPart l u a) ∧ Hid (T = t ++ jnK l (TX l) a u) ∧ Hid (T.length ≤ t.length + 2200000 * (a - a0)) ∧ BytesAt wr B x T ∧ Below B w wr)
  case atStart =>
    refine ⟨a0, t, rfl, rfl, Nat.le_refl _, hP0, ?_, ?_, hv, Below.refl _ _⟩
    · unfold Hid; rw [hj0.out, List.append_nil]
    · unfold Hid; omega
  case round =>
    obtain ⟨a, T, hg, rfl, haa, HP, HTE, HTL, hx, hW⟩ := hrel
    clear hv hP0 hj0
    have hWs := hW.size
    have hal := HP.out.hi
    have hDr : DatAt wr b l := RowAt.below HD.out hW hb
    have DONE : Hid ((a < l.length → du l a ≠ u) → IsNx l u a ∧ (jnK l (TX l) l.length u).length ≤ 2200000 * (a - a0) ∧ T = t ++ jnK l (TX l) l.length u) := fun hne => by
      obtain ⟨h1, h2⟩ := HP.out.done HF.out.up hne
      have h3 : jnK l (TX l) l.length u = jnK l (TX l) a u := by unfold jnK; rw [h2]
      refine ⟨h1, ?_, by rw [h3]; exact HTE.out⟩
      have h4 := HTL.out
      rw [HTE.out, List.length_append] at h4
      rw [h3]; omega
    by_cases hlt : (a : Int) < (l.length : Int)
    · have ha' : a < l.length := by omega
      have hcu := dat_u hDr ha'
      obtain ⟨y, hy⟩ : ∃ y, y = du l a := ⟨_, rfl⟩
      rw [← hy] at hcu
      have HY := hideT' hy
      clear hy
      by_cases hyu : y = u
      · subst hyu
        have HUR : Hid (-1 ≤ du l a ∧ du l a < (a : Int)) := HF.out.up.up l.length (Nat.le_refl _) a ha'
        have HBE := hideT' (beh_eq HF.out.up HF.out.dot HP.out ha' HY.out.symm)
        have HSP := hideT' HP.out.some
        have STEP : Hid (∀ e, IsNx l (a : Int) e → AtPart l y e ∧ jnK l (TX l) e y = jnK l (TX l) a y ++ ((if 0 < (kid l a y).length then [32] else []) ++ ((if behB l a then [46, 32] else []) ++ TX l a))) := fun e he => by
          obtain ⟨h1, h2⟩ := HP.out.step HF.out.up ha' HY.out.symm he
          exact ⟨h1, by rw [jnK_snoc (TX l) h2, HBE.out]⟩
        have HTB : Hid (T.length + 10 + 2200000 * (l.length - a) ≤ 900000000) := by
          have := HTL.out
          unfold Hid; omega
        by_cases hsep : (a0 : Int) < (a : Int)
        · go_wp2_with (first | (at_builtin; refine wpList_append_own _ rfl _ _ 49 rfl B 5 i0 (.int .u8 0) 1 1 Tryz.underlying49 hi hz0 hz1 hz2 rfl (by decide) _ _ _ rfl (hx.alloc _) ⟨wr.heap.size, 0, none⟩ 1 1 [.int .u8 32] rfl rfl (cell_one_new _ _ _) (one_byte _) (by have := HTB.out; unfold maxLen; omega) (by have := HTB.out; omega) (by simp; omega) ?_; intro v1 w1 hv1 hg1 _))
          have hW1 : Below B w w1 := (hW.alloc (by omega) _).grown hg1 (by simp; omega) (fun k hk => own_ge hx hk)
          have hx1 : BytesAt w1 B v1 (T ++ [32]) := by unfold BytesAt; rw [← bytes_snoc, List.length_append]; exact hv1
          have hs1 := hW1.size
          refine (behindDot_any b l a _ w1 rfl ha' hn3 (RowAt.below HD.out hW1 hb) HUR.out).mono ?_
          rintro e w' ⟨rfl, rfl⟩
          cases hbd : behB l a with
          | true =>
            have HBD := hideT' hbd
            clear hbd
            go_wp2_with (first | (at_builtin; refine Lib.wpList_append_own_string _ rfl _ _ 49 9 rfl B 5 i0 Tryz.underlying49 Tryz.underlying9 hi hz0 hz1 hz2 _ _ _ rfl hx1 ⟨#[46, 32]⟩ rfl (show (T ++ [32]).length + 2 ≤ maxLen by have := HTB.out; unfold maxLen; (try simp only [List.length_append, List.length_cons, List.length_nil]); omega) (show (T ++ [32]).length + 2 ≤ _ by have := HTB.out; (try simp only [List.length_append, List.length_cons, List.length_nil]); omega) (by omega) ?_; intro v2 w2 hv2 hg2 _))
            have hW2 : Below B w w2 := hW1.grown hg2 (by omega) (fun k hk => own_ge hx1 hk)
            have hx2 : BytesAt w2 B v2 (T ++ ([32] ++ [46, 32])) := by
              rw [bytes_app] at hv2
              have h3 : T ++ ([32] ++ [46, 32]) = (T ++ [32]) ++ (⟨#[46, 32]⟩ : ByteArray).data.toList := by simp
              unfold BytesAt; rw [h3, List.length_append]; exact hv2
            have hs2 := hW2.size
            refine (HI.out a haa ha' b B v2 (T ++ (([32] : List UInt8) ++ ([46, 32] : List UInt8))) w2 (by omega) hb (RowAt.below HD.out hW2 hb) hx2 (by have := HTB.out; have h0 : (T ++ (([32] : List UInt8) ++ ([46, 32] : List UInt8))).length = T.length + 3 := (by simp); omega)).mono ?_
            rintro e w4 ⟨v4, e4, rfl, hNx, hL4, hv4, hW4⟩
            obtain ⟨hPn, hJn⟩ := STEP.out e4 hNx
            have HPN := hideT' hPn
            have HJN := hideT' hJn
            have hNlo := hNx.lo
            have hNhi := hNx.hi
            have HL4 := hideT' hL4
            clear hPn hJn hNx hL4
            go_wp2
            go_roundg (l.length - e4)
            case measure => omega
            case rel =>
              refine ⟨e4, T ++ (([32] : List UInt8) ++ ([46, 32] : List UInt8)) ++ TX l a, rfl, rfl, by omega, HPN, ?_, ?_, hv4, hW2.trans hW4⟩
              · unfold Hid; rw [HJN.out, HTE.out, if_pos (HSP.out.2 (by have := HA0.out; omega)), if_pos (by exact HBD.out)]; simp only [List.append_assoc]
              · unfold Hid; have h1 := HTL.out; have h2 := HL4.out; simp only [List.length_append]; simp only [List.length_cons, List.length_nil]; omega
          | false =>
            have HBD := hideT' hbd
            clear hbd
            go_wp2_with fail
            have hW2 := hW1
            have hx2 := hx1
            rw [show T ++ [32] = T ++ (([32] : List UInt8) ++ []) by simp] at hx2
            have hs2 := hW2.size
            refine (HI.out a haa ha' b B _ (T ++ (([32] : List UInt8) ++ ([] : List UInt8))) w' (by omega) hb (RowAt.below HD.out hW2 hb) hx2 (by have := HTB.out; have h0 : (T ++ (([32] : List UInt8) ++ ([] : List UInt8))).length = T.length + 1 := (by simp); omega)).mono ?_
            rintro e w4 ⟨v4, e4, rfl, hNx, hL4, hv4, hW4⟩
            obtain ⟨hPn, hJn⟩ := STEP.out e4 hNx
            have HPN := hideT' hPn
            have HJN := hideT' hJn
            have hNlo := hNx.lo
            have hNhi := hNx.hi
            have HL4 := hideT' hL4
            clear hPn hJn hNx hL4
            go_wp2
            go_roundg (l.length - e4)
            case measure => omega
            case rel =>
              refine ⟨e4, T ++ (([32] : List UInt8) ++ ([] : List UInt8)) ++ TX l a, rfl, rfl, by omega, HPN, ?_, ?_, hv4, hW2.trans hW4⟩
              · unfold Hid; rw [HJN.out, HTE.out, if_pos (HSP.out.2 (by have := HA0.out; omega)), if_neg (by rw [HBD.out]; decide)]; simp only [List.append_assoc]
              · unfold Hid; have h1 := HTL.out; have h2 := HL4.out; simp only [List.length_append]; simp only [List.length_cons, List.length_nil]; omega
        · have hsep' : ¬ (a0 : Int) < (a : Int) := hsep
          go_wp2_with fail
          have hs1 := hW.size
          refine (behindDot_any b l a _ wr rfl ha' hn3 (RowAt.below HD.out hW hb) HUR.out).mono ?_
          rintro e w' ⟨rfl, rfl⟩
          cases hbd : behB l a with
          | true =>
            have HBD := hideT' hbd
            clear hbd
            go_wp2_with (first | (at_builtin; refine Lib.wpList_append_own_string _ rfl _ _ 49 9 rfl B 5 i0 Tryz.underlying49 Tryz.underlying9 hi hz0 hz1 hz2 _ _ _ rfl hx ⟨#[46, 32]⟩ rfl (show T.length + 2 ≤ maxLen by have := HTB.out; unfold maxLen; (try simp only [List.length_append, List.length_cons, List.length_nil]); omega) (show T.length + 2 ≤ _ by have := HTB.out; (try simp only [List.length_append, List.length_cons, List.length_nil]); omega) (by omega) ?_; intro v2 w2 hv2 hg2 _))
            have hW2 : Below B w w2 := hW.grown hg2 (by omega) (fun k hk => own_ge hx hk)
            have hx2 : BytesAt w2 B v2 (T ++ ([] ++ [46, 32])) := by
              rw [bytes_app] at hv2
              have h3 : T ++ ([] ++ [46, 32]) = T ++ (⟨#[46, 32]⟩ : ByteArray).data.toList := by simp
              unfold BytesAt; rw [h3, List.length_append]; exact hv2
            have hs2 := hW2.size
            refine (HI.out a haa ha' b B v2 (T ++ (([] : List UInt8) ++ ([46, 32] : List UInt8))) w2 (by omega) hb (RowAt.below HD.out hW2 hb) hx2 (by have := HTB.out; have h0 : (T ++ (([] : List UInt8) ++ ([46, 32] : List UInt8))).length = T.length + 2 := (by simp); omega)).mono ?_
            rintro e w4 ⟨v4, e4, rfl, hNx, hL4, hv4, hW4⟩
            obtain ⟨hPn, hJn⟩ := STEP.out e4 hNx
            have HPN := hideT' hPn
            have HJN := hideT' hJn
            have hNlo := hNx.lo
            have hNhi := hNx.hi
            have HL4 := hideT' hL4
            clear hPn hJn hNx hL4
            go_wp2
            go_roundg (l.length - e4)
            case measure => omega
            case rel =>
              refine ⟨e4, T ++ (([] : List UInt8) ++ ([46, 32] : List UInt8)) ++ TX l a, rfl, rfl, by omega, HPN, ?_, ?_, hv4, hW2.trans hW4⟩
              · unfold Hid; rw [HJN.out, HTE.out, if_neg (fun h => absurd (HSP.out.1 h) (by have := HA0.out; omega)), if_pos (by exact HBD.out)]; simp only [List.append_assoc]
              · unfold Hid; have h1 := HTL.out; have h2 := HL4.out; simp only [List.length_append]; simp only [List.length_cons, List.length_nil]; omega
          | false =>
            have HBD := hideT' hbd
            clear hbd
            go_wp2_with fail
            have hW2 := hW
            have hx2 := hx
            rw [show T = T ++ (([] : List UInt8) ++ []) by simp] at hx2
            have hs2 := hW2.size
            refine (HI.out a haa ha' b B _ (T ++ (([] : List UInt8) ++ ([] : List UInt8))) w' (by omega) hb (RowAt.below HD.out hW2 hb) hx2 (by have := HTB.out; have h0 : (T ++ (([] : List UInt8) ++ ([] : List UInt8))).length = T.length + 0 := (by simp); omega)).mono ?_
            rintro e w4 ⟨v4, e4, rfl, hNx, hL4, hv4, hW4⟩
            obtain ⟨hPn, hJn⟩ := STEP.out e4 hNx
            have HPN := hideT' hPn
            have HJN := hideT' hJn
            have hNlo := hNx.lo
            have hNhi := hNx.hi
            have HL4 := hideT' hL4
            clear hPn hJn hNx hL4
            go_wp2
            go_roundg (l.length - e4)
            case measure => omega
            case rel =>
              refine ⟨e4, T ++ (([] : List UInt8) ++ ([] : List UInt8)) ++ TX l a, rfl, rfl, by omega, HPN, ?_, ?_, hv4, hW2.trans hW4⟩
              · unfold Hid; rw [HJN.out, HTE.out, if_neg (fun h => absurd (HSP.out.1 h) (by have := HA0.out; omega)), if_neg (by rw [HBD.out]; decide)]; simp only [List.append_assoc]
              · unfold Hid; have h1 := HTL.out; have h2 := HL4.out; simp only [List.length_append]; simp only [List.length_nil]; omega
      · have hyu' : (y == u) = false := beq_eq_false_iff_ne.2 hyu
        have HDN := hideT' (DONE.out (fun _ => by rw [← HY.out]; exact hyu))
        clear hyu
        go_wp2
        go_ret2
        exact ⟨_, a, rfl, HDN.out.1, HDN.out.2.1, by rw [← HDN.out.2.2]; exact hx, hW⟩
    · have HDN := hideT' (DONE.out (fun h => by omega))
      go_wp2
      go_ret2
      exact ⟨_, a, rfl, HDN.out.1, HDN.out.2.1, by rw [← HDN.out.2.2]; exact hx, hW⟩
end Go.Proofs.YtmpghgaijphniaaGreatDoor

/-
  What appendDatum of impl answers, by appendParts; and so both.
-/
namespace Go.Proofs.YtmpghgaijphniaaGreatDoor
open Go.RowKit
set_option linter.unusedVariables false

theorem own_grown {w w' : World} {B n : Nat} {v : Value} {xs : List Value} {o : Obj} (h : w.ownsRow B 5 1 v n xs) (hg : (w.alloc o).grownBy w' (some w.heap.size)) : w'.ownsRow B 5 1 v n xs := by
  refine ⟨h.1, ?_⟩
  rcases h.2 with h1 | ⟨g, cap, cur, h1, h2, h3, h4⟩
  · exact .inl h1
  · have hlt : g < w.heap.size := (Array.getElem?_eq_some_iff.1 h3).1
    refine .inr ⟨g, cap, cur, h1, h2, ?_, h4⟩
    rw [hg.block g (by simp; omega) (by intro e; injection e; omega), Below.heap_alloc _ _ _ hlt]
    exact h3
theorem own_block {w : World} {B n : Nat} {v : Value} {xs : List Value} (h : w.ownsRow B 5 1 v n xs) (k : Nat) (hk : w.heap.size ≤ k) : some k ≠ v.ownBlock := by
  rcases h.2 with ⟨rfl, _⟩ | ⟨g, cap, cur, rfl, _, h3, _⟩
  · simp [Value.ownBlock]
  · have hlt : g < w.heap.size := (Array.getElem?_eq_some_iff.1 h3).1
    simp [Value.ownBlock]; omega

theorem own_ne {w : World} {B n k : Nat} {v : Value} {xs : List Value} {t : TypeId} {cs : Array Value} (h : w.ownsRow B 5 1 v n xs) (hR : RowAt w k t cs) (ht : t ≠ 5) : some k ≠ v.ownBlock := by
  rcases h.2 with ⟨rfl, _⟩ | ⟨g, cap, cur, rfl, _, h3, _⟩
  · simp [Value.ownBlock]
  · intro e
    simp [Value.ownBlock] at e
    subst e
    unfold RowAt at hR
    rw [h3] at hR
    injection hR with hR
    injection hR with _ h2 _
    exact ht h2.symm

section
variable {ops : Array Oper} {Q : Exit → Act → World → Prop} {md : Region.Mode} {S : World → Prop} {o : Oper} {fuel : Nat} {listed : Array Bool} {a : Act} {w : World}
/-- Bytes are appended, as the one operation of a drawn region that may come up. -/
theorem held_append (i : Nat) (d : Option Tmp) (hr : Region.ready md ops listed = [i]) (hi : ops[i]? = some o) (hw : Region.wanted o (yielded ops a.tmps) = true) (s x : Operand)
    (ho : o.op = .call { callee := .builtin .append, args := #[s, x], argTypes := #[49, 49] }) (hd : o.dst = d) (B : Nat) (v : Value) (n : Nat) (xs : List Value) (hs : a.eval s = v) (hown : w.ownsRow B 5 1 v n xs)
    (ad : Addr) (m c : Nat) (news : List Value) (hx : a.eval x = .slice (some ad) m c) (hl : news.length = m * 1) (hnews : ∀ j u, news[j]? = some u → w.cell? (ad.add j) = some u) (h1 : ∀ u ∈ news, u.oneCell' = true)
    (h63 : n + m ≤ maxLen) (hbytes : (n + m) * 1 ≤ 140737488355328) (hbase : B ≤ w.heap.size)
    (h : ∀ v' w', w'.ownsRow B 5 1 v' (n + m) (xs ++ news) → w.grownBy w' v.ownBlock → S w' ∧ wpAnyH Tryz.prog md ops Q S fuel (listed.setIfInBounds i true) (a.put d v') w') : wpAnyH Tryz.prog md ops Q S (fuel + 1) listed a w := by
  subst hd
  obtain ⟨i0, hi0, hz0, hz1, hz2⟩ := info_parts info_u8
  refine wpAnyH_ready hr (by simp) (AllReadyH.cons hi (fun K hK => ?_) AllReadyH.nil)
  rw [if_pos hw]
  exact wp_append_own w s x 49 ho B 5 i0 (.int .u8 0) 1 1 Tryz.underlying49 hi0 hz0 hz1 hz2 rfl (by decide) v n xs hs hown ad m c news hx hl hnews h1 h63 hbytes hbase (fun v' w' h2 h3 _ => hK.out _ _ (h v' w' h2 h3).1 (fun _ => (h v' w' h2 h3).2))
/-- A string's bytes are appended, likewise. -/
theorem held_append_str (i : Nat) (d : Option Tmp) (hr : Region.ready md ops listed = [i]) (hi : ops[i]? = some o) (hw : Region.wanted o (yielded ops a.tmps) = true) (s x : Operand)
    (ho : o.op = .call { callee := .builtin .append, args := #[s, x], argTypes := #[49, 9] }) (hd : o.dst = d) (B : Nat) (v : Value) (n : Nat) (xs : List Value) (hs : a.eval s = v) (hown : w.ownsRow B 5 1 v n xs)
    (t : ByteArray) (hx : a.eval x = .string t) (h63 : n + t.size ≤ maxLen) (hbytes : n + t.size ≤ 140737488355328) (hbase : B ≤ w.heap.size)
    (h : ∀ v' w', w'.ownsRow B 5 1 v' (n + t.size) (xs ++ Lib.strCells t) → w.grownBy w' v.ownBlock → S w' ∧ wpAnyH Tryz.prog md ops Q S fuel (listed.setIfInBounds i true) (a.put d v') w') : wpAnyH Tryz.prog md ops Q S (fuel + 1) listed a w := by
  subst hd
  obtain ⟨i0, hi0, hz0, hz1, hz2⟩ := info_parts info_u8
  refine wpAnyH_ready hr (by simp) (AllReadyH.cons hi (fun K hK => ?_) AllReadyH.nil)
  rw [if_pos hw]
  obtain ⟨v', w', hrn, h2, h3, _⟩ := Lib.run_append_own_string (P := Tryz.prog) w B 49 9 o.type 5 i0 Tryz.underlying49 Tryz.underlying9 hi0 hz0 hz1 hz2 v n xs hown t h63 hbytes hbase
  unfold Oper.wp execOp
  simp only [ho, resolve, invoke, builtin, Sem.run_bind, Sem.run_pure, Result.andThen_ok, List.map_toArray, List.map_cons, List.map_nil, hs, hx, hrn]
  exact hK.out _ _ (h v' w' h2 h3).1 (fun _ => (h v' w' h2 h3).2)
end

theorem tx_leaf {l : List Dm} {a : Nat} (ha : a < l.length) (t : ByteArray) (ht : t = dt l a) (hq : dk l a = 1 ∨ dk l a = 2) : TX l a = t.data.toList := by
  rw [TX_eq ha, if_neg (by omega), if_neg (by omega), if_pos hq, ht]
theorem tx_str {l : List Dm} {a : Nat} (ha : a < l.length) (t : ByteArray) (ht : t = dt l a) (hq : dk l a = 3) : TX l a = quo t.data.toList := by
  rw [TX_eq ha, if_pos hq, ht]
theorem tx_bool {l : List Dm} {a : Nat} (ha : a < l.length) (t : ByteArray) (ht : t = dt l a) (hq : dk l a = 4) : TX l a = 35 :: t.data.toList := by
  rw [TX_eq ha, if_neg (by omega), if_pos hq, ht]
theorem tx_list {l : List Dm} {a : Nat} (ha : a < l.length) (hq : dk l a = 5 ∨ dk l a = 6) : TX l a = 40 :: (jnK l (TX l) l.length (a : Int) ++ [41]) := by
  rw [TX_eq ha, if_neg (by omega), if_neg (by omega), if_neg (by omega)]
theorem not_list {q : Int} (h : q ≠ 5) (h' : q ≠ 6) : isL q = false := by unfold isL; rw [decide_eq_false h, decide_eq_false h']; rfl

set_option maxHeartbeats 4000000 in
set_option maxRecDepth 100000 in
theorem datum_of {l : List Dm} (hF : Fine l) (a : Nat) (ha : a < l.length) (ih : PartsOk l (a : Int) (a + 1)) : DatumOk l a := by
  intro b B v t w hB hb hD hv hlen
  have HI := hideT' ih
  have hz := zero_dm.1
  have hn3 := hF.few
  have HD := hideT' hD
  obtain ⟨i0, hi, hz0, hz1, hz2⟩ := info_parts info_u8
  obtain ⟨q, s, y, hd, hq, hs, hy⟩ := dm_parts l a
  have hss : s.size ≤ 1048576 := by rw [hs]; exact hF.size a ha
  have HDM := hideT' hd
  have HQ := hideT' hq
  have HTX := hideT' hs
  have hkd := kind_of (hF.txt a ha)
  rw [← hq] at hkd
  have HUP := hideT' hF.up
  have A : DmAt (w.alloc (.cells (dmC default) 37)) w.heap.size default := RowAt.new w _ _
  unfold BytesAt at hv
  obtain ⟨n, hn⟩ : ∃ n, n = t.length := ⟨_, rfl⟩
  rw [← hn] at hv hlen
  have HN := hideT' hn
  have LEAF : Hid (q ≠ 5 → q ≠ 6 → IsNx l (a : Int) (a + 1)) := fun h5 h6 => nx_leaf HUP.out ha (by rw [← HQ.out]; exact not_list h5 h6)
  have hBn : ∀ w1, (w.alloc (.cells (dmC default) 37)).grownBy w1 (some w.heap.size) → Below B w w1 := fun w1 hg => ((Below.refl B w).alloc hB _).grown hg (by simp; omega) (by intro k hk; injection hk; omega)
  have HBn := hideT' hBn
  clear ih hd hq hs hy hF hn hBn
  rcases hkd with rfl | rfl | rfl | rfl | rfl | rfl
  · have HX := hideT' (tx_leaf ha s HTX.out (by rw [← HQ.out]; simp))
    have HNX := hideT' (LEAF.out (by decide) (by decide))
    go_enter Tryz.func40, Tryz.ntmps40
    go_wp2_with (first | (refine load_dm rfl _ rfl b a rfl l hD ha ⟨1, s, y⟩ HDM.out ?_) | (refine store_dv rfl _ _ rfl rfl w.heap.size ⟨1, s, y⟩ rfl rfl default A ?_; intro w1 hN1 hg1 hs1; have c0 : w1.cell? ⟨w.heap.size, 0, none⟩ = some (.int .i64 1) := dm_c0 hN1; have c1 : w1.cell? ⟨w.heap.size, 1, none⟩ = some (.string s) := dm_c1 hN1; have hv1 : w1.ownsRow B 5 1 v n (Lib.byteCells t) := own_grown hv hg1; have hs1' : w.heap.size + 1 ≤ w1.heap.size := (by rw [hs1]; simp); clear hs1) | (at_builtin; refine Lib.wpList_append_own_string _ rfl _ _ 49 9 rfl B 5 i0 Tryz.underlying49 Tryz.underlying9 hi hz0 hz1 hz2 _ _ _ rfl hv1 s rfl (by unfold maxLen; omega) (by omega) (by omega) ?_; intro v2 w2 hv2 hg2 _))
    have hW1 := HBn.out w1 hg1
    have hW2 : Below B w w2 := hW1.grown hg2 (by omega) (fun k hk => own_ge hv1 hk)
    go_ret2
    refine ⟨v2, a + 1, rfl, HNX.out, ?_, ?_, hW2⟩
    · have hl : s.data.toList.length = s.size := by simp
      rw [HX.out, hl]; omega
    · have hl : s.data.toList.length = s.size := by simp
      rw [bytes_app] at hv2
      unfold BytesAt
      rw [HX.out, List.length_append, ← HN.out, hl]
      exact hv2
  · have HX := hideT' (tx_leaf ha s HTX.out (by rw [← HQ.out]; simp))
    have HNX := hideT' (LEAF.out (by decide) (by decide))
    go_enter Tryz.func40, Tryz.ntmps40
    go_wp2_with (first | (refine load_dm rfl _ rfl b a rfl l hD ha ⟨2, s, y⟩ HDM.out ?_) | (refine store_dv rfl _ _ rfl rfl w.heap.size ⟨2, s, y⟩ rfl rfl default A ?_; intro w1 hN1 hg1 hs1; have c0 : w1.cell? ⟨w.heap.size, 0, none⟩ = some (.int .i64 2) := dm_c0 hN1; have c1 : w1.cell? ⟨w.heap.size, 1, none⟩ = some (.string s) := dm_c1 hN1; have hv1 : w1.ownsRow B 5 1 v n (Lib.byteCells t) := own_grown hv hg1; have hs1' : w.heap.size + 1 ≤ w1.heap.size := (by rw [hs1]; simp); clear hs1) | (at_builtin; refine Lib.wpList_append_own_string _ rfl _ _ 49 9 rfl B 5 i0 Tryz.underlying49 Tryz.underlying9 hi hz0 hz1 hz2 _ _ _ rfl hv1 s rfl (by unfold maxLen; omega) (by omega) (by omega) ?_; intro v2 w2 hv2 hg2 _))
    have hW1 := HBn.out w1 hg1
    have hW2 : Below B w w2 := hW1.grown hg2 (by omega) (fun k hk => own_ge hv1 hk)
    go_ret2
    refine ⟨v2, a + 1, rfl, HNX.out, ?_, ?_, hW2⟩
    · have hl : s.data.toList.length = s.size := by simp
      rw [HX.out, hl]; omega
    · have hl : s.data.toList.length = s.size := by simp
      rw [bytes_app] at hv2
      unfold BytesAt
      rw [HX.out, List.length_append, ← HN.out, hl]
      exact hv2
  · have HX := hideT' (tx_str ha s HTX.out HQ.out.symm)
    have HNX := hideT' (LEAF.out (by decide) (by decide))
    go_enter Tryz.func40, Tryz.ntmps40
    go_wp2_with (first | (refine load_dm rfl _ rfl b a rfl l hD ha ⟨3, s, y⟩ HDM.out ?_) | (refine store_dv rfl _ _ rfl rfl w.heap.size ⟨3, s, y⟩ rfl rfl default A ?_; intro w1 hN1 hg1 hs1; have c0 : w1.cell? ⟨w.heap.size, 0, none⟩ = some (.int .i64 3) := dm_c0 hN1; have c1 : w1.cell? ⟨w.heap.size, 1, none⟩ = some (.string s) := dm_c1 hN1; have hv1 : w1.ownsRow B 5 1 v n (Lib.byteCells t) := own_grown hv hg1; have hs1' : w.heap.size + 1 ≤ w1.heap.size := (by rw [hs1]; simp); clear hs1))
    have hW1 := HBn.out w1 hg1
    have hb1 : BytesAt w1 B v t := by unfold BytesAt; rw [← HN.out]; exact hv1
    refine (appendString_any B v t s w1 (by omega) hb1 (by rw [← HN.out]; omega) hss).mono ?_
    rintro e w2 ⟨v2, rfl, hv2, hW2⟩
    go_wp2
    go_ret2
    refine ⟨v2, a + 1, rfl, HNX.out, ?_, by rw [HX.out]; exact hv2, hW1.trans hW2⟩
    have hl : s.data.toList.length = s.size := by simp
    have hf := esc_flat s.data.toList
    rw [HX.out]
    unfold quo
    simp only [List.length_cons, List.length_append, List.length_nil]
    omega
  · have HX := hideT' (tx_bool ha s HTX.out HQ.out.symm)
    have HNX := hideT' (LEAF.out (by decide) (by decide))
    go_enter Tryz.func40, Tryz.ntmps40
    go_wp2_with (first | (refine load_dm rfl _ rfl b a rfl l hD ha ⟨4, s, y⟩ HDM.out ?_) | (refine store_dv rfl _ _ rfl rfl w.heap.size ⟨4, s, y⟩ rfl rfl default A ?_; intro w1 hN1 hg1 hs1; have c0 : w1.cell? ⟨w.heap.size, 0, none⟩ = some (.int .i64 4) := dm_c0 hN1; have c1 : w1.cell? ⟨w.heap.size, 1, none⟩ = some (.string s) := dm_c1 hN1; have hv1 : w1.ownsRow B 5 1 v n (Lib.byteCells t) := own_grown hv hg1; have hs1' : w.heap.size + 1 ≤ w1.heap.size := (by rw [hs1]; simp); clear hs1))
    have hW1 := HBn.out w1 hg1
    refine held_begin (fun w' => w'.cell? ⟨w.heap.size, 1, none⟩ = some (.string s)) (by kernel_rfl) ?_
    have hS : w1.drew.cell? ⟨w.heap.size, 1, none⟩ = some (.string s) := c1
    have hvd : w1.drew.ownsRow B 5 1 v n (Lib.byteCells t) := hv1
    refine held_val 0 (some 45) rfl rfl (by kernel_rfl) (by kernel_rfl) (by kernel_rfl) noPanic_put rfl v (fun _ => rfl) hS ?_
    simp only [Act.put, List.setIfInBounds_toArray, List.set_cons_zero, List.set_cons_succ]
    refine held_val 3 (some 48) rfl rfl (by kernel_rfl) (by kernel_rfl) (by kernel_rfl) noPanic_put rfl (.pointer (some ⟨w.heap.size, 1, none⟩)) (fun _ => by go_simp) hS ?_
    simp only [Act.put, List.setIfInBounds_toArray, List.set_cons_zero, List.set_cons_succ]
    refine held_valS 4 (some 49) rfl rfl (by kernel_rfl) (by kernel_rfl) (by kernel_rfl) noPanic_put rfl (.string s) (fun _ hw' => by have h1 := hw'; go_simp) hS ?_
    simp only [Act.put, List.setIfInBounds_toArray, List.set_cons_zero, List.set_cons_succ]
    refine wpAnyH_ready (rs := [1]) (by kernel_rfl) (by simp) ?_
    have hN2 : DmAt (w1.drew.alloc (.cells #[.int .u8 35] 5)) w.heap.size ⟨4, s, y⟩ := RowAt.old (show DmAt w1.drew w.heap.size ⟨4, s, y⟩ from hN1) _
    refine ready_val 1 (some 46) rfl rfl rfl (.slice (some ⟨w1.heap.size, 0, none⟩) 1 1) (w1.drew.alloc (.cells #[.int .u8 35] 5)) (by go_simp) (dm_c1 hN2) ?_ AllReadyH.nil
    simp only [Act.put, List.setIfInBounds_toArray, List.set_cons_zero, List.set_cons_succ]
    refine held_append 2 (some 47) (by kernel_rfl) rfl rfl _ _ rfl rfl B v n (Lib.byteCells t) rfl (hvd.alloc _) ⟨w1.heap.size, 0, none⟩ 1 1 [.int .u8 35] rfl rfl (cell_one_new w1.drew _ _) (one_byte _) (by unfold maxLen; omega) (by omega) (by simp; omega) ?_
    intro v2 w2 hv2 hg2
    have hN3 : DmAt w2 w.heap.size ⟨4, s, y⟩ := RowAt.grown hN2 hg2 (own_block hv w.heap.size (Nat.le_refl _))
    have hW2 : Below B w w2 := (((Below.drew hW1).alloc (by show B ≤ w1.heap.size; omega) _).grown hg2 (by simp; omega) (fun k hk => own_ge hv1 hk))
    have hs2 := hg2.size
    refine ⟨dm_c1 hN3, ?_⟩
    simp only [Act.put, List.setIfInBounds_toArray, List.set_cons_zero, List.set_cons_succ]
    refine held_append_str 5 (some 50) (by kernel_rfl) rfl rfl _ _ rfl rfl B v2 (n + 1) _ rfl hv2 s rfl (by unfold maxLen; omega) (by omega) (by have := hW2.size; omega) ?_
    intro v3 w3 hv3 hg3
    have hW3 : Below B w w3 := hW2.grown hg3 (by have := hW2.size; omega) (fun k hk => own_ge hv2 hk)
    have hN4 : w3.cell? ⟨w.heap.size, 1, none⟩ = some (.string s) := dm_c1 (RowAt.grown hN3 hg3 (own_ne hv2 hN3 (by decide)))
    refine ⟨hN4, ?_⟩
    simp only [Act.put, List.setIfInBounds_toArray, List.set_cons_zero, List.set_cons_succ]
    refine held_assign 6 (some 0) (by kernel_rfl) rfl rfl _ rfl rfl v3 rfl hN4 ?_
    simp only [Act.put, List.setIfInBounds_toArray, List.set_cons_zero]
    refine wpAnyH_done (by kernel_rfl) ?_ _
    refine NoPanic.normal ?_
    go_wp2
    go_ret2
    refine ⟨v3, a + 1, rfl, HNX.out, ?_, ?_, hW3⟩
    · have hl : s.data.toList.length = s.size := by simp
      rw [HX.out, List.length_cons, hl]; omega
    · have hl : s.data.toList.length = s.size := by simp
      have h4 : Lib.byteCells t ++ [Value.int .u8 35] ++ Lib.strCells s = Lib.byteCells (t ++ 35 :: s.data.toList) := by simp [Lib.byteCells, Lib.strCells]
      unfold BytesAt
      rw [HX.out, List.length_append, List.length_cons, ← HN.out, hl, ← h4, show n + (s.size + 1) = n + 1 + s.size by omega]
      exact hv3
  · have HX := hideT' (tx_list ha (by rw [← HQ.out]; simp))
    go_enter Tryz.func40, Tryz.ntmps40
    go_wp2_with (first | (refine load_dm rfl _ rfl b a rfl l hD ha ⟨5, s, y⟩ HDM.out ?_) | (refine store_dv rfl _ _ rfl rfl w.heap.size ⟨5, s, y⟩ rfl rfl default A ?_; intro w1 hN1 hg1 hs1; have c0 : w1.cell? ⟨w.heap.size, 0, none⟩ = some (.int .i64 5) := dm_c0 hN1; have c1 : w1.cell? ⟨w.heap.size, 1, none⟩ = some (.string s) := dm_c1 hN1; have hv1 : w1.ownsRow B 5 1 v n (Lib.byteCells t) := own_grown hv hg1; have hs1' : w.heap.size + 1 ≤ w1.heap.size := (by rw [hs1]; simp); clear hs1) | (at_builtin; refine wpList_append_own _ rfl _ _ 49 rfl B 5 i0 (.int .u8 0) 1 1 Tryz.underlying49 hi hz0 hz1 hz2 rfl (by decide) _ _ _ rfl (hv1.alloc _) ⟨w1.heap.size, 0, none⟩ 1 1 [.int .u8 40] rfl rfl (cell_one_new _ _ _) (one_byte _) (by unfold maxLen; omega) (by omega) (by simp; omega) ?_; intro v2 w2 hv2 hg2 _))
    have hW1 := HBn.out w1 hg1
    have hW2 : Below B w w2 := (hW1.alloc (by omega) _).grown hg2 (by simp; omega) (fun k hk => own_ge hv1 hk)
    have hs2 := hg2.size
    simp only [World.size_alloc] at hs2
    have hb2 : BytesAt w2 B v2 (t ++ [40]) := by unfold BytesAt; rw [← bytes_snoc, List.length_append, ← HN.out]; exact hv2
    have hlt2 : (t ++ [40]).length = n + 1 := by rw [List.length_append, ← HN.out]; rfl
    obtain ⟨a1, ha1⟩ : ∃ a1, a1 = a + 1 := ⟨_, rfl⟩
    have HI2 := HI.out
    rw [← ha1] at HI2
    have hcast : (a : Int) + 1 = (a1 : Int) := by omega
    rw [hcast]
    have HA1 := hideT' ha1
    clear ha1 hcast
    refine (HI2 b B v2 (t ++ [40]) w2 (by omega) hb (RowAt.below HD.out hW2 hb) hb2 (by have := HA1.out; rw [hlt2]; omega)).mono ?_
    rintro e w3 ⟨v3, e3, rfl, hNx, hJL, hv3, hW3⟩
    have hW23 := hW2.trans hW3
    have hs3 := hW3.size
    have hNl := hNx.lo
    have hNh := hNx.hi
    have HNx := hideT' hNx
    have hl3 : (t ++ [40] ++ jnK l (TX l) l.length (a : Int)).length ≤ 900000000 := by rw [List.length_append, hlt2]; have := HA1.out; omega
    unfold BytesAt at hv3
    obtain ⟨n3, hn3'⟩ : ∃ n3, n3 = (t ++ [40] ++ jnK l (TX l) l.length (a : Int)).length := ⟨_, rfl⟩
    rw [← hn3'] at hv3 hl3
    have HN3 := hideT' hn3'
    have HJL := hideT' hJL
    clear hNx hn3' hJL hlt2 hb2
    go_wp2_with (first | (at_builtin; refine wpList_append_own _ rfl _ _ 49 rfl B 5 i0 (.int .u8 0) 1 1 Tryz.underlying49 hi hz0 hz1 hz2 rfl (by decide) _ _ _ rfl (hv3.alloc _) ⟨w3.heap.size, 0, none⟩ 1 1 [.int .u8 41] rfl rfl (cell_one_new _ _ _) (one_byte _) (by unfold maxLen; omega) (by omega) (by simp; omega) ?_; intro v4 w4 hv4 hg4 _))
    have hW4 : Below B w w4 := (hW23.alloc (by omega) _).grown hg4 (by simp; omega) (fun k hk => own_ge hv3 hk)
    go_ret2
    refine ⟨v4, e3, rfl, HNx.out, ?_, ?_, hW4⟩
    · have h1 := HJL.out
      have h2 := HA1.out
      rw [HX.out]
      simp only [List.length_cons, List.length_append, List.length_nil]
      omega
    · have h4 : t ++ TX l a = t ++ [40] ++ jnK l (TX l) l.length (a : Int) ++ [41] := by rw [HX.out]; simp
      unfold BytesAt
      rw [h4, ← bytes_snoc, List.length_append, ← HN3.out]
      exact hv4
  · have HX := hideT' (tx_list ha (by rw [← HQ.out]; simp))
    go_enter Tryz.func40, Tryz.ntmps40
    go_wp2_with (first | (refine load_dm rfl _ rfl b a rfl l hD ha ⟨6, s, y⟩ HDM.out ?_) | (refine store_dv rfl _ _ rfl rfl w.heap.size ⟨6, s, y⟩ rfl rfl default A ?_; intro w1 hN1 hg1 hs1; have c0 : w1.cell? ⟨w.heap.size, 0, none⟩ = some (.int .i64 6) := dm_c0 hN1; have c1 : w1.cell? ⟨w.heap.size, 1, none⟩ = some (.string s) := dm_c1 hN1; have hv1 : w1.ownsRow B 5 1 v n (Lib.byteCells t) := own_grown hv hg1; have hs1' : w.heap.size + 1 ≤ w1.heap.size := (by rw [hs1]; simp); clear hs1) | (at_builtin; refine wpList_append_own _ rfl _ _ 49 rfl B 5 i0 (.int .u8 0) 1 1 Tryz.underlying49 hi hz0 hz1 hz2 rfl (by decide) _ _ _ rfl (hv1.alloc _) ⟨w1.heap.size, 0, none⟩ 1 1 [.int .u8 40] rfl rfl (cell_one_new _ _ _) (one_byte _) (by unfold maxLen; omega) (by omega) (by simp; omega) ?_; intro v2 w2 hv2 hg2 _))
    have hW1 := HBn.out w1 hg1
    have hW2 : Below B w w2 := (hW1.alloc (by omega) _).grown hg2 (by simp; omega) (fun k hk => own_ge hv1 hk)
    have hs2 := hg2.size
    simp only [World.size_alloc] at hs2
    have hb2 : BytesAt w2 B v2 (t ++ [40]) := by unfold BytesAt; rw [← bytes_snoc, List.length_append, ← HN.out]; exact hv2
    have hlt2 : (t ++ [40]).length = n + 1 := by rw [List.length_append, ← HN.out]; rfl
    obtain ⟨a1, ha1⟩ : ∃ a1, a1 = a + 1 := ⟨_, rfl⟩
    have HI2 := HI.out
    rw [← ha1] at HI2
    have hcast : (a : Int) + 1 = (a1 : Int) := by omega
    rw [hcast]
    have HA1 := hideT' ha1
    clear ha1 hcast
    refine (HI2 b B v2 (t ++ [40]) w2 (by omega) hb (RowAt.below HD.out hW2 hb) hb2 (by have := HA1.out; rw [hlt2]; omega)).mono ?_
    rintro e w3 ⟨v3, e3, rfl, hNx, hJL, hv3, hW3⟩
    have hW23 := hW2.trans hW3
    have hs3 := hW3.size
    have hNl := hNx.lo
    have hNh := hNx.hi
    have HNx := hideT' hNx
    have hl3 : (t ++ [40] ++ jnK l (TX l) l.length (a : Int)).length ≤ 900000000 := by rw [List.length_append, hlt2]; have := HA1.out; omega
    unfold BytesAt at hv3
    obtain ⟨n3, hn3'⟩ : ∃ n3, n3 = (t ++ [40] ++ jnK l (TX l) l.length (a : Int)).length := ⟨_, rfl⟩
    rw [← hn3'] at hv3 hl3
    have HN3 := hideT' hn3'
    have HJL := hideT' hJL
    clear hNx hn3' hJL hlt2 hb2
    go_wp2_with (first | (at_builtin; refine wpList_append_own _ rfl _ _ 49 rfl B 5 i0 (.int .u8 0) 1 1 Tryz.underlying49 hi hz0 hz1 hz2 rfl (by decide) _ _ _ rfl (hv3.alloc _) ⟨w3.heap.size, 0, none⟩ 1 1 [.int .u8 41] rfl rfl (cell_one_new _ _ _) (one_byte _) (by unfold maxLen; omega) (by omega) (by simp; omega) ?_; intro v4 w4 hv4 hg4 _))
    have hW4 : Below B w w4 := (hW23.alloc (by omega) _).grown hg4 (by simp; omega) (fun k hk => own_ge hv3 hk)
    go_ret2
    refine ⟨v4, e3, rfl, HNx.out, ?_, ?_, hW4⟩
    · have h1 := HJL.out
      have h2 := HA1.out
      rw [HX.out]
      simp only [List.length_cons, List.length_append, List.length_nil]
      omega
    · have h4 : t ++ TX l a = t ++ [40] ++ jnK l (TX l) l.length (a : Int) ++ [41] := by rw [HX.out]; simp
      unfold BytesAt
      rw [h4, ← bytes_snoc, List.length_append, ← HN3.out]
      exact hv4
end Go.Proofs.YtmpghgaijphniaaGreatDoor

/-
  The seats that impl.GoodData keeps beside the nodes.
-/
namespace Go.Proofs.YtmpghgaijphniaaGreatDoor
open Go.RowKit
set_option linter.unusedVariables false

section
variable {P : Program}
theorem run_storeVar_cell (w : World) (b o : Nat) (ty : TypeId) (v : Value) (hc : (w.cell? ⟨b, o, none⟩).isSome = true) (hf : w.frozen? ⟨b, o, none⟩ = false) (hi : (P.info? ty).map (·.size) = some 1) (h1 : v.oneCell' = true) :
    (storeVar ty ⟨b, o, none⟩ v).run P w = .ok () (w.setCell ⟨b, o, none⟩ v) := by
  have := run_storeCells_cells (P := P) b o [v] 0 w (fun j hj => by simp at hj; subst hj; simpa using hc) (fun j hj => by simp at hj; subst hj; simpa using hf) (fun x hx => by simp at hx; subst hx; exact h1)
  have hcl : v.cells = #[v] := by cases v <;> first | rfl | cases h1
  cases hq : P.info? ty with
  | none => simp [hq] at hi
  | some i =>
    have hs : i.size = 1 := by simpa [hq] using hi
    simp only [Nat.add_zero] at this
    simp [storeVar, sizeOf, typeInfo, hq, hcl, hs, this, World.setCells]
end
theorem grown_set (w : World) (b o : Nat) (v : Value) : w.grownBy (w.setCell ⟨b, o, none⟩ v) (some b) :=
  ⟨rfl, rfl, rfl, by simp, fun k _ hne => Deep.blk_setCell_other _ _ _ _ (by intro e; exact hne (by rw [e]))⟩
/-- One cell of a row is written. -/
theorem store_cell {ops : Array Oper} {rest : List Oper} {op : Oper} {a : Act} {w : World} {Q : Exit → Act → World → Prop} (hgd : op.guard = none) (ty : TypeId) (x y : Operand) (ho : op.op = .store ty x y) (hd : op.dst = none)
    (b o : Nat) (v : Value) (hx : a.eval x = .pointer (some ⟨b, o, none⟩)) (hy : a.eval y = v) (hi : (Tryz.prog.info? ty).map (·.size) = some 1) (h1 : v.oneCell' = true) (t : TypeId) (n : Nat) (f : Nat → Value) (hR : w.rowIs b t n f) (hon : o < n)
    (h : ∀ w', w'.rowIs b t n (fun j => if j = o then v else f j) → w.grownBy w' (some b) → w'.heap.size = w.heap.size → wpList Tryz.prog ops Q rest a w') : wpList Tryz.prog ops Q (op :: rest) a w :=
  wpList_plain hgd fun _ hK => by
    unfold Oper.wp execOp
    simp only [ho, hx, hy, Instr.storeAt, Instr.sureAddr, Sem.run_bind, Sem.run_pure, Result.andThen_ok, run_storeVar_cell w b o ty v (by rw [hR.cell hon]; rfl) (hR.frozen o) hi h1]
    have := h _ (hR.set o v) (grown_set w b o v) (by simp)
    have e : a.put op.dst undef = a := by rw [hd]; rfl
    refine hK _ _ ?_
    rw [e]
    exact this
/-- The same, as the one operation of a drawn region that may come up. -/
theorem held_store_cell {ops : Array Oper} {Q : Exit → Act → World → Prop} {md : Region.Mode} {S : World → Prop} {op : Oper} {fuel : Nat} {listed : Array Bool} {a : Act} {w : World} (i : Nat) (hr : Region.ready md ops listed = [i]) (hi : ops[i]? = some op) (hw : Region.wanted op (yielded ops a.tmps) = true) (ty : TypeId) (x y : Operand) (ho : op.op = .store ty x y) (hd : op.dst = none)
    (b o : Nat) (v : Value) (hx : a.eval x = .pointer (some ⟨b, o, none⟩)) (hy : a.eval y = v) (hin : (Tryz.prog.info? ty).map (·.size) = some 1) (h1 : v.oneCell' = true) (t : TypeId) (n : Nat) (f : Nat → Value) (hR : w.rowIs b t n f) (hon : o < n)
    (h : ∀ w', w'.rowIs b t n (fun j => if j = o then v else f j) → w.grownBy w' (some b) → w'.heap.size = w.heap.size → S w' ∧ wpAnyH Tryz.prog md ops Q S fuel (listed.setIfInBounds i true) a w') : wpAnyH Tryz.prog md ops Q S (fuel + 1) listed a w := by
  refine wpAnyH_ready hr (by simp) (AllReadyH.cons hi (fun K hK => ?_) AllReadyH.nil)
  rw [if_pos hw]
  unfold Oper.wp execOp
  simp only [ho, hx, hy, Instr.storeAt, Instr.sureAddr, Sem.run_bind, Sem.run_pure, Result.andThen_ok, run_storeVar_cell w b o ty v (by rw [hR.cell hon]; rfl) (hR.frozen o) hin h1]
  have := h _ (hR.set o v) (grown_set w b o v) (by simp)
  have e : a.put op.dst undef = a := by rw [hd]; rfl
  refine hK.out _ _ this.1 (fun _ => ?_)
  rw [e]
  exact this.2

/-- What the seats hold when k nodes are looked at. -/
def seatF (l : List Dm) (k i : Nat) : Value :=
  if i % 3 = 0 then .int .i64 ((if i / 3 < k then arnd l (i / 3) else 0 : Nat) : Int) else if i % 3 = 1 then .int .i64 ((prt l k (i / 3)).length : Int) else .bool (lastL l (prt l k (i / 3)))
def SeatAt (w : World) (sb : Nat) (l : List Dm) (k : Nat) : Prop := w.rowIs sb 58 (3 * l.length) (seatF l k)
theorem seatF0 (l : List Dm) (k j : Nat) : seatF l k (j * 3) = .int .i64 ((if j < k then arnd l j else 0 : Nat) : Int) := by
  unfold seatF; rw [if_pos (by omega), show j * 3 / 3 = j by omega]
theorem seatF1 (l : List Dm) (k j : Nat) : seatF l k (j * 3 + 1) = .int .i64 ((prt l k j).length : Int) := by
  unfold seatF; rw [if_neg (by omega), if_pos (by omega), show (j * 3 + 1) / 3 = j by omega]
theorem seatF2 (l : List Dm) (k j : Nat) : seatF l k (j * 3 + 2) = .bool (lastL l (prt l k j)) := by
  unfold seatF; rw [if_neg (by omega), if_neg (by omega), show (j * 3 + 2) / 3 = j by omega]
theorem seat_row {w : World} {sb : Nat} {l : List Dm} {k : Nat} {f : Nat → Value} (h : w.rowIs sb 58 (3 * l.length) f) (h0 : ∀ j, j < l.length → f (j * 3) = seatF l k (j * 3)) (h1 : ∀ j, j < l.length → f (j * 3 + 1) = seatF l k (j * 3 + 1)) (h2 : ∀ j, j < l.length → f (j * 3 + 2) = seatF l k (j * 3 + 2)) : SeatAt w sb l k :=
  h.congr (fun i hi => by
    rcases (by omega : i % 3 = 0 ∨ i % 3 = 1 ∨ i % 3 = 2) with e | e | e
    · have := h0 (i / 3) (by omega); rwa [show i / 3 * 3 = i by omega] at this
    · have := h1 (i / 3) (by omega); rwa [show i / 3 * 3 + 1 = i by omega] at this
    · have := h2 (i / 3) (by omega); rwa [show i / 3 * 3 + 2 = i by omega] at this)
theorem SeatAt.below {w w' : World} {sb B : Nat} {l : List Dm} {k : Nat} (h : SeatAt w sb l k) (hg : Below B w w') (hb : sb < B) : SeatAt w' sb l k := World.rowIs.of_block h (hg.block sb hb)
theorem SeatAt.grown {w w' : World} {sb : Nat} {l : List Dm} {k : Nat} {r : Option Nat} (h : SeatAt w sb l k) (hg : w.grownBy w' r) (hr : some sb ≠ r) : SeatAt w' sb l k := World.rowIs.of_block h (hg.block sb (World.rowIs.lt h) hr)

/-- A node that is in no list. -/
theorem seat_none {w : World} {sb : Nat} {l : List Dm} {k : Nat} (h : SeatAt w sb l k) (hu : du l k < 0) : SeatAt w sb l (k + 1) := by
  have hp : ∀ j, prt l (k + 1) j = prt l k j := fun j => by rw [prt_snoc, if_neg (by omega), List.append_nil]
  refine seat_row h (fun j _ => ?_) (fun j _ => ?_) (fun j _ => ?_)
  · rw [seatF0, seatF0]
    by_cases e : j = k
    · subst e; rw [if_neg (by omega), if_pos (by omega), arnd_none hu]
    · by_cases e2 : j < k
      · rw [if_pos e2, if_pos (by omega)]
      · rw [if_neg e2, if_neg (by omega)]
  · rw [seatF1, seatF1, hp]
  · rw [seatF2, seatF2, hp]
/-- A node that is in the list j. -/
theorem seat_some {w : World} {sb : Nat} {l : List Dm} {k j : Nat} (hU : Up l k) (hj : du l k = (j : Int)) (hjk : j < k) (hl : isL (dk l j) = true)
    (h : w.rowIs sb 58 (3 * l.length) (fun i => if i = j * 3 + 2 then .bool (isL (dk l k)) else (fun i => if i = j * 3 + 1 then .int .i64 (((prt l k j).length : Int) + 1) else (fun i => if i = k * 3 then .int .i64 ((arnd l j : Int) + 1) else seatF l k i) i) i)) : SeatAt w sb l (k + 1) := by
  refine seat_row h (fun m _ => ?_) (fun m _ => ?_) (fun m _ => ?_)
  · show (if m * 3 = j * 3 + 2 then _ else if m * 3 = j * 3 + 1 then _ else if m * 3 = k * 3 then _ else _) = _
    rw [if_neg (by omega), if_neg (by omega), seatF0, seatF0]
    by_cases e : m = k
    · subst e; rw [if_pos rfl, if_pos (by omega), arnd_some hU hj hjk hl]; rfl
    · rw [if_neg (by omega)]
      by_cases e2 : m < k
      · rw [if_pos e2, if_pos (by omega)]
      · rw [if_neg e2, if_neg (by omega)]
  · show (if m * 3 + 1 = j * 3 + 2 then _ else if m * 3 + 1 = j * 3 + 1 then _ else if m * 3 + 1 = k * 3 then _ else _) = _
    rw [if_neg (by omega), seatF1, seatF1, prt_snoc]
    by_cases e : m = j
    · subst e; rw [if_pos rfl, if_pos ⟨hjk, hj⟩]; simp
    · rw [if_neg (by omega), if_neg (by omega), if_neg (by omega), List.append_nil]
  · show (if m * 3 + 2 = j * 3 + 2 then _ else if m * 3 + 2 = j * 3 + 1 then _ else if m * 3 + 2 = k * 3 then _ else _) = _
    rw [seatF2, seatF2, prt_snoc]
    by_cases e : m = j
    · subst e; rw [if_pos rfl, if_pos ⟨hjk, hj⟩, lastL_snoc]
    · rw [if_neg (by omega), if_neg (by omega), if_neg (by omega), if_neg (by omega), List.append_nil]

/-- The seats as make lays them. -/
theorem info_seat : (Tryz.prog.info? 58).map (fun i => (i.zero, i.size, i.bytes)) = some (some (.agg #[.int .i64 0, .int .i64 0, .bool false]), 3, 24) := by kernel_rfl
theorem run_make_seats (n : Nat) (hn : n ≤ 300) (w : World) : (Instr.makeSlice 56 (.int .i64 (n : Int)) (.int .i64 (n : Int))).run Tryz.prog w = .ok (.slice (some ⟨w.heap.size, 0, none⟩) n n) (w.alloc (.cells (madeCells #[.int .i64 0, .int .i64 0, .bool false] (n * 3)) 58)) := by
  obtain ⟨i, hi, hzz⟩ := Option.map_eq_some_iff.1 info_seat
  simp only [Prod.mk.injEq] at hzz
  obtain ⟨hz, hs, hb⟩ := hzz
  have hr := run_make (P := Tryz.prog) w 56 58 i _ Tryz.underlying56 hi hz .i64 .i64 n n (by omega) (Int.le_refl _) (by rw [hb]; omega) (by omega)
  simp only [Int.toNat_natCast, hs] at hr
  exact hr
theorem seats_new (w : World) (l : List Dm) : SeatAt (w.alloc (.cells (madeCells #[.int .i64 0, .int .i64 0, .bool false] (l.length * 3)) 58)) w.heap.size l 0 := by
  refine ⟨_, Deep.blk_alloc_new _ _, by rw [size_madeCells]; omega, fun i hi => ?_⟩
  have hp : prt l 0 (i / 3) = [] := rfl
  simp only [madeCells, Array.getElem?_map]
  have hr : (Array.range (l.length * 3))[i]? = some i := by rw [Array.getElem?_eq_getElem (by rw [Array.size_range]; omega), Array.getElem_range]
  rw [hr, Option.map_some]
  unfold seatF
  rcases (by omega : i % 3 = 0 ∨ i % 3 = 1 ∨ i % 3 = 2) with e | e | e
  · rw [if_pos e]; simp [e]
  · rw [if_neg (by omega), if_pos e, hp]; simp [e]
  · rw [if_neg (by omega), if_neg (by omega), hp]; simp [e, lastL]
end Go.Proofs.YtmpghgaijphniaaGreatDoor

/-
  What impl.GoodData answers.
-/
namespace Go.Proofs.YtmpghgaijphniaaGreatDoor
open Go.RowKit
set_option linter.unusedVariables false

theorem one_int : (Tryz.prog.info? 3).map (·.size) = some 1 := by kernel_rfl
theorem one_bool : (Tryz.prog.info? 4).map (·.size) = some 1 := by kernel_rfl
theorem seat_a {w : World} {sb : Nat} {l : List Dm} {k j : Nat} (h : SeatAt w sb l k) (hj : j < l.length) (r : Int) (hr : r = ((if j < k then arnd l j else 0 : Nat) : Int)) : w.cell? ⟨sb, j * 3, none⟩ = some (.int .i64 r) := by
  rw [World.rowIs.cell h (by omega), seatF0, hr]
theorem seat_p {w : World} {sb : Nat} {l : List Dm} {k j : Nat} (h : SeatAt w sb l k) (hj : j < l.length) (r : Int) (hr : r = ((prt l k j).length : Int)) : w.cell? ⟨sb, j * 3 + 1, none⟩ = some (.int .i64 r) := by
  rw [World.rowIs.cell h (by omega), seatF1, hr]
theorem seat_e {w : World} {sb : Nat} {l : List Dm} {k j : Nat} (h : SeatAt w sb l k) (hj : j < l.length) (r : Bool) (hr : r = lastL l (prt l k j)) : w.cell? ⟨sb, j * 3 + 2, none⟩ = some (.bool r) := by
  rw [World.rowIs.cell h (by omega), seatF2, hr]
theorem arnd_le {l : List Dm} {j : Nat} (h : deepOk l j = true) : arnd l j ≤ 25 := by
  unfold deepOk at h
  rw [deep_arnd] at h
  have := of_decide_eq_true h
  omega
theorem deep_of {l : List Dm} {k : Nat} (hl : isL (dk l k) = true) : deepOk l k = decide (arnd l k < 25) := by
  unfold deepOk
  rw [deep_arnd, if_pos hl]
  exact decide_eq_decide.2 (by omega)
theorem deep_ofn {l : List Dm} {k : Nat} (hl : isL (dk l k) = false) (h : arnd l k ≤ 25) : deepOk l k = true := by
  unfold deepOk
  rw [deep_arnd, hl]
  exact decide_eq_true (by simpa using h)

def OkTo (l : List Dm) (k : Nat) : Prop := ∀ j, j < k → upOk l j = true ∧ txtOk (dk l j) (dt l j).data.toList = true ∧ deepOk l j = true
theorem OkTo.succ {l : List Dm} {k : Nat} (h : OkTo l k) (h1 : upOk l k = true) (h2 : txtOk (dk l k) (dt l k).data.toList = true) (h3 : deepOk l k = true) : OkTo l (k + 1) := fun j hj => by
  by_cases e : j = k
  · subst e; exact ⟨h1, h2, h3⟩
  · exact h j (by omega)

set_option maxHeartbeats 4000000 in
set_option maxRecDepth 100000 in
/-- Lists around each other, and dotted ones, where all nodes stand in good places and have good texts. -/
theorem goodLists_any (b : Nat) (l : List Dm) (w : World) (hn3 : l.length ≤ 300) (hA : ∀ j, j < l.length → upOk l j = true ∧ txtOk (dk l j) (dt l j).data.toList = true) (hD : DatAt w b l) :
    Calls Tryz.prog 26 #[slV b l] w fun e w' => e = .returned (.bool (goodAll l)) ∧ Below w.heap.size w w' := by
  have hz := zero_dm.1
  have HD := hideT' hD
  have HA := hideT' hA
  have hb := RowAt.lt hD
  clear hD hA
  · have hmk := run_make_seats l.length hn3
    go_enter Tryz.func26, Tryz.ntmps26
    go_wp2_with fail
    clear hmk
    go_loopg [13] l.length (fun g i wr => ∃ k : Nat, g = l.length - k ∧ k ≤ l.length ∧ i = .int .i64 (k : Int) ∧ Hid (OkTo l k) ∧ Hid (Up l k) ∧ SeatAt wr w.heap.size l k ∧ Below w.heap.size w wr)
    case atStart => exact ⟨0, rfl, by omega, rfl, fun j hj => by omega, fun j hj => by omega, seats_new w l, (Below.refl _ _).alloc (Nat.le_refl _) _⟩
    case round =>
      obtain ⟨k, hg, hk, rfl, HK, HU, hSt, hW⟩ := hrel
      have hWs := hW.size
      by_cases hlt : (k : Int) < (l.length : Int)
      · have hk' : k < l.length := by omega
        have hDr : DatAt wr b l := RowAt.below HD.out hW hb
        have hsl : w.heap.size < wr.heap.size := World.rowIs.lt hSt
        have A : DmAt (wr.alloc (.cells (dmC default) 37)) wr.heap.size default := RowAt.new wr _ _
        obtain ⟨q, t, y, hd, hq, ht, hy⟩ := dm_parts l k
        have HDM := hideT' hd
        have HQ := hideT' hq
        have HTX := hideT' ht
        have HY := hideT' hy
        clear hd hq ht hy
        have NO : Hid (nodeOk l k = false → goodAll l = false) := fun h => node_bad hk' h
        have HOK : Hid (upOk l k = true) := (HA.out k hk').1
        have HTO : Hid (txtOk (dk l k) (dt l k).data.toList = true) := (HA.out k hk').2
        have HU2 : Hid (Up l (k + 1)) := HU.out.succ HOK.out
        have hyr := upOk_up HU.out HOK.out
        rw [← HY.out] at hyr
        have WALK : ∀ (w2 : World), DmAt w2 wr.heap.size ⟨q, t, y⟩ → (wr.alloc (.cells (dmC default) 37)).grownBy w2 (some wr.heap.size) → w2.cell? ⟨wr.heap.size, 0, none⟩ = some (.int .i64 q) ∧ w2.cell? ⟨wr.heap.size, 2, none⟩ = some (.int .i64 y) ∧ SeatAt w2 w.heap.size l k ∧ Below w.heap.size w w2 := by
          intro w2 hN2 hg2
          exact ⟨dm_c0 hN2, dm_c2 hN2, SeatAt.grown (World.rowIs.alloc hSt _) hg2 (by intro e; injection e; omega), (hW.alloc hWs _).grown hg2 (by simp; omega) (by intro k hk; injection hk; omega)⟩
        have WK := hideT' WALK
        clear WALK
        clear hW hSt
        · · by_cases hy0 : 0 ≤ y
            · obtain ⟨j, rfl⟩ : ∃ j : Nat, y = (j : Int) := ⟨y.toNat, by omega⟩
              have hjk : j < k := by omega
              have hjl : isL (dk l j) = true := by
                have := upOk_list HOK.out (by rw [← HY.out]; exact hy0)
                rwa [← HY.out, Int.toNat_natCast] at this
              have HJL := hideT' hjl
              have haj := arnd_le (HK.out j hjk).2.2
              obtain ⟨r, hr⟩ : ∃ r : Int, r = (arnd l j : Int) := ⟨_, rfl⟩
              obtain ⟨p, hp⟩ : ∃ p : Int, p = ((prt l k j).length : Int) := ⟨_, rfl⟩
              have hr0 : 0 ≤ r := by omega
              have hr1 : r ≤ 25 := by omega
              have hp0 : 0 ≤ p := by omega
              have hp1 : p ≤ 300 := by have := prt_len l k j; omega
              have HR := hideT' hr
              have HP := hideT' hp
              clear hjl haj hr hp
              go_wp2_with (first | (refine load_dm rfl _ rfl b k rfl l hDr hk' ⟨q, t, (j : Int)⟩ HDM.out ?_) | (refine store_dv rfl _ _ rfl rfl wr.heap.size ⟨q, t, (j : Int)⟩ rfl rfl default A ?_; intro w2 hN2 hg2 hs2; have hK2 := WK.out w2 hN2 hg2; have d0 := hK2.1; have d2 := hK2.2.1; have hSt2 := hK2.2.2.1; have hWw2 := hK2.2.2.2; have hs2' : w2.heap.size = wr.heap.size + 1 := (by rw [hs2]; simp); have ca := seat_a hSt2 (show j < l.length by omega) r (by rw [if_pos hjk]; exact HR.out); clear hK2 hg2 hs2) | (refine store_cell rfl 3 _ _ rfl rfl w.heap.size (k * 3) (.int .i64 (r + 1)) rfl rfl one_int rfl 58 (3 * l.length) (seatF l k) hSt2 (by omega) ?_; intro w3 hR3 hg3 hs3; have cp : w3.cell? ⟨w.heap.size, j * 3 + 1, none⟩ = some (.int .i64 p) := (by rw [World.rowIs.cell hR3 (by omega), if_neg (by omega), seatF1, HP.out]); have d2' : w3.cell? ⟨wr.heap.size, 2, none⟩ = some (.int .i64 (j : Int)) := dm_c2 (RowAt.grown hN2 hg3 (by intro e; injection e; omega))) | (refine store_cell rfl 3 _ _ rfl rfl w.heap.size (j * 3 + 1) (.int .i64 (p + 1)) rfl rfl one_int rfl 58 (3 * l.length) _ hR3 (by omega) ?_; intro w4 hR4 hg4 hs4))
              have hN4 : DmAt w4 wr.heap.size ⟨q, t, (j : Int)⟩ := RowAt.grown (RowAt.grown hN2 hg3 (by intro e; injection e; omega)) hg4 (by intro e; injection e; omega)
              have hW4 : Below w.heap.size w w4 := (hWw2.grown hg3 (by omega) (by intro k hk; injection hk; omega)).grown hg4 (by omega) (by intro k hk; injection hk; omega)
              have hj3 : (j : Int) < (l.length : Int) := by omega
              clear hSt2 hR3 cp d2' ca d0 d2 hN2 hWw2 hg3 hg4
              refine held_begin (fun w' => w'.cell? ⟨wr.heap.size, 2, none⟩ = some (.int .i64 (j : Int)) ∧ w'.cell? ⟨wr.heap.size, 0, none⟩ = some (.int .i64 q)) (by kernel_rfl) ?_
              have hS : w4.drew.cell? ⟨wr.heap.size, 2, none⟩ = some (.int .i64 (j : Int)) ∧ w4.drew.cell? ⟨wr.heap.size, 0, none⟩ = some (.int .i64 q) := ⟨dm_c2 hN4, dm_c0 hN4⟩
              refine held_val 0 (some 41) rfl rfl (by kernel_rfl) (by kernel_rfl) (by kernel_rfl) noPanic_put rfl (.slice (some ⟨w.heap.size, 0, none⟩) l.length l.length) (fun _ => rfl) hS ?_
              simp only [Act.put, List.setIfInBounds_toArray, List.set_cons_zero, List.set_cons_succ]
              refine held_val 1 (some 42) rfl rfl (by kernel_rfl) (by kernel_rfl) (by kernel_rfl) noPanic_put rfl (.pointer (some ⟨wr.heap.size, 2, none⟩)) (fun _ => by go_simp) hS ?_
              simp only [Act.put, List.setIfInBounds_toArray, List.set_cons_zero, List.set_cons_succ]
              refine held_valS 2 (some 43) rfl rfl (by kernel_rfl) (by kernel_rfl) (by kernel_rfl) noPanic_put rfl (.int .i64 (j : Int)) (fun _ hw' => by have h1 := hw'.1; go_simp) hS ?_
              simp only [Act.put, List.setIfInBounds_toArray, List.set_cons_zero, List.set_cons_succ]
              refine held_val 3 (some 44) rfl rfl (by kernel_rfl) (by kernel_rfl) (by kernel_rfl) noPanic_put rfl (.pointer (some ⟨wr.heap.size, 0, none⟩)) (fun _ => by go_simp) hS ?_
              simp only [Act.put, List.setIfInBounds_toArray, List.set_cons_zero, List.set_cons_succ]
              refine held_valS 4 (some 45) rfl rfl (by kernel_rfl) (by kernel_rfl) (by kernel_rfl) noPanic_put rfl (.int .i64 q) (fun _ hw' => by have h1 := hw'.2; go_simp) hS ?_
              simp only [Act.put, List.setIfInBounds_toArray, List.set_cons_zero, List.set_cons_succ]
              refine held_call 5 (some 46) (by kernel_rfl) rfl rfl rfl 34 #[.int .i64 q] (by go_simp) _ (isList_any q w4.drew) ?_
              rintro e w4' ⟨rfl, rfl⟩
              refine ⟨_, rfl, hS, ?_⟩
              simp only [Act.put, List.setIfInBounds_toArray, List.set_cons_zero, List.set_cons_succ]
              refine held_val 6 (some 47) rfl rfl (by kernel_rfl) (by kernel_rfl) (by kernel_rfl) noPanic_put rfl (.pointer (some ⟨w.heap.size, j * 3, none⟩)) (fun _ => by go_simp) hS ?_
              simp only [Act.put, List.setIfInBounds_toArray, List.set_cons_zero, List.set_cons_succ]
              refine held_val 7 (some 48) rfl rfl (by kernel_rfl) (by kernel_rfl) (by kernel_rfl) noPanic_put rfl (.pointer (some ⟨w.heap.size, j * 3 + 2, none⟩)) (fun _ => by go_simp) hS ?_
              simp only [Act.put, List.setIfInBounds_toArray, List.set_cons_zero, List.set_cons_succ]
              refine held_store_cell 8 (by kernel_rfl) rfl rfl 4 _ _ rfl rfl w.heap.size (j * 3 + 2) (.bool (isL q)) rfl rfl one_bool rfl 58 (3 * l.length) _ (World.rowIs.drew hR4) (by omega) ?_
              intro w5 hR5 hg5 hs5
              have hN5 : DmAt w5 wr.heap.size ⟨q, t, (j : Int)⟩ := RowAt.grown (show DmAt w4.drew wr.heap.size ⟨q, t, (j : Int)⟩ from hN4) hg5 (by intro e; injection e; omega)
              have hW5 : Below w.heap.size w w5 := (Below.drew hW4).grown hg5 (by have := hW4.size; exact this) (by intro k hk; injection hk; omega)
              refine ⟨⟨dm_c2 hN5, dm_c0 hN5⟩, ?_⟩
              refine wpAnyH_done (by kernel_rfl) ?_ _
              refine NoPanic.normal ?_
              have hSt5 : SeatAt w5 w.heap.size l (k + 1) := seat_some HU.out HY.out.symm hjk HJL.out (by have h := hR5; rw [HQ.out, HP.out, HR.out] at h; exact h)
              have d0 : w5.cell? ⟨wr.heap.size, 0, none⟩ = some (.int .i64 q) := dm_c0 hN5
              have hak : arnd l k ≤ 25 := by
                rw [arnd_some HU.out HY.out.symm hjk HJL.out]
                have h1 := (HK.out j hjk).2.2
                rw [deep_of HJL.out] at h1
                have := of_decide_eq_true h1
                omega
              clear hR4 hR5 hS hg5 hN4 hN5 hW4
              obtain ⟨z, hz'⟩ : ∃ z : Int, z = (arnd l k : Int) := ⟨_, rfl⟩
              have cz := seat_a hSt5 hk' z (by rw [if_pos (by omega)]; exact hz')
              have HZ := hideT' hz'
              have HAK := hideT' hak
              clear hz' hak
              go_wp2_with fail
              refine (isList_any _ _).mono ?_
              rintro e w6 ⟨rfl, rfl⟩
              cases hil : isL q with
              | false =>
                have HOK2 : Hid (OkTo l (k + 1)) := HK.out.succ HOK.out HTO.out (deep_ofn (by rw [← HQ.out]; exact hil) HAK.out)
                clear hil
                go_wp2
                go_roundg (l.length - (k + 1))
                case measure => omega
                case rel => exact ⟨k + 1, rfl, by omega, by go_num, HOK2, HU2, hSt5, hW5⟩
              | true =>
                have HDE := hideT' (deep_of (l := l) (k := k) (by rw [← HQ.out]; exact hil))
                clear hil
                by_cases h25 : 25 ≤ z
                · have HF := hideT' (NO.out (node_deepBad (by rw [HDE.out]; exact decide_eq_false (by have := HZ.out; omega))))
                  go_wp2
                  go_ret
                  exact ⟨by rw [HF.out]; rfl, hW5⟩
                · have HOK2 : Hid (OkTo l (k + 1)) := HK.out.succ HOK.out HTO.out (by rw [HDE.out]; exact decide_eq_true (by have := HZ.out; omega))
                  go_wp2
                  go_roundg (l.length - (k + 1))
                  case measure => omega
                  case rel => exact ⟨k + 1, rfl, by omega, by go_num, HOK2, HU2, hSt5, hW5⟩
            · go_wp2_with (first | (refine load_dm rfl _ rfl b k rfl l hDr hk' ⟨q, t, y⟩ HDM.out ?_) | (refine store_dv rfl _ _ rfl rfl wr.heap.size ⟨q, t, y⟩ rfl rfl default A ?_; intro w2 hN2 hg2 hs2; have hK2 := WK.out w2 hN2 hg2; have d0 := hK2.1; have d2 := hK2.2.1; have hSt2 := hK2.2.2.1; have hWw2 := hK2.2.2.2; have hs2' : w2.heap.size = wr.heap.size + 1 := (by rw [hs2]; simp); clear hK2 hg2 hs2))
              have hSt5 : SeatAt w2 w.heap.size l (k + 1) := seat_none hSt2 (by rw [← HY.out]; omega)
              have hak : arnd l k ≤ 25 := by rw [arnd_none (by rw [← HY.out]; omega)]; omega
              clear hSt2
              obtain ⟨z, hz'⟩ : ∃ z : Int, z = (arnd l k : Int) := ⟨_, rfl⟩
              have cz := seat_a hSt5 hk' z (by rw [if_pos (by omega)]; exact hz')
              have HZ := hideT' hz'
              have HAK := hideT' hak
              clear hz' hak
              refine (isList_any _ _).mono ?_
              rintro e w6 ⟨rfl, rfl⟩
              cases hil : isL q with
              | false =>
                have HOK2 : Hid (OkTo l (k + 1)) := HK.out.succ HOK.out HTO.out (deep_ofn (by rw [← HQ.out]; exact hil) HAK.out)
                clear hil
                go_wp2
                go_roundg (l.length - (k + 1))
                case measure => omega
                case rel => exact ⟨k + 1, rfl, by omega, by go_num, HOK2, HU2, hSt5, hWw2⟩
              | true =>
                have HDE := hideT' (deep_of (l := l) (k := k) (by rw [← HQ.out]; exact hil))
                clear hil
                by_cases h25 : 25 ≤ z
                · have HF := hideT' (NO.out (node_deepBad (by rw [HDE.out]; exact decide_eq_false (by have := HZ.out; omega))))
                  go_wp2
                  go_ret
                  exact ⟨by rw [HF.out]; rfl, hWw2⟩
                · have HOK2 : Hid (OkTo l (k + 1)) := HK.out.succ HOK.out HTO.out (by rw [HDE.out]; exact decide_eq_true (by have := HZ.out; omega))
                  go_wp2
                  go_roundg (l.length - (k + 1))
                  case measure => omega
                  case rel => exact ⟨k + 1, rfl, by omega, by go_num, HOK2, HU2, hSt5, hWw2⟩
      · have hkn : k = l.length := by omega
        subst hkn
        clear hk hlt hg
        have hsl : w.heap.size < wr.heap.size := World.rowIs.lt hSt
        go_wp2_with fail
        go_loopg [63] l.length (fun g i wq => ∃ k : Nat, g = l.length - k ∧ k ≤ l.length ∧ i = .int .i64 (k : Int) ∧ Hid (∀ j, j < k → nodeOk l j = true) ∧ SeatAt wq w.heap.size l l.length ∧ Below w.heap.size w wq)
        case atStart => exact ⟨0, rfl, by omega, rfl, fun j hj => by omega, hSt, hW⟩
        case round =>
          clear hSt hW hWs hsl
          obtain ⟨k, hg, hk, rfl, HN, hSt, hW⟩ := hrel
          have hWs := hW.size
          have hsl : w.heap.size < wr.heap.size := World.rowIs.lt hSt
          by_cases hlt : (k : Int) < (l.length : Int)
          · have hk' : k < l.length := by omega
            have hDr : DatAt wr b l := RowAt.below HD.out hW hb
            have A : DmAt (wr.alloc (.cells (dmC default) 37)) wr.heap.size default := RowAt.new wr _ _
            obtain ⟨q, t, y, hd, hq, ht, hy⟩ := dm_parts l k
            have HDM := hideT' hd
            have HQ := hideT' hq
            obtain ⟨p, hp⟩ : ∃ p : Int, p = ((prt l l.length k).length : Int) := ⟨_, rfl⟩
            obtain ⟨z, hz'⟩ : ∃ z : Bool, z = lastL l (prt l l.length k) := ⟨_, rfl⟩
            have HP := hideT' hp
            have HZ := hideT' hz'
            have HND : Hid (nodeOk l k = dotOk l k) := by
              obtain ⟨h1, h2, h3⟩ := HK.out k hk'
              unfold Hid nodeOk
              rw [h1, h2, h3]; rfl
            have NO : Hid (nodeOk l k = false → goodAll l = false) := fun h => node_bad hk' h
            have GO : Hid (nodeOk l k = true → ∀ j, j < k + 1 → nodeOk l j = true) := fun h j hj => by
              by_cases e : j = k
              · subst e; exact h
              · exact HN.out j (by omega)
            clear hd hq ht hy hp hz'
            have WALK : ∀ (w1 : World), DmAt w1 wr.heap.size ⟨q, t, y⟩ → (wr.alloc (.cells (dmC default) 37)).grownBy w1 (some wr.heap.size) → w1.cell? ⟨wr.heap.size, 0, none⟩ = some (.int .i64 q) ∧ w1.cell? ⟨w.heap.size, k * 3 + 1, none⟩ = some (.int .i64 p) ∧ w1.cell? ⟨w.heap.size, k * 3 + 2, none⟩ = some (.bool z) ∧ SeatAt w1 w.heap.size l l.length ∧ Below w.heap.size w w1 := fun w1 hN1 hg1 => by
              have hSt1 : SeatAt w1 w.heap.size l l.length := SeatAt.grown (World.rowIs.alloc hSt _) hg1 (by intro e; injection e; omega)
              exact ⟨dm_c0 hN1, seat_p hSt1 hk' p HP.out, seat_e hSt1 hk' z HZ.out, hSt1, (hW.alloc hWs _).grown hg1 (by simp; omega) (by intro k hk; injection hk; omega)⟩
            have WK := hideT' WALK
            clear WALK
            by_cases h6 : q = 6
            · have h6' : (q == 6) = true := by rw [h6]; rfl
              have HDT : Hid (nodeOk l k = (decide (2 ≤ (prt l l.length k).length) && !lastL l (prt l l.length k))) := by
                unfold Hid; rw [HND.out]; unfold dotOk; rw [← HQ.out, decide_eq_true h6]; rfl
              clear h6
              by_cases hp2 : p < 2
              · have HF := hideT' (NO.out (by rw [HDT.out, decide_eq_false (by have := HP.out; omega)]; rfl))
                go_wp2_with (first | (refine load_dm rfl _ rfl b k rfl l hDr hk' ⟨q, t, y⟩ HDM.out ?_) | (refine store_dv rfl _ _ rfl rfl wr.heap.size ⟨q, t, y⟩ rfl rfl default A ?_; intro w1 hN1 hg1 hs1; have hK1 := WK.out w1 hN1 hg1; have k0 := hK1.1; have k1 := hK1.2.1; have k2 := hK1.2.2.1))
                go_ret
                exact ⟨by rw [HF.out]; rfl, hK1.2.2.2.2⟩
              · cases z with
                | true =>
                  have HF := hideT' (NO.out (by rw [HDT.out, ← HZ.out]; simp))
                  go_wp2_with (first | (refine load_dm rfl _ rfl b k rfl l hDr hk' ⟨q, t, y⟩ HDM.out ?_) | (refine store_dv rfl _ _ rfl rfl wr.heap.size ⟨q, t, y⟩ rfl rfl default A ?_; intro w1 hN1 hg1 hs1; have hK1 := WK.out w1 hN1 hg1; have k0 := hK1.1; have k1 := hK1.2.1; have k2 := hK1.2.2.1))
                  go_ret
                  exact ⟨by rw [HF.out]; rfl, hK1.2.2.2.2⟩
                | false =>
                  have HK2 := hideT' (GO.out (by rw [HDT.out, ← HZ.out, decide_eq_true (by have := HP.out; omega)]; rfl))
                  go_wp2_with (first | (refine load_dm rfl _ rfl b k rfl l hDr hk' ⟨q, t, y⟩ HDM.out ?_) | (refine store_dv rfl _ _ rfl rfl wr.heap.size ⟨q, t, y⟩ rfl rfl default A ?_; intro w1 hN1 hg1 hs1; have hK1 := WK.out w1 hN1 hg1; have k0 := hK1.1; have k1 := hK1.2.1; have k2 := hK1.2.2.1))
                  go_roundg (l.length - (k + 1))
                  case measure => omega
                  case rel => exact ⟨k + 1, rfl, by omega, by go_num, HK2, hK1.2.2.2.1, hK1.2.2.2.2⟩
            · have h6' : (q == 6) = false := beq_eq_false_iff_ne.2 h6
              have HK2 := hideT' (GO.out (by rw [HND.out]; unfold dotOk; rw [← HQ.out, decide_eq_false h6]; rfl))
              clear h6
              go_wp2_with (first | (refine load_dm rfl _ rfl b k rfl l hDr hk' ⟨q, t, y⟩ HDM.out ?_) | (refine store_dv rfl _ _ rfl rfl wr.heap.size ⟨q, t, y⟩ rfl rfl default A ?_; intro w1 hN1 hg1 hs1; have hK1 := WK.out w1 hN1 hg1; have k0 := hK1.1; have k1 := hK1.2.1; have k2 := hK1.2.2.1))
              go_roundg (l.length - (k + 1))
              case measure => omega
              case rel => exact ⟨k + 1, rfl, by omega, by go_num, HK2, hK1.2.2.2.1, hK1.2.2.2.2⟩
          · have HG := hideT' (node_all hn3 (fun j hj => HN.out j (by omega)))
            go_wp2
            go_ret
            exact ⟨by rw [HG.out]; rfl, hW⟩

set_option maxHeartbeats 4000000 in
set_option maxRecDepth 100000 in
theorem implGoodData_any (b : Nat) (l : List Dm) (w : World) (hs : ∀ i, i < l.length → (dt l i).size ≤ maxLen) (hD : DatAt w b l) (hT : Tab w.heap.size w) :
    Calls Tryz.prog 9 #[slV b l] w fun e w' => e = .returned (.bool (goodAll l)) ∧ Below w.heap.size w w' := by
  have hz := zero_dm.1
  have HD := hideT' hD
  have HS := hideT' hs
  have HT := hideT' hT
  have hb := RowAt.lt hD
  clear hD hs hT
  by_cases hn : (300 : Int) < (l.length : Int)
  · have HN : Hid (goodAll l = false) := by unfold Hid goodAll; rw [decide_eq_false (by omega)]; rfl
    go_enter Tryz.func9, Tryz.ntmps9
    go_wp2
    go_ret
    exact ⟨by rw [HN.out]; rfl, Below.refl _ _⟩
  · have hn3 : l.length ≤ 300 := by omega
    go_enter Tryz.func9, Tryz.ntmps9
    go_wp2_with fail
    go_loopg [10] l.length (fun g i wr => ∃ k : Nat, g = l.length - k ∧ k ≤ l.length ∧ i = .int .i64 (k : Int) ∧ Hid (∀ j, j < k → upOk l j = true ∧ txtOk (dk l j) (dt l j).data.toList = true) ∧ Hid (Up l k) ∧ Below w.heap.size w wr)
    case atStart => exact ⟨0, rfl, by omega, rfl, fun j hj => by omega, fun j hj => by omega, Below.refl _ _⟩
    case round =>
      obtain ⟨k, hg, hk, rfl, HK, HU, hW⟩ := hrel
      have hWs := hW.size
      by_cases hlt : (k : Int) < (l.length : Int)
      · have hk' : k < l.length := by omega
        have hDr : DatAt wr b l := RowAt.below HD.out hW hb
        have A : DmAt (wr.alloc (.cells (dmC default) 37)) wr.heap.size default := RowAt.new wr _ _
        obtain ⟨q, t, y, hd, hq, ht, hy⟩ := dm_parts l k
        have HDM := hideT' hd
        have HQ := hideT' hq
        have HTX := hideT' ht
        have HY := hideT' hy
        have hts : t.size ≤ maxLen := by rw [ht]; exact HS.out k hk'
        clear hd hq ht hy
        go_wp2_with (first | (refine load_dm rfl _ rfl b k rfl l hDr hk' ⟨q, t, y⟩ HDM.out ?_) | (refine store_dv rfl _ _ rfl rfl wr.heap.size ⟨q, t, y⟩ rfl rfl default A ?_; intro w1 hN1 hg1 hs1; have c0 : w1.cell? ⟨wr.heap.size, 0, none⟩ = some (.int .i64 q) := dm_c0 hN1; have c1 : w1.cell? ⟨wr.heap.size, 1, none⟩ = some (.string t) := dm_c1 hN1; have c2 : w1.cell? ⟨wr.heap.size, 2, none⟩ = some (.int .i64 y) := dm_c2 hN1))
        have hW1 : Below w.heap.size w w1 := (hW.alloc hWs _).grown hg1 (by simp; omega) (by intro k hk; cases hk; omega)
        have hD1 : DatAt w1 b l := RowAt.below HD.out hW1 hb
        have hs1' : w1.heap.size = wr.heap.size + 1 := by rw [hs1]; simp
        have HT1 : Hid (Tab w1.heap.size w1) := (HT.out.on hW1).up hW1.size
        clear A hg1 hs1 hDr hW
        have NO : Hid (nodeOk l k = false → goodAll l = false) := fun h => node_bad hk' h
        refine (goodUp_any b l k _ _ rfl hk' hn3 hD1 HU.out).mono ?_
        rintro e w' ⟨rfl, rfl⟩
        cases hu : upOk l k with
        | false =>
          have HF := hideT' (NO.out (node_upBad hu))
          clear hu
          go_wp2
          go_ret
          exact ⟨by rw [HF.out]; rfl, hW1⟩
        | true =>
          have HOK := hideT' hu
          have HU2 : Hid (Up l (k + 1)) := HU.out.succ hu
          clear hu
          go_wp2_with fail
          refine (goodText_any ⟨q, t, y⟩ _ hts HT1.out).mono ?_
          rintro e w2 ⟨rfl, hW2⟩
          have hWw2 : Below w.heap.size w w2 := hW1.trans (hW2.mono hW1.size)
          clear hN1 hD1 HT1 c0 c1 c2 hW2
          cases htx : txtOk q t.data.toList with
          | false =>
            have HF := hideT' (NO.out (node_txtBad (by rw [← HQ.out, ← HTX.out]; exact htx)))
            clear htx
            go_wp2
            go_ret
            exact ⟨by rw [HF.out]; rfl, hWw2⟩
          | true =>
            have HTO : Hid (txtOk (dk l k) (dt l k).data.toList = true) := by unfold Hid; rw [← HQ.out, ← HTX.out]; exact htx
            have HK2 : Hid (∀ j, j < k + 1 → upOk l j = true ∧ txtOk (dk l j) (dt l j).data.toList = true) := fun j hj => by
              by_cases e : j = k
              · subst e; exact ⟨HOK.out, HTO.out⟩
              · exact HK.out j (by omega)
            clear htx
            go_wp2
            go_roundg (l.length - (k + 1))
            case measure => omega
            case rel => exact ⟨k + 1, rfl, by omega, by go_num, HK2, HU2, hWw2⟩
      · have HAll : Hid (∀ j, j < l.length → upOk l j = true ∧ txtOk (dk l j) (dt l j).data.toList = true) := fun j hj => HK.out j (by omega)
        have hDr : DatAt wr b l := RowAt.below HD.out hW hb
        go_wp2_with fail
        refine (goodLists_any b l _ hn3 HAll.out hDr).mono ?_
        rintro e w2 ⟨rfl, hW2⟩
        obtain ⟨o, ho⟩ : ∃ o, o = goodAll l := ⟨_, rfl⟩
        rw [← ho]
        have HO := hideT' ho
        clear ho
        go_wp2
        go_ret
        exact ⟨by rw [← HO.out]; rfl, hW.trans (hW2.mono hWs)⟩
end Go.Proofs.YtmpghgaijphniaaGreatDoor

/-
  What impl.DataText answers.
-/
namespace Go.Proofs.YtmpghgaijphniaaGreatDoor
open Go.RowKit
set_option linter.unusedVariables false

theorem datums {l : List Dm} (hF : Fine l) : ∀ (f a : Nat), a < l.length → l.length - a ≤ f → DatumOk l a
  | 0, a, h1, h2 => by omega
  | f + 1, a, h1, h2 => datum_of hF a h1 (parts_of hF (a : Int) (a + 1) (by omega) (by omega) (fun c hc1 hc2 => datums hF f c hc2 (by omega)))
theorem parts_top {l : List Dm} (hF : Fine l) : PartsOk l (-1) 0 := parts_of hF (-1) 0 (by omega) (by omega) (fun c _ hc => datums hF (l.length - c) c hc (Nat.le_refl _))
def txtAll (l : List Dm) : List UInt8 := jnK l (TX l) l.length (-1)
/-- What DataText should answer. -/
def DtAns (l : List Dm) (e : Ending) : Prop :=
  ((goodAll l && decide ((txtAll l).length ≤ 1500)) = true ∧ ∃ s : ByteArray, e = .returned (.tuple #[.string s, .bool true]) ∧ s.data.toList = txtAll l) ∨ ((goodAll l && decide ((txtAll l).length ≤ 1500)) = false ∧ e = .returned (.tuple #[.string ⟨#[]⟩, .bool false]))
theorem DtAns.same {l : List Dm} {e e' : Ending} (h : DtAns l e) (h' : DtAns l e') : ∃ (s : ByteArray) (o : Bool), e = .returned (.tuple #[.string s, .bool o]) ∧ e' = .returned (.tuple #[.string s, .bool o]) := by
  rcases h with ⟨g1, s, rfl, h⟩ | ⟨g1, rfl⟩ <;> rcases h' with ⟨g2, t, rfl, h'⟩ | ⟨g2, rfl⟩
  · have : s = t := by
      have h3 : s.data = t.data := Array.ext' (by rw [h, h'])
      cases s; cases t; simp at h3; rw [h3]
    subst this
    exact ⟨s, true, rfl, rfl⟩
  · rw [g1] at g2; cases g2
  · rw [g1] at g2; cases g2
  · exact ⟨_, _, rfl, rfl⟩

theorem fine_of {l : List Dm} (hg : goodAll l = true) (hs : ∀ k, k < l.length → (dt l k).size ≤ 1048576) : Fine l := by
  unfold goodAll at hg
  rw [Bool.and_eq_true] at hg
  have hn := of_decide_eq_true hg.1
  have hall : ∀ k, k < l.length → nodeOk l k = true := fun k hk => List.all_eq_true.1 hg.2 k (List.mem_range.2 hk)
  have h1 : ∀ k, k < l.length → (upOk l k = true ∧ txtOk (dk l k) (dt l k).data.toList = true ∧ deepOk l k = true) ∧ dotOk l k = true := fun k hk => by
    have := hall k hk
    unfold nodeOk at this
    simp only [Bool.and_eq_true] at this
    exact this
  exact ⟨hn, fun k hk => (h1 k hk).1.1, fun k hk => (h1 k hk).2, fun k hk => (h1 k hk).1.2.1, hs⟩

theorem conv_nil (w : World) : (convert 49 9 (.slice none 0 0)).run Tryz.prog w = .ok (.string ⟨#[]⟩) w := by
  simp [convert, run_underlying Tryz.underlying49, run_underlying Tryz.underlying9, run_underlying Tryz.underlying5, Conv.bytesToString]
  rfl
theorem own_conv' {w : World} {B n : Nat} {v : Value} {l : List UInt8} (h : w.ownsRow B 5 1 v n (Lib.byteCells l)) (hn : n = l.length) : (convert 49 9 v).run Tryz.prog w = .ok (.string ⟨l.toArray⟩) w := by
  by_cases h0 : n = 0
  · rcases h.2 with ⟨rfl, _⟩ | ⟨g, cap, cur, rfl, hg, hh, hc, _, hsz, ht⟩
    · have hl : l = [] := List.length_eq_zero_iff.1 (by omega)
      subst hl
      exact conv_nil w
    · have hl : l = [] := List.length_eq_zero_iff.1 (by omega)
      subst hl
      subst hn
      exact run_convert_bytes_back (P := Tryz.prog) w 49 9 5 ⟨g, 0, none⟩ cap [] Tryz.underlying49 Tryz.underlying5 Tryz.underlying9 (fun j hj => by simp at hj)
  · exact own_conv h hn h0

set_option maxHeartbeats 2000000 in
set_option maxRecDepth 100000 in
theorem implDataText_any (b : Nat) (l : List Dm) (w : World) (hs : ∀ i, i < l.length → (dt l i).size ≤ 1048576) (hD : DatAt w b l) (hT : Tab w.heap.size w) :
    Calls Tryz.prog 12 #[slV b l] w fun e w' => DtAns l e ∧ Below w.heap.size w w' := by
  have HS := hideT' hs
  have HT := hideT' hT
  have hb := RowAt.lt hD
  clear hs hT
  go_enter Tryz.func12, Tryz.ntmps12
  go_wp2_with fail
  refine (implGoodData_any b l w (fun i hi => Nat.le_trans (HS.out i hi) (by unfold maxLen; omega)) hD HT.out).mono ?_
  rintro e w1 ⟨rfl, hW1⟩
  cases hg : goodAll l with
  | false =>
    have HA : Hid (DtAns l (.returned (.tuple #[.string ⟨#[]⟩, .bool false]))) := .inr ⟨by rw [hg]; rfl, rfl⟩
    clear hg
    go_wp2
    go_ret2
    exact ⟨HA.out, hW1⟩
  | true =>
    have HF := hideT' (fine_of hg HS.out)
    have HG := hideT' hg
    clear hg
    have hn3 := HF.out.few
    go_wp2_with fail
    refine (parts_top HF.out b w1.heap.size (.slice none 0 0) [] w1 (Nat.le_refl _) (by have := hW1.size; omega) (RowAt.below hD hW1 hb) (BytesAt.nil _ _) (by simp; omega)).mono ?_
    rintro e w2 ⟨v2, e2, rfl, _, _, hv2, hW2⟩
    have hW12 := hW1.trans (hW2.mono hW1.size)
    rw [List.nil_append] at hv2
    have hv3 : w2.ownsRow w1.heap.size 5 1 v2 (txtAll l).length (Lib.byteCells (txtAll l)) := hv2
    obtain ⟨o, cap, rfl⟩ := own_form8 hv3
    have hcv := own_conv' hv3 rfl
    obtain ⟨n, hn⟩ : ∃ n, n = (txtAll l).length := ⟨_, rfl⟩
    have HN := hideT' hn
    rw [← hn] at hcv ⊢
    clear hv2 hv3 hn
    by_cases h15 : (1500 : Int) < (n : Int)
    · have HA : Hid (DtAns l (.returned (.tuple #[.string ⟨#[]⟩, .bool false]))) := .inr ⟨by rw [HG.out, decide_eq_false (by have := HN.out; omega)]; rfl, rfl⟩
      clear hcv
      go_wp2
      go_ret2
      exact ⟨HA.out, hW12⟩
    · have HA : Hid (DtAns l (.returned (.tuple #[.string ⟨(txtAll l).toArray⟩, .bool true]))) := .inl ⟨by rw [HG.out, decide_eq_true (by have := HN.out; omega)]; rfl, _, rfl, rfl⟩
      go_wp2
      go_ret2
      exact ⟨HA.out, hW12⟩
end Go.Proofs.YtmpghgaijphniaaGreatDoor

/-
  What spec.l3Text and spec.DataText answer.
-/
namespace Go.Proofs.YtmpghgaijphniaaGreatDoor
open Go.RowKit
set_option linter.unusedVariables false

theorem tx_bound {l : List Dm} (hF : Fine l) {b : Nat} {w : World} (hD : DatAt w b l) {a : Nat} (ha : a < l.length) : (TX l a).length ≤ 660000000 := by
  have hn := hF.few
  obtain ⟨e, w', fr, ⟨v', e', _, hN, hL, _⟩, _⟩ := datums hF (l.length - a) a ha (Nat.le_refl _) b w.heap.size (.slice none 0 0) [] w (Nat.le_refl _) (RowAt.lt hD) hD (BytesAt.nil _ _) (by simp; omega) []
  have := hN.hi
  omega
theorem jn_bound {l : List Dm} (hF : Fine l) {b : Nat} {w : World} (hD : DatAt w b l) (u : Int) (a : Nat) (ha : (a : Int) = u + 1) (hl : a ≤ l.length) : (jnK l (TX l) l.length u).length ≤ 660000000 := by
  have hn := hF.few
  obtain ⟨e, w', fr, ⟨v', e', _, hN, hL, _⟩, _⟩ := parts_of hF u a ha hl (fun c _ hc => datums hF (l.length - c) c hc (Nat.le_refl _)) b w.heap.size (.slice none 0 0) [] w (Nat.le_refl _) (RowAt.lt hD) hD (BytesAt.nil _ _) (by simp; omega) []
  have := hN.hi
  omega
theorem jn_mono (g : Nat → List UInt8) (dot : Bool) (m : Nat) (q : List Nat) (i : Nat) : ∀ j, i ≤ j → (jn g dot m q i).length ≤ (jn g dot m q j).length
  | 0, h => by rw [show i = 0 by omega]; exact Nat.le_refl _
  | j + 1, h => by
    by_cases e : i = j + 1
    · rw [e]; exact Nat.le_refl _
    · have := jn_mono g dot m q i j (by omega)
      rw [jn, List.length_append]; omega
theorem below_cell {w w' : World} {B g o : Nat} (h : Below B w w') (hg : g < B) : w'.cell? ⟨g, o, none⟩ = w.cell? ⟨g, o, none⟩ := h.cell hg

theorem prt_at2 {l : List Dm} {n k i : Nat} (hi : i < (prt l n k).length) : (prt l n k).getD i 0 < n ∧ k < (prt l n k).getD i 0 := by
  have hm : (prt l n k).getD i 0 ∈ prt l n k := by
    simp only [List.getD, List.getElem?_eq_getElem hi, Option.getD_some]; exact List.getElem_mem _
  have h2 : (prt l n k).getD i 0 ∈ kid l n (k : Int) := by rw [kid_prt]; exact hm
  have := kid_mem h2
  exact ⟨this.1, by omega⟩
/-- l3Text answers as it should at node k. -/
def TxtOk (l : List Dm) (k : Nat) : Prop := ∀ (b : Nat) (w : World), DatAt w b l →
  Calls Tryz.prog 28 #[slV b l, .int .i64 (k : Int)] w fun e w' => (∃ s : ByteArray, e = .returned (.string s) ∧ s.data.toList = TX l k) ∧ Below w.heap.size w w'

set_option maxHeartbeats 4000000 in
set_option maxRecDepth 100000 in
theorem text_of {l : List Dm} (hF : Fine l) (k : Nat) (hk : k < l.length) (ih : ∀ p, k < p → p < l.length → TxtOk l p) : TxtOk l k := by
  intro b w hD
  have HI := hideT' ih
  have HF := hideT' hF
  have hz := zero_dm.1
  have hn3 := hF.few
  have HD := hideT' hD
  have hb := RowAt.lt hD
  obtain ⟨q, s, y, hd, hq, hs, hy⟩ := dm_parts l k
  have hss : s.size ≤ 1048576 := by rw [hs]; exact hF.size k hk
  have HDM := hideT' hd
  have HQ := hideT' hq
  have HTX := hideT' hs
  have hkd := kind_of (hF.txt k hk)
  rw [← hq] at hkd
  have A : DmAt (w.alloc (.cells (dmC default) 37)) w.heap.size default := RowAt.new w _ _
  have hBn : ∀ w1, (w.alloc (.cells (dmC default) 37)).grownBy w1 (some w.heap.size) → Below w.heap.size w w1 := fun w1 hg => ((Below.refl _ w).alloc (Nat.le_refl _) _).grown hg (by simp) (by intro k hk; injection hk; omega)
  have HBn := hideT' hBn
  clear ih hF hd hq hs hy hBn
  rcases hkd with rfl | rfl | rfl | rfl | rfl | rfl
  · have HX := hideT' (tx_leaf hk s HTX.out (by rw [← HQ.out]; simp))
    go_enter Tryz.func28, Tryz.ntmps28
    go_wp2_with (first | (refine load_dm rfl _ rfl b k rfl l hD hk ⟨1, s, y⟩ HDM.out ?_) | (refine store_dv rfl _ _ rfl rfl w.heap.size ⟨1, s, y⟩ rfl rfl default A ?_; intro w1 hN1 hg1 hs1; have c0 : w1.cell? ⟨w.heap.size, 0, none⟩ = some (.int .i64 1) := dm_c0 hN1; have c1 : w1.cell? ⟨w.heap.size, 1, none⟩ = some (.string s) := dm_c1 hN1; have hs1' : w.heap.size + 1 ≤ w1.heap.size := (by rw [hs1]; simp); clear hs1))
    go_ret
    exact ⟨⟨s, rfl, by rw [HX.out]⟩, HBn.out w1 hg1⟩
  · have HX := hideT' (tx_leaf hk s HTX.out (by rw [← HQ.out]; simp))
    go_enter Tryz.func28, Tryz.ntmps28
    go_wp2_with (first | (refine load_dm rfl _ rfl b k rfl l hD hk ⟨2, s, y⟩ HDM.out ?_) | (refine store_dv rfl _ _ rfl rfl w.heap.size ⟨2, s, y⟩ rfl rfl default A ?_; intro w1 hN1 hg1 hs1; have c0 : w1.cell? ⟨w.heap.size, 0, none⟩ = some (.int .i64 2) := dm_c0 hN1; have c1 : w1.cell? ⟨w.heap.size, 1, none⟩ = some (.string s) := dm_c1 hN1; have hs1' : w.heap.size + 1 ≤ w1.heap.size := (by rw [hs1]; simp); clear hs1))
    go_ret
    exact ⟨⟨s, rfl, by rw [HX.out]⟩, HBn.out w1 hg1⟩
  · have HX := hideT' (tx_str hk s HTX.out HQ.out.symm)
    go_enter Tryz.func28, Tryz.ntmps28
    go_wp2_with (first | (refine load_dm rfl _ rfl b k rfl l hD hk ⟨3, s, y⟩ HDM.out ?_) | (refine store_dv rfl _ _ rfl rfl w.heap.size ⟨3, s, y⟩ rfl rfl default A ?_; intro w1 hN1 hg1 hs1; have c0 : w1.cell? ⟨w.heap.size, 0, none⟩ = some (.int .i64 3) := dm_c0 hN1; have c1 : w1.cell? ⟨w.heap.size, 1, none⟩ = some (.string s) := dm_c1 hN1; have hs1' : w.heap.size + 1 ≤ w1.heap.size := (by rw [hs1]; simp); clear hs1))
    have hW1 := HBn.out w1 hg1
    refine (l3Quote_any s w1 hss).mono ?_
    rintro e w2 ⟨⟨r, rfl, hr⟩, rfl⟩
    have HR := hideT' hr
    clear hr
    go_wp2
    (try simp only [Exit.inBlock, Exit.then]); go_ret
    exact ⟨⟨r, rfl, by rw [HX.out]; exact HR.out⟩, hW1⟩
  · have HX := hideT' (tx_bool hk s HTX.out HQ.out.symm)
    have hc : ¬ 9223372036854775807 < 1 + s.size := by omega
    go_enter Tryz.func28, Tryz.ntmps28
    go_wp2_with (first | (refine load_dm rfl _ rfl b k rfl l hD hk ⟨4, s, y⟩ HDM.out ?_) | (refine store_dv rfl _ _ rfl rfl w.heap.size ⟨4, s, y⟩ rfl rfl default A ?_; intro w1 hN1 hg1 hs1; have c0 : w1.cell? ⟨w.heap.size, 0, none⟩ = some (.int .i64 4) := dm_c0 hN1; have c1 : w1.cell? ⟨w.heap.size, 1, none⟩ = some (.string s) := dm_c1 hN1; have hs1' : w.heap.size + 1 ≤ w1.heap.size := (by rw [hs1]; simp); clear hs1))
    have hW1 := HBn.out w1 hg1
    (try simp only [Exit.inBlock, Exit.then]); go_ret
    exact ⟨⟨_, rfl, by rw [HX.out, ba_app]; simp⟩, hW1⟩
  · have HX := hideT' (tx_list hk (by rw [← HQ.out]; simp))
    go_enter Tryz.func28, Tryz.ntmps28
    go_wp2_with (first | (refine load_dm rfl _ rfl b k rfl l hD hk ⟨5, s, y⟩ HDM.out ?_) | (refine store_dv rfl _ _ rfl rfl w.heap.size ⟨5, s, y⟩ rfl rfl default A ?_; intro w1 hN1 hg1 hs1; have c0 : w1.cell? ⟨w.heap.size, 0, none⟩ = some (.int .i64 5) := dm_c0 hN1; have c1 : w1.cell? ⟨w.heap.size, 1, none⟩ = some (.string s) := dm_c1 hN1; have hs1' : w.heap.size + 1 ≤ w1.heap.size := (by rw [hs1]; simp); clear hs1))
    have hW1 := HBn.out w1 hg1
    refine (l3Parts_any b l k _ w1 rfl hk hn3 (RowAt.below HD.out hW1 hb)).mono ?_
    rintro e w3 ⟨v, rfl, hown, hW3a⟩
    have hW03 := hW1.trans (hW3a.mono hW1.size)
    have hs3 := hW3a.size
    have hN3 : DmAt w3 w.heap.size ⟨5, s, y⟩ := RowAt.below hN1 hW3a (by omega)
    have HJ : Hid (jnK l (TX l) l.length (k : Int) = jn (TX l) false (prt l l.length k).length (prt l l.length k) (prt l l.length k).length) := by
      unfold Hid jnK dotK
      rw [kid_prt, Int.toNat_natCast, ← HQ.out]; rfl
    have HJB := hideT' (jn_bound HF.out HD.out (k : Int) (k + 1) (by omega) (by omega))
    have PM : Hid (∀ i, i < (prt l l.length k).length → (prt l l.length k).getD i 0 < l.length ∧ k < (prt l l.length k).getD i 0) := fun i hi => prt_at2 hi
    have OC : Hid (0 < (prt l l.length k).length → ∃ g cap, v = .slice (some ⟨g, 0, none⟩) (prt l l.length k).length cap ∧ g < w3.heap.size ∧ ∀ i, i < (prt l l.length k).length → w3.cell? ⟨g, i, none⟩ = some (.int .i64 (((prt l l.length k).getD i 0 : Nat) : Int))) := fun h => by
      obtain ⟨g, cap, rfl, _, hgl, _, _⟩ := own_form hown h
      refine ⟨g, cap, rfl, hgl, fun i hi => ?_⟩
      have := own_cell hown i (by rw [natI_len]; exact hi)
      rwa [natI_get] at this
    obtain ⟨o0, cap0, hv⟩ := own_form8 hown
    obtain ⟨P, hP⟩ : ∃ P, P = prt l l.length k := ⟨_, rfl⟩
    rw [← hP] at HJ PM OC hv
    obtain ⟨m, hm⟩ : ∃ m, m = P.length := ⟨_, rfl⟩
    have hml : m ≤ l.length := by have := prt_len l l.length k; rw [← hP] at this; omega
    rw [← hm] at HJ PM OC hv
    clear hP hown hW3a c0 c1
    subst hv
    have hmi : (m : Int) ≤ 300 := by omega
    go_wp2_with fail
    go_loopg [6, 36] m (fun g x i wr => ∃ (j : Nat) (o : ByteArray), g = m - j ∧ j ≤ m ∧ i = .int .i64 (j : Int) ∧ x = .string o ∧ Hid (o.data.toList = 40 :: jn (TX l) false m P j) ∧ Below w3.heap.size w3 wr)
    case atStart => exact ⟨0, ⟨#[40]⟩, rfl, by omega, rfl, rfl, rfl, Below.refl _ _⟩
    case round =>
      obtain ⟨i, o, hg, hi, rfl, rfl, HO, hW3⟩ := hrel
      have hWw : Below w.heap.size w wr := hW03.trans (hW3.mono hW03.size)
      have hos : o.size ≤ 660000001 := by
        have h1 : o.data.toList.length = o.size := by simp
        have h2 := jn_mono (TX l) false m P i m hi
        have h3 := HJB.out
        rw [HJ.out] at h3
        rw [HO.out, List.length_cons] at h1
        omega
      by_cases hlt : (i : Int) < (m : Int)
      · have hi' : i < m := by omega
        obtain ⟨g, cap, hv, hgl, hcl⟩ := OC.out (by omega)
        obtain ⟨p, hp⟩ : ∃ p, p = P.getD i 0 := ⟨_, rfl⟩
        have hpc := hcl i hi'
        rw [← hp] at hpc
        have hpc2 : wr.cell? ⟨g, i, none⟩ = some (.int .i64 (p : Int)) := by rw [below_cell hW3 hgl]; exact hpc
        have hpl : p < l.length := by rw [hp]; exact (PM.out i hi').1
        have hkp : k < p := by rw [hp]; exact (PM.out i hi').2
        have HPI := hideT' hp
        have ck : wr.cell? ⟨w.heap.size, 0, none⟩ = some (.int .i64 5) := dm_c0 (RowAt.below hN3 hW3 (by omega))
        injection hv with hv1 hv2 hv3
        subst hv1 hv3
        clear hcl hp hpc hv2
        have hc1 : ¬ 9223372036854775807 < o.size + 1 := by omega
        have hc2 : ¬ 9223372036854775807 < o.size + 2 := by omega
        have hc3 : ¬ 9223372036854775807 < o.size + 1 + 2 := by omega
        have hc4 : ¬ 9223372036854775807 < o.size + 3 := by omega
        by_cases hsp : (0 : Int) < (i : Int)
        · skip
          go_wp2_with fail
          refine (HI.out p hkp hpl b wr (RowAt.below HD.out hWw hb)).mono ?_
          rintro e w5 ⟨⟨r, rfl, hr⟩, hW5⟩
          have hrs : r.size ≤ 660000000 := by have h1 : r.data.toList.length = r.size := (by simp); rw [hr] at h1; have := tx_bound HF.out HD.out hpl; omega
          have HR := hideT' hr
          clear hr
          have _h89291 : ¬ 9223372036854775807 < o.size + r.size := by omega
          have _h85945 : ¬ 9223372036854775807 < o.size + 1 + r.size := by omega
          have _h25221 : ¬ 9223372036854775807 < o.size + 2 + r.size := by omega
          have _h40872 : ¬ 9223372036854775807 < o.size + 1 + 2 + r.size := by omega
          have _h18467 : ¬ 9223372036854775807 < o.size + 3 + r.size := by omega
          have _h29064 : ¬ 9223372036854775807 < o.size + (1 + r.size) := by omega
          go_wp2
          go_roundg (m - (i + 1))
          case measure => omega
          case rel =>
            refine ⟨i + 1, (o ++ ⟨#[32]⟩) ++ r, rfl, by omega, by go_num, rfl, ?_, hW3.trans (hW5.mono hW3.size)⟩
            unfold Hid
            rw [jn, if_pos (by omega), if_neg (by simp), ← HPI.out]
            simp only [ba_app, HO.out, HR.out]
            simp
        · skip
          go_wp2_with fail
          refine (HI.out p hkp hpl b wr (RowAt.below HD.out hWw hb)).mono ?_
          rintro e w5 ⟨⟨r, rfl, hr⟩, hW5⟩
          have hrs : r.size ≤ 660000000 := by have h1 : r.data.toList.length = r.size := (by simp); rw [hr] at h1; have := tx_bound HF.out HD.out hpl; omega
          have HR := hideT' hr
          clear hr
          have _h89291 : ¬ 9223372036854775807 < o.size + r.size := by omega
          have _h85945 : ¬ 9223372036854775807 < o.size + 1 + r.size := by omega
          have _h25221 : ¬ 9223372036854775807 < o.size + 2 + r.size := by omega
          have _h40872 : ¬ 9223372036854775807 < o.size + 1 + 2 + r.size := by omega
          have _h18467 : ¬ 9223372036854775807 < o.size + 3 + r.size := by omega
          have _h29064 : ¬ 9223372036854775807 < o.size + (1 + r.size) := by omega
          go_wp2
          go_roundg (m - (i + 1))
          case measure => omega
          case rel =>
            refine ⟨i + 1, o ++ r, rfl, by omega, by go_num, rfl, ?_, hW3.trans (hW5.mono hW3.size)⟩
            unfold Hid
            rw [jn, if_neg (by omega), if_neg (by simp), ← HPI.out]
            simp only [ba_app, HO.out, HR.out]
            simp
      · have him : i = m := by omega
        subst him
        have hc1 : ¬ 9223372036854775807 < o.size + 1 := by omega
        go_wp2
        go_ret
        refine ⟨⟨_, rfl, ?_⟩, hWw⟩
        rw [ba_app, HO.out, HX.out, HJ.out]
        simp
  · have HX := hideT' (tx_list hk (by rw [← HQ.out]; simp))
    go_enter Tryz.func28, Tryz.ntmps28
    go_wp2_with (first | (refine load_dm rfl _ rfl b k rfl l hD hk ⟨6, s, y⟩ HDM.out ?_) | (refine store_dv rfl _ _ rfl rfl w.heap.size ⟨6, s, y⟩ rfl rfl default A ?_; intro w1 hN1 hg1 hs1; have c0 : w1.cell? ⟨w.heap.size, 0, none⟩ = some (.int .i64 6) := dm_c0 hN1; have c1 : w1.cell? ⟨w.heap.size, 1, none⟩ = some (.string s) := dm_c1 hN1; have hs1' : w.heap.size + 1 ≤ w1.heap.size := (by rw [hs1]; simp); clear hs1))
    have hW1 := HBn.out w1 hg1
    refine (l3Parts_any b l k _ w1 rfl hk hn3 (RowAt.below HD.out hW1 hb)).mono ?_
    rintro e w3 ⟨v, rfl, hown, hW3a⟩
    have hW03 := hW1.trans (hW3a.mono hW1.size)
    have hs3 := hW3a.size
    have hN3 : DmAt w3 w.heap.size ⟨6, s, y⟩ := RowAt.below hN1 hW3a (by omega)
    have HJ : Hid (jnK l (TX l) l.length (k : Int) = jn (TX l) true (prt l l.length k).length (prt l l.length k) (prt l l.length k).length) := by
      unfold Hid jnK dotK
      rw [kid_prt, Int.toNat_natCast, ← HQ.out]; rfl
    have HJB := hideT' (jn_bound HF.out HD.out (k : Int) (k + 1) (by omega) (by omega))
    have PM : Hid (∀ i, i < (prt l l.length k).length → (prt l l.length k).getD i 0 < l.length ∧ k < (prt l l.length k).getD i 0) := fun i hi => prt_at2 hi
    have OC : Hid (0 < (prt l l.length k).length → ∃ g cap, v = .slice (some ⟨g, 0, none⟩) (prt l l.length k).length cap ∧ g < w3.heap.size ∧ ∀ i, i < (prt l l.length k).length → w3.cell? ⟨g, i, none⟩ = some (.int .i64 (((prt l l.length k).getD i 0 : Nat) : Int))) := fun h => by
      obtain ⟨g, cap, rfl, _, hgl, _, _⟩ := own_form hown h
      refine ⟨g, cap, rfl, hgl, fun i hi => ?_⟩
      have := own_cell hown i (by rw [natI_len]; exact hi)
      rwa [natI_get] at this
    obtain ⟨o0, cap0, hv⟩ := own_form8 hown
    obtain ⟨P, hP⟩ : ∃ P, P = prt l l.length k := ⟨_, rfl⟩
    rw [← hP] at HJ PM OC hv
    obtain ⟨m, hm⟩ : ∃ m, m = P.length := ⟨_, rfl⟩
    have hml : m ≤ l.length := by have := prt_len l l.length k; rw [← hP] at this; omega
    rw [← hm] at HJ PM OC hv
    clear hP hown hW3a c0 c1
    subst hv
    have hmi : (m : Int) ≤ 300 := by omega
    go_wp2_with fail
    go_loopg [6, 36] m (fun g x i wr => ∃ (j : Nat) (o : ByteArray), g = m - j ∧ j ≤ m ∧ i = .int .i64 (j : Int) ∧ x = .string o ∧ Hid (o.data.toList = 40 :: jn (TX l) true m P j) ∧ Below w3.heap.size w3 wr)
    case atStart => exact ⟨0, ⟨#[40]⟩, rfl, by omega, rfl, rfl, rfl, Below.refl _ _⟩
    case round =>
      obtain ⟨i, o, hg, hi, rfl, rfl, HO, hW3⟩ := hrel
      have hWw : Below w.heap.size w wr := hW03.trans (hW3.mono hW03.size)
      have hos : o.size ≤ 660000001 := by
        have h1 : o.data.toList.length = o.size := by simp
        have h2 := jn_mono (TX l) true m P i m hi
        have h3 := HJB.out
        rw [HJ.out] at h3
        rw [HO.out, List.length_cons] at h1
        omega
      by_cases hlt : (i : Int) < (m : Int)
      · have hi' : i < m := by omega
        obtain ⟨g, cap, hv, hgl, hcl⟩ := OC.out (by omega)
        obtain ⟨p, hp⟩ : ∃ p, p = P.getD i 0 := ⟨_, rfl⟩
        have hpc := hcl i hi'
        rw [← hp] at hpc
        have hpc2 : wr.cell? ⟨g, i, none⟩ = some (.int .i64 (p : Int)) := by rw [below_cell hW3 hgl]; exact hpc
        have hpl : p < l.length := by rw [hp]; exact (PM.out i hi').1
        have hkp : k < p := by rw [hp]; exact (PM.out i hi').2
        have HPI := hideT' hp
        have ck : wr.cell? ⟨w.heap.size, 0, none⟩ = some (.int .i64 6) := dm_c0 (RowAt.below hN3 hW3 (by omega))
        injection hv with hv1 hv2 hv3
        subst hv1 hv3
        clear hcl hp hpc hv2
        have hc1 : ¬ 9223372036854775807 < o.size + 1 := by omega
        have hc2 : ¬ 9223372036854775807 < o.size + 2 := by omega
        have hc3 : ¬ 9223372036854775807 < o.size + 1 + 2 := by omega
        have hc4 : ¬ 9223372036854775807 < o.size + 3 := by omega
        by_cases hdo : i + 1 = m
        · have HDO : Hid (i + 1 = m) := hdo
          have hdi : ((i : Int) == (m : Int) - 1) = true := beq_iff_eq.2 (by omega)
          clear hdo
          by_cases hsp : (0 : Int) < (i : Int)
          · skip
            go_wp2_with fail
            refine (HI.out p hkp hpl b wr (RowAt.below HD.out hWw hb)).mono ?_
            rintro e w5 ⟨⟨r, rfl, hr⟩, hW5⟩
            have hrs : r.size ≤ 660000000 := by have h1 : r.data.toList.length = r.size := (by simp); rw [hr] at h1; have := tx_bound HF.out HD.out hpl; omega
            have HR := hideT' hr
            clear hr
            have _h89291 : ¬ 9223372036854775807 < o.size + r.size := by omega
            have _h85945 : ¬ 9223372036854775807 < o.size + 1 + r.size := by omega
            have _h25221 : ¬ 9223372036854775807 < o.size + 2 + r.size := by omega
            have _h40872 : ¬ 9223372036854775807 < o.size + 1 + 2 + r.size := by omega
            have _h18467 : ¬ 9223372036854775807 < o.size + 3 + r.size := by omega
            have _h29064 : ¬ 9223372036854775807 < o.size + (1 + r.size) := by omega
            go_wp2
            go_roundg (m - (i + 1))
            case measure => omega
            case rel =>
              refine ⟨i + 1, ((o ++ ⟨#[32]⟩) ++ ⟨#[46, 32]⟩) ++ r, rfl, by omega, by go_num, rfl, ?_, hW3.trans (hW5.mono hW3.size)⟩
              unfold Hid
              rw [jn, if_pos (by omega), if_pos (by rw [decide_eq_true HDO.out]; rfl), ← HPI.out]
              simp only [ba_app, HO.out, HR.out]
              simp
          · skip
            go_wp2_with fail
            refine (HI.out p hkp hpl b wr (RowAt.below HD.out hWw hb)).mono ?_
            rintro e w5 ⟨⟨r, rfl, hr⟩, hW5⟩
            have hrs : r.size ≤ 660000000 := by have h1 : r.data.toList.length = r.size := (by simp); rw [hr] at h1; have := tx_bound HF.out HD.out hpl; omega
            have HR := hideT' hr
            clear hr
            have _h89291 : ¬ 9223372036854775807 < o.size + r.size := by omega
            have _h85945 : ¬ 9223372036854775807 < o.size + 1 + r.size := by omega
            have _h25221 : ¬ 9223372036854775807 < o.size + 2 + r.size := by omega
            have _h40872 : ¬ 9223372036854775807 < o.size + 1 + 2 + r.size := by omega
            have _h18467 : ¬ 9223372036854775807 < o.size + 3 + r.size := by omega
            have _h29064 : ¬ 9223372036854775807 < o.size + (1 + r.size) := by omega
            go_wp2
            go_roundg (m - (i + 1))
            case measure => omega
            case rel =>
              refine ⟨i + 1, (o ++ ⟨#[46, 32]⟩) ++ r, rfl, by omega, by go_num, rfl, ?_, hW3.trans (hW5.mono hW3.size)⟩
              unfold Hid
              rw [jn, if_neg (by omega), if_pos (by rw [decide_eq_true HDO.out]; rfl), ← HPI.out]
              simp only [ba_app, HO.out, HR.out]
              simp
        · have HDO : Hid (¬ i + 1 = m) := hdo
          have hdi : ((i : Int) == (m : Int) - 1) = false := beq_eq_false_iff_ne.2 (by omega)
          clear hdo
          by_cases hsp : (0 : Int) < (i : Int)
          · skip
            go_wp2_with fail
            refine (HI.out p hkp hpl b wr (RowAt.below HD.out hWw hb)).mono ?_
            rintro e w5 ⟨⟨r, rfl, hr⟩, hW5⟩
            have hrs : r.size ≤ 660000000 := by have h1 : r.data.toList.length = r.size := (by simp); rw [hr] at h1; have := tx_bound HF.out HD.out hpl; omega
            have HR := hideT' hr
            clear hr
            have _h89291 : ¬ 9223372036854775807 < o.size + r.size := by omega
            have _h85945 : ¬ 9223372036854775807 < o.size + 1 + r.size := by omega
            have _h25221 : ¬ 9223372036854775807 < o.size + 2 + r.size := by omega
            have _h40872 : ¬ 9223372036854775807 < o.size + 1 + 2 + r.size := by omega
            have _h18467 : ¬ 9223372036854775807 < o.size + 3 + r.size := by omega
            have _h29064 : ¬ 9223372036854775807 < o.size + (1 + r.size) := by omega
            go_wp2
            go_roundg (m - (i + 1))
            case measure => omega
            case rel =>
              refine ⟨i + 1, (o ++ ⟨#[32]⟩) ++ r, rfl, by omega, by go_num, rfl, ?_, hW3.trans (hW5.mono hW3.size)⟩
              unfold Hid
              rw [jn, if_pos (by omega), if_neg (by rw [decide_eq_false HDO.out]; decide), ← HPI.out]
              simp only [ba_app, HO.out, HR.out]
              simp
          · skip
            go_wp2_with fail
            refine (HI.out p hkp hpl b wr (RowAt.below HD.out hWw hb)).mono ?_
            rintro e w5 ⟨⟨r, rfl, hr⟩, hW5⟩
            have hrs : r.size ≤ 660000000 := by have h1 : r.data.toList.length = r.size := (by simp); rw [hr] at h1; have := tx_bound HF.out HD.out hpl; omega
            have HR := hideT' hr
            clear hr
            have _h89291 : ¬ 9223372036854775807 < o.size + r.size := by omega
            have _h85945 : ¬ 9223372036854775807 < o.size + 1 + r.size := by omega
            have _h25221 : ¬ 9223372036854775807 < o.size + 2 + r.size := by omega
            have _h40872 : ¬ 9223372036854775807 < o.size + 1 + 2 + r.size := by omega
            have _h18467 : ¬ 9223372036854775807 < o.size + 3 + r.size := by omega
            have _h29064 : ¬ 9223372036854775807 < o.size + (1 + r.size) := by omega
            go_wp2
            go_roundg (m - (i + 1))
            case measure => omega
            case rel =>
              refine ⟨i + 1, o ++ r, rfl, by omega, by go_num, rfl, ?_, hW3.trans (hW5.mono hW3.size)⟩
              unfold Hid
              rw [jn, if_neg (by omega), if_neg (by rw [decide_eq_false HDO.out]; decide), ← HPI.out]
              simp only [ba_app, HO.out, HR.out]
              simp
      · have him : i = m := by omega
        subst him
        have hc1 : ¬ 9223372036854775807 < o.size + 1 := by omega
        go_wp2
        go_ret
        refine ⟨⟨_, rfl, ?_⟩, hWw⟩
        rw [ba_app, HO.out, HX.out, HJ.out]
        simp

theorem texts {l : List Dm} (hF : Fine l) : ∀ (f k : Nat), k < l.length → l.length - k ≤ f → TxtOk l k
  | 0, k, h1, h2 => by omega
  | f + 1, k, h1, h2 => text_of hF k h1 (fun p hp1 hp2 => texts hF f p hp2 (by omega))
end Go.Proofs.YtmpghgaijphniaaGreatDoor

/-
  What spec.DataText answers.
-/
namespace Go.Proofs.YtmpghgaijphniaaGreatDoor
open Go.RowKit
set_option linter.unusedVariables false

theorem jn_app {g : Nat → List UInt8} {dot : Bool} {m : Nat} {q t : List Nat} : ∀ i, i ≤ q.length → jn g dot m (q ++ t) i = jn g dot m q i
  | 0, _ => rfl
  | i + 1, hi => by
    rw [jn, jn, jn_app i (by omega)]
    congr 4
    simp only [List.getD, List.getElem?_append_left (show i < q.length by omega)]
theorem kid_pre (l : List Dm) (u : Int) (a e : Nat) (h : a ≤ e) : ∃ t, kid l e u = kid l a u ++ t := by
  unfold kid
  refine ⟨((List.range (e - a)).map (a + ·)).filter (fun i => decide (u < (i : Int)) && decide (du l i = u)), ?_⟩
  rw [← List.filter_append, ← List.range_add, show a + (e - a) = e by omega]
theorem jnK_mono (l : List Dm) (g : Nat → List UInt8) (u : Int) (a : Nat) (h : a ≤ l.length) : (jnK l g a u).length ≤ (jnK l g l.length u).length := by
  obtain ⟨t, ht⟩ := kid_pre l u a l.length h
  have h1 : jnK l g a u = jn g (dotK l u) (kid l l.length u).length (kid l l.length u) (kid l a u).length := by
    unfold jnK
    conv => rhs; arg 4; rw [ht]
    rw [jn_app _ (Nat.le_refl _)]
  rw [h1]
  unfold jnK
  refine jn_mono _ _ _ _ _ _ ?_
  rw [ht, List.length_append]; omega
theorem top_step {l : List Dm} (hF : Fine l) {k : Nat} (hk : k < l.length) (hu : du l k = -1) : jnK l (TX l) (k + 1) (-1) = jnK l (TX l) k (-1) ++ ((if 0 < k then [32] else []) ++ TX l k) := by
  have h1 : kid l (k + 1) (-1) = kid l k (-1) ++ [k] := by rw [kid_snoc, if_pos ⟨by omega, hu⟩]
  rw [jnK_snoc (TX l) h1]
  have hd : dotK l (-1) = false := rfl
  rw [hd, Bool.false_and]
  have hs : (0 < (kid l k (-1)).length) ↔ 0 < k := by
    constructor
    · intro h
      by_cases e : k = 0
      · subst e; simp [kid] at h
      · omega
    · intro h
      have h0 := hF.up.up l.length (Nat.le_refl _) 0 (by omega)
      have : 0 ∈ kid l k (-1) := by
        unfold kid
        rw [List.mem_filter]
        refine ⟨List.mem_range.2 h, ?_⟩
        have h2 : du l 0 = -1 := by omega
        simp [h2]
      exact List.length_pos_of_mem this
  by_cases e : 0 < k
  · rw [if_pos e, if_pos (hs.2 e)]; rfl
  · rw [if_neg e, if_neg (fun h => e (hs.1 h))]; rfl
theorem top_skip {l : List Dm} {k : Nat} (hu : du l k ≠ -1) : jnK l (TX l) (k + 1) (-1) = jnK l (TX l) k (-1) := by
  have h1 : kid l (k + 1) (-1) = kid l k (-1) := by rw [kid_snoc, if_neg (fun h => hu h.2), List.append_nil]
  unfold jnK; rw [h1]

set_option maxHeartbeats 4000000 in
set_option maxRecDepth 100000 in
theorem specDataText_any (b : Nat) (l : List Dm) (w0 : World) (hs : ∀ i, i < l.length → (dt l i).size ≤ 1048576) (hD0 : DatAt w0 b l) :
    Calls Tryz.prog 11 #[slV b l] w0 fun e w' => DtAns l e ∧ Below w0.heap.size w0 w' := by
  have hz := zero_dm.1
  have HS := hideT' hs
  have HD0 := hideT' hD0
  have hb0 := RowAt.lt hD0
  clear hs
  go_enter Tryz.func11, Tryz.ntmps11
  go_wp2_with fail
  refine (specGoodData_any b l w0 (fun i hi => Nat.le_trans (HS.out i hi) (by unfold maxLen; omega)) hD0).mono ?_
  rintro e w ⟨rfl, hW0⟩
  have HD : Hid (DatAt w b l) := RowAt.below HD0.out hW0 hb0
  have hb := RowAt.lt HD.out
  clear hD0
  cases hg : goodAll l with
  | false =>
    have HA : Hid (DtAns l (.returned (.tuple #[.string ⟨#[]⟩, .bool false]))) := .inr ⟨by rw [hg]; rfl, rfl⟩
    clear hg
    go_wp2
    go_ret2
    exact ⟨HA.out, hW0⟩
  | true =>
    have HF := hideT' (fine_of hg HS.out)
    have HG := hideT' hg
    clear hg
    have hn3 := HF.out.few
    have HJB := hideT' (jn_bound HF.out HD.out (-1) 0 (by omega) (by omega))
    go_wp2_with fail
    go_loopg [4, 12] l.length (fun g x i wr => ∃ (k : Nat) (o : ByteArray), g = l.length - k ∧ k ≤ l.length ∧ i = .int .i64 (k : Int) ∧ x = .string o ∧ Hid (o.data.toList = jnK l (TX l) k (-1)) ∧ Below w.heap.size w wr)
    case atStart => exact ⟨0, ⟨#[]⟩, rfl, by omega, rfl, rfl, rfl, Below.refl _ _⟩
    case round =>
      obtain ⟨k, o, hg, hk, rfl, rfl, HO, hW⟩ := hrel
      have hWs := hW.size
      have hos : o.size ≤ 660000000 := by
        have h1 : o.data.toList.length = o.size := by simp
        have h2 := jnK_mono l (TX l) (-1) k hk
        have h3 := HJB.out
        rw [HO.out] at h1
        omega
      by_cases hlt : (k : Int) < (l.length : Int)
      · have hk' : k < l.length := by omega
        have hDr : DatAt wr b l := RowAt.below HD.out hW hb
        have A : DmAt (wr.alloc (.cells (dmC default) 37)) wr.heap.size default := RowAt.new wr _ _
        obtain ⟨q, t, y, hd, hq, ht, hy⟩ := dm_parts l k
        have HDM := hideT' hd
        have HY := hideT' hy
        clear hd hq ht hy
        have hBn : ∀ w1, (wr.alloc (.cells (dmC default) 37)).grownBy w1 (some wr.heap.size) → Below w.heap.size w w1 := fun w1 hg => (hW.alloc hWs _).grown hg (by simp; omega) (by intro k hk; injection hk; omega)
        have HBn := hideT' hBn
        clear hBn
        have hc1 : ¬ 9223372036854775807 < o.size + 1 := by omega
        by_cases hym : y = -1
        · have HST := hideT' (top_step HF.out hk' (by rw [← HY.out]; exact hym))
          subst hym
          by_cases hk0 : (0 : Int) < (k : Int)
          · go_wp2_with (first | (refine load_dm rfl _ rfl b k rfl l hDr hk' ⟨q, t, -1⟩ HDM.out ?_) | (refine store_dv rfl _ _ rfl rfl wr.heap.size ⟨q, t, -1⟩ rfl rfl default A ?_; intro w1 hN1 hg1 hs1; have c2 : w1.cell? ⟨wr.heap.size, 2, none⟩ = some (.int .i64 (-1)) := dm_c2 hN1; clear hs1))
            have hW1 := HBn.out w1 hg1
            refine (texts HF.out (l.length - k) k hk' (Nat.le_refl _) b w1 (RowAt.below HD.out hW1 hb)).mono ?_
            rintro e w5 ⟨⟨r, rfl, hr⟩, hW5⟩
            have hrs : r.size ≤ 660000000 := by have h1 : r.data.toList.length = r.size := (by simp); rw [hr] at h1; have := tx_bound HF.out HD.out hk'; omega
            have HR := hideT' hr
            clear hr
            have hc2 : ¬ 9223372036854775807 < o.size + 1 + r.size := by omega
            have hc3 : ¬ 9223372036854775807 < o.size + (1 + r.size) := by omega
            go_wp2
            go_roundg (l.length - (k + 1))
            case measure => omega
            case rel =>
              refine ⟨k + 1, (o ++ ⟨#[32]⟩) ++ r, rfl, by omega, by go_num, rfl, ?_, hW1.trans (hW5.mono hW1.size)⟩
              unfold Hid
              rw [HST.out, if_pos (by omega)]
              simp only [ba_app, HO.out, HR.out]
              simp
          · go_wp2_with (first | (refine load_dm rfl _ rfl b k rfl l hDr hk' ⟨q, t, -1⟩ HDM.out ?_) | (refine store_dv rfl _ _ rfl rfl wr.heap.size ⟨q, t, -1⟩ rfl rfl default A ?_; intro w1 hN1 hg1 hs1; have c2 : w1.cell? ⟨wr.heap.size, 2, none⟩ = some (.int .i64 (-1)) := dm_c2 hN1; clear hs1))
            have hW1 := HBn.out w1 hg1
            refine (texts HF.out (l.length - k) k hk' (Nat.le_refl _) b w1 (RowAt.below HD.out hW1 hb)).mono ?_
            rintro e w5 ⟨⟨r, rfl, hr⟩, hW5⟩
            have hrs : r.size ≤ 660000000 := by have h1 : r.data.toList.length = r.size := (by simp); rw [hr] at h1; have := tx_bound HF.out HD.out hk'; omega
            have HR := hideT' hr
            clear hr
            have hc2 : ¬ 9223372036854775807 < o.size + r.size := by omega
            go_wp2
            go_roundg (l.length - (k + 1))
            case measure => omega
            case rel =>
              refine ⟨k + 1, o ++ r, rfl, by omega, by go_num, rfl, ?_, hW1.trans (hW5.mono hW1.size)⟩
              unfold Hid
              rw [HST.out, if_neg (by omega)]
              simp only [ba_app, HO.out, HR.out]
              simp
        · have HST := hideT' (top_skip (l := l) (k := k) (by rw [← HY.out]; exact hym))
          have hym' : (y != -1) = true := by simpa using hym
          clear hym
          go_wp2_with (first | (refine load_dm rfl _ rfl b k rfl l hDr hk' ⟨q, t, y⟩ HDM.out ?_) | (refine store_dv rfl _ _ rfl rfl wr.heap.size ⟨q, t, y⟩ rfl rfl default A ?_; intro w1 hN1 hg1 hs1; have c2 : w1.cell? ⟨wr.heap.size, 2, none⟩ = some (.int .i64 (y)) := dm_c2 hN1; clear hs1))
          have hW1 := HBn.out w1 hg1
          go_roundg (l.length - (k + 1))
          case measure => omega
          case rel => exact ⟨k + 1, o, rfl, by omega, by go_num, rfl, by unfold Hid; rw [HST.out]; exact HO.out, hW1⟩
      · have hkn : k = l.length := by omega
        subst hkn
        have hWw := hW0.trans (hW.mono hW0.size)
        have hol : Hid (o.size = (txtAll l).length) := by
          have h1 : o.data.toList.length = o.size := by simp
          unfold Hid txtAll; rw [← h1, HO.out]
        by_cases h15 : (1500 : Int) < (o.size : Int)
        · have HA : Hid (DtAns l (.returned (.tuple #[.string ⟨#[]⟩, .bool false]))) := .inr ⟨by rw [HG.out, decide_eq_false (by have := hol.out; omega)]; rfl, rfl⟩
          go_wp2
          go_ret2
          exact ⟨HA.out, hWw⟩
        · have HA : Hid (DtAns l (.returned (.tuple #[.string o, .bool true]))) := .inl ⟨by rw [HG.out, decide_eq_true (by have := hol.out; omega)]; rfl, o, rfl, HO.out⟩
          go_wp2
          go_ret2
          exact ⟨HA.out, hWw⟩
end Go.Proofs.YtmpghgaijphniaaGreatDoor

/-
  What the laws' own helpers over data answer.
-/
namespace Go.Proofs.YtmpghgaijphniaaGreatDoor
open Go.RowKit
set_option linter.unusedVariables false

theorem zero_ldm : (Tryz.prog.info? 36).map (·.size) = some 3 := by kernel_rfl
theorem ldm_c1 {w : World} {b : Nat} {d : Dm} (h : RowAt w b 36 (dmC d)) : w.cell? ⟨b, 1, none⟩ = some (.string d.t) := by rw [cell_of_row w b _ _ _ _ h]; rfl

set_option maxHeartbeats 1000000 in
set_option maxRecDepth 100000 in
theorem szDatum_any (d : Dm) (n : Int) (w : World) (hs : d.t.size ≤ maxLen) (hn0 : 0 ≤ n) (hn1 : n ≤ 1048576) :
    Calls Tryz.prog 15 #[.agg (dmC d), .int .i64 n] w fun e w' => (∃ r : Int, e = .returned (.int .i64 r) ∧ (r = -1 ∨ (0 ≤ r ∧ r ≤ n))) ∧ Below w.heap.size w w' := by
  have hR := RowAt.new w 36 (dmC d)
  have c1 := ldm_c1 hR
  have hB : Below w.heap.size w (w.alloc (.cells (dmC d) 36)) := (Below.refl _ _).alloc (Nat.le_refl _) _
  obtain ⟨k, t, u⟩ := d
  simp only at c1 hs
  unfold maxLen at hs
  clear hR
  by_cases h : n - (t.size : Int) < 0
  · go_enter Tryz.func15, Tryz.ntmps15
    go_wp2
    go_ret
    exact ⟨⟨-1, rfl, .inl rfl⟩, hB⟩
  · go_enter Tryz.func15, Tryz.ntmps15
    go_wp2
    go_ret
    exact ⟨⟨n - (t.size : Int), rfl, .inr ⟨by omega, by omega⟩⟩, hB⟩

set_option maxHeartbeats 1000000 in
set_option maxRecDepth 100000 in
theorem toDatum_any (d : Dm) (w : World) :
    Calls Tryz.prog 23 #[.agg (dmC d)] w fun e w' => e = .returned (.agg (dmC d)) ∧ Below w.heap.size w w' := by
  have hz : ∀ w, (zeroValue 37).run Tryz.prog w = .ok (.agg #[.int .i64 0, .string ⟨#[]⟩, .int .i64 0]) w := zero_dm.1
  obtain ⟨k, t, u⟩ := d
  show Calls Tryz.prog 23 #[.agg #[.int .i64 k, .string t, .int .i64 u]] w fun e w' => e = .returned (.agg #[.int .i64 k, .string t, .int .i64 u]) ∧ Below w.heap.size w w'
  go_enter Tryz.func23, Tryz.ntmps23
  go_wp2
  refine bodyPost_ret (v := .agg #[.int .i64 k, .string t, .int .i64 u]) (results_cell_row Tryz.results23 _ _ (w.heap.size + 1) 37 #[.int .i64 k, .string t, .int .i64 u] (0, 0) _ rfl (RowAt.old (by have := RowAt.new (w.alloc (.cells #[.int .i64 k, .string t, .int .i64 u] 36)) 37 #[.int .i64 k, .string t, .int .i64 u]; rwa [World.size_alloc] at this) _) Tryz.underlying37 rfl zero_dm.2) rfl ⟨rfl, ?_⟩
  exact (((Below.refl _ _).alloc (Nat.le_refl _) _).alloc (by simp) _).alloc (by simp; omega) _

/-- Data that came in: their cells. -/
def ArgAt (w : World) (a : Addr) (l : List Dm) : Prop := ∀ i j v, i < l.length → (dmL (l.getD i default))[j]? = some v → w.cell? ((a.add (i * 3)).add j) = some v
section
variable {P : Program}
theorem run_loadVar_addr (w : World) (a : Addr) (ty : TypeId) (cs : List Value) (d : TypeDesc) (hc : ∀ j v, cs[j]? = some v → w.cell? (a.add j) = some v)
    (hu : P.underlying ty = some d) (hd : d.isRow = true) (hi : (P.info? ty).map (·.size) = some cs.length) :
    (loadVar ty a).run P w = .ok (.agg cs.toArray) w := by
  have hl : (loadCells a cs.length).run P w = .ok cs.toArray w := run_loadCells_list (P := P) w a cs hc
  cases hq : P.info? ty with
  | none => simp [hq] at hi
  | some i =>
    have hs : i.size = cs.length := by simpa [hq] using hi
    have hagg : (isAgg ty).run P w = .ok true w := by
      unfold isAgg
      rw [Sem.run_bind, run_underlying hu w]
      cases d <;> simp_all
    simp [loadVar, Sem.run_bind, hagg, sizeOf, typeInfo, hq, hs, hl]
end
/-- A node that came in is read. -/
theorem load_arg {ops : Array Oper} {rest : List Oper} {op : Oper} {a : Act} {w : World} {Q : Exit → Act → World → Prop} (hgd : op.guard = none) (x : Operand) (ho : op.op = .load 36 x)
    (A : Addr) (i : Nat) (hx : a.eval x = .pointer (some (A.add (i * 3)))) (l : List Dm) (hD : ArgAt w A l) (hi : i < l.length) (d : Dm) (hd : l.getD i default = d)
    (h : wpList Tryz.prog ops Q rest (a.put op.dst (.agg (dmC d))) w) : wpList Tryz.prog ops Q (op :: rest) a w := by
  subst hd
  refine wpList_plain hgd fun _ hK => ?_
  unfold Oper.wp execOp
  simp only [ho, hx, Instr.loadAt, Instr.sureAddr, Sem.run_bind, Sem.run_pure, Result.andThen_ok, run_loadVar_addr w (A.add (i * 3)) 36 (dmL (l.getD i default)) _ (fun j v hv => hD i j v hi hv) Tryz.underlying36 rfl zero_ldm]
  exact hK _ _ h

/-- A slice of data that came in. -/
def SlIn (w : World) (v : Value) (l : List Dm) : Prop := (v = .slice none 0 0 ∧ l = []) ∨ ∃ (a : Addr) (cap : Nat), v = .slice (some a) l.length cap ∧ ArgAt w a l ∧ (0 < l.length → a.block < w.heap.size)
theorem SlIn.below {w w' : World} {v : Value} {l : List Dm} (h : SlIn w v l) (hB : Below w.heap.size w w') : SlIn w' v l := by
  rcases h with h | ⟨a, cap, rfl, h, hb⟩
  · exact .inl h
  · refine .inr ⟨a, cap, rfl, fun i j u hi hv => ?_, fun hl => Nat.lt_of_lt_of_le (hb hl) hB.size⟩
    rw [hB.cell (by
      have := hb (by omega)
      unfold Addr.add; split <;> split <;> exact this)]
    exact h i j u hi hv

set_option maxHeartbeats 1000000 in
set_option maxRecDepth 100000 in
theorem szDatumS_any (l : List Dm) (v : Value) (n : Int) (w : World) (hv : SlIn w v l) (hs : ∀ i, i < l.length → (dt l i).size ≤ maxLen) (hn0 : 0 ≤ n) (hn1 : n ≤ 1048576) (hl : l.length ≤ maxLen) :
    Calls Tryz.prog 6 #[v, .int .i64 n] w fun e w' => (∃ r : Int, e = .returned (.int .i64 r) ∧ (r = -1 ∨ (0 ≤ r ∧ r ≤ n ∧ (l.length : Int) ≤ n))) ∧ Below w.heap.size w w' := by
  unfold maxLen at hl
  have HS := hideT' hs
  have HV := hideT' hv
  clear hs
  rcases hv with ⟨rfl, rfl⟩ | ⟨A, cap, rfl, hA, hb⟩
  · have h1 : ¬ n < 0 := by omega
    go_enter Tryz.func6, Tryz.ntmps6
    go_wp2_with fail
    go_loopg [1, 5] 0 (fun g x i wr => x = .int .i64 n ∧ i = .int .i64 0 ∧ wr = w)
    case atStart => exact ⟨by go_num, rfl, rfl⟩
    case round =>
      obtain ⟨rfl, rfl, rfl⟩ := hrel
      go_wp2
      go_ret
      exact ⟨⟨n, rfl, .inr ⟨hn0, by omega, by simpa using hn0⟩⟩, Below.refl _ _⟩
  · by_cases h : n - (l.length : Int) < 0
    · go_enter Tryz.func6, Tryz.ntmps6
      go_wp2
      go_ret
      exact ⟨⟨-1, rfl, .inl rfl⟩, Below.refl _ _⟩
    · go_enter Tryz.func6, Tryz.ntmps6
      go_wp2_with fail
      go_loopg [1, 5] l.length (fun g x i wr => ∃ (m : Int) (k : Nat), g = l.length - k ∧ k ≤ l.length ∧ x = .int .i64 m ∧ 0 ≤ m ∧ m ≤ n ∧ i = .int .i64 (k : Int) ∧ Below w.heap.size w wr)
      case atStart => exact ⟨n - (l.length : Int), 0, rfl, by omega, by go_num, by omega, by omega, rfl, Below.refl _ _⟩
      case round =>
        obtain ⟨m, k, hg, hk, rfl, hm0, hm1, rfl, hW⟩ := hrel
        by_cases hlt : (k : Int) < (l.length : Int)
        · have hk' : k < l.length := by omega
          have hAr : ArgAt wr A l := by
            rcases HV.out.below hW with ⟨h1, _⟩ | ⟨A', cap', h1, h2, _⟩
            · cases h1
            · cases h1; exact h2
          obtain ⟨q, t, y, hd, hq, ht, hy⟩ := dm_parts l k
          have HDM := hideT' hd
          have hts : t.size ≤ maxLen := by rw [ht]; exact HS.out k hk'
          clear hd hq ht hy
          go_wp2_with (refine load_arg rfl _ rfl A k rfl l hAr hk' ⟨q, t, y⟩ HDM.out ?_)
          refine (szDatum_any ⟨q, t, y⟩ m _ hts hm0 (by omega)).mono ?_
          rintro e w2 ⟨⟨r, rfl, hr⟩, hW2⟩
          have hW3 := hW.trans (hW2.mono hW.size)
          rcases hr with rfl | ⟨hr0, hr1⟩
          · go_wp2
            go_ret
            exact ⟨⟨-1, rfl, .inl rfl⟩, hW3⟩
          · have hr2 : ¬ r < 0 := by omega
            go_wp2
            go_roundg (l.length - (k + 1))
            case measure => omega
            case rel => exact ⟨r, k + 1, rfl, by omega, rfl, hr0, by omega, by go_num, hW3⟩
        · go_wp2
          go_ret
          exact ⟨⟨m, rfl, .inr ⟨hm0, hm1, by omega⟩⟩, hW⟩
end Go.Proofs.YtmpghgaijphniaaGreatDoor

/-
  How much data the laws take: what szDatumS says of the nodes' texts besides.
-/
namespace Go.Proofs.YtmpghgaijphniaaGreatDoor
open Go.RowKit
set_option linter.unusedVariables false

set_option maxHeartbeats 1000000 in
set_option maxRecDepth 100000 in
theorem szDatum2_any (d : Dm) (n : Int) (w : World) (hs : d.t.size ≤ maxLen) (hn0 : 0 ≤ n) (hn1 : n ≤ 1048576) :
    Calls Tryz.prog 15 #[.agg (dmC d), .int .i64 n] w fun e w' => (∃ r : Int, e = .returned (.int .i64 r) ∧ (r = -1 ∨ (0 ≤ r ∧ r ≤ n ∧ (d.t.size : Int) ≤ n))) ∧ Below w.heap.size w w' := by
  have hR := RowAt.new w 36 (dmC d)
  have c1 := ldm_c1 hR
  have hB : Below w.heap.size w (w.alloc (.cells (dmC d) 36)) := (Below.refl _ _).alloc (Nat.le_refl _) _
  obtain ⟨k, t, u⟩ := d
  simp only at c1 hs
  unfold maxLen at hs
  clear hR
  by_cases h : n - (t.size : Int) < 0
  · go_enter Tryz.func15, Tryz.ntmps15
    go_wp2
    go_ret
    exact ⟨⟨-1, rfl, .inl rfl⟩, hB⟩
  · go_enter Tryz.func15, Tryz.ntmps15
    go_wp2
    go_ret
    exact ⟨⟨n - (t.size : Int), rfl, .inr ⟨by omega, by omega, by show (t.size : Int) ≤ n; omega⟩⟩, hB⟩

set_option maxHeartbeats 1000000 in
set_option maxRecDepth 100000 in
theorem szDatumS2_any (l : List Dm) (v : Value) (n : Int) (w : World) (hv : SlIn w v l) (hs : ∀ i, i < l.length → (dt l i).size ≤ maxLen) (hn0 : 0 ≤ n) (hn1 : n ≤ 1048576) (hl : l.length ≤ maxLen) :
    Calls Tryz.prog 6 #[v, .int .i64 n] w fun e w' => (∃ r : Int, e = .returned (.int .i64 r) ∧ (r = -1 ∨ (0 ≤ r ∧ r ≤ n ∧ (l.length : Int) ≤ n ∧ ∀ i, i < l.length → ((dt l i).size : Int) ≤ n))) ∧ Below w.heap.size w w' := by
  unfold maxLen at hl
  have HS := hideT' hs
  have HV := hideT' hv
  clear hs
  rcases hv with ⟨rfl, rfl⟩ | ⟨A, cap, rfl, hA, hb⟩
  · have h1 : ¬ n < 0 := by omega
    go_enter Tryz.func6, Tryz.ntmps6
    go_wp2_with fail
    go_loopg [1, 5] 0 (fun g x i wr => x = .int .i64 n ∧ i = .int .i64 0 ∧ wr = w)
    case atStart => exact ⟨by go_num, rfl, rfl⟩
    case round =>
      obtain ⟨rfl, rfl, rfl⟩ := hrel
      go_wp2
      go_ret
      exact ⟨⟨n, rfl, .inr ⟨hn0, by omega, by simpa using hn0, fun i hi => by simp at hi⟩⟩, Below.refl _ _⟩
  · by_cases h : n - (l.length : Int) < 0
    · go_enter Tryz.func6, Tryz.ntmps6
      go_wp2
      go_ret
      exact ⟨⟨-1, rfl, .inl rfl⟩, Below.refl _ _⟩
    · go_enter Tryz.func6, Tryz.ntmps6
      go_wp2_with fail
      go_loopg [1, 5] l.length (fun g x i wr => ∃ (m : Int) (k : Nat), g = l.length - k ∧ k ≤ l.length ∧ x = .int .i64 m ∧ 0 ≤ m ∧ m ≤ n ∧ i = .int .i64 (k : Int) ∧ Hid (∀ j, j < k → ((dt l j).size : Int) ≤ n) ∧ Below w.heap.size w wr)
      case atStart => exact ⟨n - (l.length : Int), 0, rfl, by omega, by go_num, by omega, by omega, rfl, fun j hj => by omega, Below.refl _ _⟩
      case round =>
        obtain ⟨m, k, hg, hk, rfl, hm0, hm1, rfl, HZ, hW⟩ := hrel
        by_cases hlt : (k : Int) < (l.length : Int)
        · have hk' : k < l.length := by omega
          have hAr : ArgAt wr A l := by
            rcases HV.out.below hW with ⟨h1, _⟩ | ⟨A', cap', h1, h2, _⟩
            · cases h1
            · cases h1; exact h2
          obtain ⟨q, t, y, hd, hq, ht, hy⟩ := dm_parts l k
          have HDM := hideT' hd
          have hts : t.size ≤ maxLen := by rw [ht]; exact HS.out k hk'
          have HTT := hideT' ht
          clear hd hq ht hy
          go_wp2_with (refine load_arg rfl _ rfl A k rfl l hAr hk' ⟨q, t, y⟩ HDM.out ?_)
          refine (szDatum2_any ⟨q, t, y⟩ m _ hts hm0 (by omega)).mono ?_
          rintro e w2 ⟨⟨r, rfl, hr⟩, hW2⟩
          have hW3 := hW.trans (hW2.mono hW.size)
          rcases hr with rfl | ⟨hr0, hr1, hr5⟩
          · go_wp2
            go_ret
            exact ⟨⟨-1, rfl, .inl rfl⟩, hW3⟩
          · have hr2 : ¬ r < 0 := by omega
            have HZ2 : Hid (∀ j, j < k + 1 → ((dt l j).size : Int) ≤ n) := fun j hj => by
              by_cases e : j = k
              · subst e; rw [← HTT.out]; simp only at hr5; omega
              · exact HZ.out j (by omega)
            clear hr5
            go_wp2
            go_roundg (l.length - (k + 1))
            case measure => omega
            case rel => exact ⟨r, k + 1, rfl, by omega, rfl, hr0, by omega, by go_num, HZ2, hW3⟩
        · go_wp2
          go_ret
          exact ⟨⟨m, rfl, .inr ⟨hm0, hm1, by omega, fun i hi => HZ.out i (by omega)⟩⟩, hW⟩
end Go.Proofs.YtmpghgaijphniaaGreatDoor

/-
  The laws' copies of data, and whether two are the same.
-/
namespace Go.Proofs.YtmpghgaijphniaaGreatDoor
open Go.RowKit
set_option linter.unusedVariables false

theorem datC_set (l : List Dm) (i : Nat) (d : Dm) (hi : i < l.length) : datC (l.set i d) = ((l.take i).flatMap dmL ++ dmL d ++ (l.drop (i + 1)).flatMap dmL).toArray := by
  unfold datC
  rw [List.set_eq_take_append_cons_drop, if_pos hi, List.flatMap_append, List.flatMap_cons, List.append_assoc]
theorem datC_split (l : List Dm) (i : Nat) (hi : i < l.length) : datC l = ((l.take i).flatMap dmL ++ dmL l[i] ++ (l.drop (i + 1)).flatMap dmL).toArray := by
  have := datC_set l i l[i] hi
  rwa [List.set_getElem_self] at this
/-- A node of a row is written. -/
theorem store_dm {ops : Array Oper} {rest : List Oper} {op : Oper} {a : Act} {w : World} {Q : Exit → Act → World → Prop} (hgd : op.guard = none) (x y : Operand) (ho : op.op = .store 37 x y) (hd : op.dst = none)
    (b i : Nat) (d : Dm) (hx : a.eval x = .pointer (some ⟨b, i * 3, none⟩)) (hy : a.eval y = .agg (dmC d)) (l : List Dm) (hD : DatAt w b l) (hi : i < l.length)
    (h : ∀ w', DatAt w' b (l.set i d) → w.grownBy w' (some b) → w'.heap.size = w.heap.size → wpList Tryz.prog ops Q rest a w') : wpList Tryz.prog ops Q (op :: rest) a w := by
  have hD' : RowAt w b 37 ((l.take i).flatMap dmL ++ dmL l[i] ++ (l.drop (i + 1)).flatMap dmL).toArray := by rw [← datC_split l i hi]; exact hD
  have hlen : ((l.take i).flatMap dmL).length = i * 3 := by rw [dat_len, List.length_take]; omega
  have hth := RowAt.there hD'
  rw [hlen] at hth
  refine wpList_store_mid hgd 37 x y ho b (i * 3) (dmC d) hx hy hth zero_dm.2 (dmC_one d) ?_
  have e : a.put op.dst undef = a := by rw [hd]; rfl
  rw [e]
  have hput := RowAt.put (dmL d) (i * 3) w ((l.take i).flatMap dmL) (dmL l[i]) ((l.drop (i + 1)).flatMap dmL) rfl hlen hD'
  rw [← datC_set l i d hi] at hput
  refine h _ hput ⟨?_, ?_, ?_, ?_, ?_⟩ ?_
  · rfl
  · rfl
  · rfl
  · simp [World.setCells, dmC, dmL]
  · intro k _ hne
    simp only [World.setCells, dmC, dmL]
    have hk : k ≠ b := fun e => hne (by rw [e])
    rw [Below.heap_setCell _ _ _ _ hk, Below.heap_setCell _ _ _ _ hk, Below.heap_setCell _ _ _ _ hk]
  · simp [World.setCells, dmC, dmL]

theorem info_dm : (Tryz.prog.info? 37).map (fun i => (i.zero, i.size, i.bytes)) = some (some (.agg #[.int .i64 0, .string ⟨#[]⟩, .int .i64 0]), 3, 32) := by kernel_rfl
theorem run_make_data (n : Nat) (hn : n ≤ 1048576) (w : World) : (Instr.makeSlice 25 (.int .i64 (n : Int)) (.int .i64 (n : Int))).run Tryz.prog w = .ok (.slice (some ⟨w.heap.size, 0, none⟩) n n) (w.alloc (.cells (madeCells #[.int .i64 0, .string ⟨#[]⟩, .int .i64 0] (n * 3)) 37)) := by
  obtain ⟨i, hi, hzz⟩ := Option.map_eq_some_iff.1 info_dm
  simp only [Prod.mk.injEq] at hzz
  obtain ⟨hz, hs, hb⟩ := hzz
  have hr := run_make (P := Tryz.prog) w 25 37 i _ Tryz.underlying25 hi hz .i64 .i64 n n (by omega) (Int.le_refl _) (by rw [hb]; omega) (by omega)
  simp only [Int.toNat_natCast, hs] at hr
  exact hr
theorem made_dat (n : Nat) : madeCells #[.int .i64 0, .string ⟨#[]⟩, .int .i64 0] (n * 3) = datC (List.replicate n default) := by
  apply Array.ext_getElem?
  intro i
  by_cases hi : i < n * 3
  · have hr : (Array.range (n * 3))[i]? = some i := by rw [Array.getElem?_eq_getElem (by rw [Array.size_range]; omega), Array.getElem_range]
    have h1 := flat_get (List.replicate n default) (i / 3) (i % 3) (by simp; omega) (by omega)
    rw [show 3 * (i / 3) + i % 3 = i by omega] at h1
    have h2 : (datC (List.replicate n default))[i]? = (dmL default)[i % 3]? := by unfold datC; rw [List.getElem?_toArray, h1, List.getElem_replicate]
    rw [h2]
    simp only [madeCells, Array.getElem?_map, hr, Option.map_some]
    rcases (by omega : i % 3 = 0 ∨ i % 3 = 1 ∨ i % 3 = 2) with e | e | e
    all_goals rw [show i % (#[Value.int .i64 0, .string ⟨#[]⟩, .int .i64 0] : Array Value).size = i % 3 from rfl, e]; rfl
  · rw [Array.getElem?_eq_none (by rw [size_madeCells]; omega), Array.getElem?_eq_none]
    unfold datC
    rw [List.size_toArray, dat_len, List.length_replicate]; omega

theorem take_set (l : List Dm) (k : Nat) (hk : k < l.length) : (l.take k ++ List.replicate (l.length - k) default).set k l[k] = l.take (k + 1) ++ List.replicate (l.length - (k + 1)) default := by
  have h1 : (l.take k).length = k := by rw [List.length_take]; omega
  obtain ⟨m, hm⟩ : ∃ m, l.length - k = m + 1 := ⟨l.length - k - 1, by omega⟩
  rw [hm, List.replicate_succ, List.set_append_right _ _ (by omega), h1, Nat.sub_self, List.set_cons_zero, List.take_succ_eq_append_getElem hk, show l.length - (k + 1) = m by omega, List.append_assoc]
  rfl

set_option maxHeartbeats 1000000 in
set_option maxRecDepth 100000 in
theorem toDatumS_any (l : List Dm) (v : Value) (w : World) (hv : SlIn w v l) (hl : l.length ≤ 1048576) :
    Calls Tryz.prog 8 #[v] w fun e w' => (∃ b : Nat, e = .returned (slV b l) ∧ w.heap.size ≤ b ∧ DatAt w' b l) ∧ Below w.heap.size w w' := by
  have HV := hideT' hv
  have hnew : DatAt (w.alloc (.cells (madeCells #[.int .i64 0, .string ⟨#[]⟩, .int .i64 0] (l.length * 3)) 37)) w.heap.size (l.take 0 ++ List.replicate (l.length - 0) default) := by
    unfold DatAt
    rw [made_dat]
    exact RowAt.new w _ _
  have hBn : Below w.heap.size w (w.alloc (.cells (madeCells #[.int .i64 0, .string ⟨#[]⟩, .int .i64 0] (l.length * 3)) 37)) := (Below.refl _ _).alloc (Nat.le_refl _) _
  have HN := hideT' (And.intro hnew hBn)
  clear hnew hBn
  rcases hv with ⟨rfl, rfl⟩ | ⟨A, cap, rfl, hA, hb⟩
  · have hmk : ∀ w, (Instr.makeSlice 25 (.int .i64 0) (.int .i64 0)).run Tryz.prog w = .ok (.slice (some ⟨w.heap.size, 0, none⟩) 0 0) (w.alloc (.cells (madeCells #[.int .i64 0, .string ⟨#[]⟩, .int .i64 0] (0 * 3)) 37)) := fun w => run_make_data 0 (by omega) w
    go_enter Tryz.func8, Tryz.ntmps8
    go_wp2_with fail
    clear hmk
    go_loopg [4] 0 (fun g i wr => i = .int .i64 0 ∧ DatAt wr w.heap.size [] ∧ Below w.heap.size w wr)
    case atStart => exact ⟨rfl, HN.out.1, HN.out.2⟩
    case round =>
      obtain ⟨rfl, hD, hW⟩ := hrel
      go_wp2
      go_ret
      exact ⟨⟨w.heap.size, rfl, Nat.le_refl _, hD⟩, hW⟩
  · have hmk := run_make_data l.length hl
    go_enter Tryz.func8, Tryz.ntmps8
    go_wp2_with fail
    clear hmk
    go_loopg [4] l.length (fun g i wr => ∃ k : Nat, g = l.length - k ∧ k ≤ l.length ∧ i = .int .i64 (k : Int) ∧ DatAt wr w.heap.size (l.take k ++ List.replicate (l.length - k) default) ∧ Below w.heap.size w wr)
    case atStart => exact ⟨0, rfl, by omega, rfl, HN.out.1, HN.out.2⟩
    case round =>
      obtain ⟨k, hg, hk, rfl, hD, hW⟩ := hrel
      have hsl := RowAt.lt hD
      by_cases hlt : (k : Int) < (l.length : Int)
      · have hk' : k < l.length := by omega
        have hAr : ArgAt wr A l := by
          rcases HV.out.below hW with ⟨h1, _⟩ | ⟨A', cap', h1, h2, _⟩
          · cases h1
          · cases h1; exact h2
        obtain ⟨d, hd⟩ : ∃ d, d = l.getD k default := ⟨_, rfl⟩
        have HDM := hideT' hd.symm
        clear hd
        have hlen : (l.take k ++ List.replicate (l.length - k) default).length = l.length := by simp; omega
        have HLN := hideT' hlen
        clear hlen
        go_wp2_with (refine load_arg rfl _ rfl A k rfl l hAr hk' d HDM.out ?_)
        refine (toDatum_any d _).mono ?_
        rintro e w2 ⟨rfl, hW2⟩
        have hD2 : DatAt w2 w.heap.size (l.take k ++ List.replicate (l.length - k) default) := RowAt.below hD hW2 hsl
        have hW3 := hW.trans (hW2.mono hW.size)
        have hs2 := hW2.size
        clear hD hW2
        go_wp2_with (refine store_dm rfl _ _ rfl rfl w.heap.size k d rfl rfl _ hD2 (by rw [HLN.out]; exact hk') ?_; intro w3 hD3 hg3 hs3)
        go_roundg (l.length - (k + 1))
        case measure => omega
        case rel =>
          have h1 : d = l[k] := by rw [← HDM.out]; exact getD_at l k hk'
          refine ⟨k + 1, rfl, by omega, by go_num, ?_, hW3.grown hg3 (by omega) (by intro k hk; injection hk; omega)⟩
          rw [h1, take_set l k hk'] at hD3
          exact hD3
      · have hkn : k = l.length := by omega
        subst hkn
        have hDl : DatAt wr w.heap.size l := by
          have := hD
          rwa [List.take_length, Nat.sub_self, List.replicate_zero, List.append_nil] at this
        clear hD
        go_wp2
        go_ret
        exact ⟨⟨w.heap.size, rfl, Nat.le_refl _, hDl⟩, hW⟩

set_option maxHeartbeats 1000000 in
set_option maxRecDepth 100000 in
theorem eqDatum_any (d : Dm) (w : World) :
    Calls Tryz.prog 27 #[.agg (dmC d), .agg (dmC d)] w fun e w' => e = .returned (.bool true) ∧ Below w.heap.size w w' := by
  obtain ⟨k, t, u⟩ := d
  show Calls Tryz.prog 27 #[.agg #[.int .i64 k, .string t, .int .i64 u], .agg #[.int .i64 k, .string t, .int .i64 u]] w fun e w' => e = .returned (.bool true) ∧ Below w.heap.size w w'
  go_enter Tryz.func27, Tryz.ntmps27
  go_wp2
  go_ret
  exact ⟨rfl, ((Below.refl _ _).alloc (Nat.le_refl _) _).alloc (by simp) _⟩

theorem run_dm {o : Oper} {a : Act} {w : World} (x : Operand) (ho : o.op = .load 37 x) (b i : Nat) (hx : a.eval x = .pointer (some ⟨b, i * 3, none⟩)) (l : List Dm) (hD : DatAt w b l) (hi : i < l.length) (d : Dm) (hd : l.getD i default = d) :
    (execOp a.eval o).run Tryz.prog w = .ok (.value (.agg (dmC d))) w := by
  subst hd
  have h := run_loadAt_mid (P := Tryz.prog) w b (i * 3) 37 (dmL (l.getD i default)) _ (dat_range hD hi) Tryz.underlying37 rfl zero_dm.2
  unfold execOp
  simp only [ho, hx, Sem.run_bind, h, Result.andThen_ok]
  rfl

set_option maxHeartbeats 1000000 in
set_option maxRecDepth 100000 in
theorem eqDatumS_any (b c : Nat) (l : List Dm) (w : World) (hl : l.length ≤ 1048576) (h1 : DatAt w b l) (h2 : DatAt w c l) :
    Calls Tryz.prog 10 #[slV b l, slV c l] w fun e w' => e = .returned (.bool true) ∧ Below w.heap.size w w' := by
  have H1 := hideT' h1
  have H2 := hideT' h2
  have hb := RowAt.lt h1
  have hc := RowAt.lt h2
  clear h1 h2
  go_enter Tryz.func10, Tryz.ntmps10
  go_wp2_with fail
  go_loopg [5] l.length (fun g i wr => ∃ k : Nat, g = l.length - k ∧ k ≤ l.length ∧ i = .int .i64 (k : Int) ∧ Below w.heap.size w wr)
  case atStart => exact ⟨0, rfl, by omega, rfl, Below.refl _ _⟩
  case round =>
    obtain ⟨k, hg, hk, rfl, hW⟩ := hrel
    by_cases hlt : (k : Int) < (l.length : Int)
    · have hk' : k < l.length := by omega
      obtain ⟨d, hd⟩ : ∃ d, d = l.getD k default := ⟨_, rfl⟩
      have HDM := hideT' hd.symm
      have hS : DatAt wr.drew b l ∧ DatAt wr.drew c l := ⟨RowAt.below H1.out (Below.drew hW) hb, RowAt.below H2.out (Below.drew hW) hc⟩
      clear hd
      go_wp2_with fail
      refine held_begin (fun w' => DatAt w' b l ∧ DatAt w' c l) (by kernel_rfl) ?_
      refine held_val 0 (some 17) rfl rfl (by kernel_rfl) (by kernel_rfl) (by kernel_rfl) noPanic_put rfl (slV b l) (fun _ => rfl) hS ?_
      simp only [Act.put, List.setIfInBounds_toArray, List.set_cons_zero, List.set_cons_succ]
      refine held_val 1 (some 18) rfl rfl (by kernel_rfl) (by kernel_rfl) (by kernel_rfl) noPanic_put rfl (.int .i64 (k : Int)) (fun _ => rfl) hS ?_
      simp only [Act.put, List.setIfInBounds_toArray, List.set_cons_zero, List.set_cons_succ]
      refine held_val 2 (some 19) rfl rfl (by kernel_rfl) (by kernel_rfl) (by kernel_rfl) noPanic_put rfl (.pointer (some ⟨b, k * 3, none⟩)) (fun _ => by go_simp) hS ?_
      simp only [Act.put, List.setIfInBounds_toArray, List.set_cons_zero, List.set_cons_succ]
      refine held_valS 3 (some 20) rfl rfl (by kernel_rfl) (by kernel_rfl) (by kernel_rfl) noPanic_put rfl (.agg (dmC d)) (fun _ hw' => run_dm _ rfl b k rfl l hw'.1 hk' d HDM.out) hS ?_
      simp only [Act.put, List.setIfInBounds_toArray, List.set_cons_zero, List.set_cons_succ]
      refine held_val 4 (some 21) rfl rfl (by kernel_rfl) (by kernel_rfl) (by kernel_rfl) noPanic_put rfl (slV c l) (fun _ => rfl) hS ?_
      simp only [Act.put, List.setIfInBounds_toArray, List.set_cons_zero, List.set_cons_succ]
      refine held_val 5 (some 22) rfl rfl (by kernel_rfl) (by kernel_rfl) (by kernel_rfl) noPanic_put rfl (.int .i64 (k : Int)) (fun _ => rfl) hS ?_
      simp only [Act.put, List.setIfInBounds_toArray, List.set_cons_zero, List.set_cons_succ]
      refine held_val 6 (some 23) rfl rfl (by kernel_rfl) (by kernel_rfl) (by kernel_rfl) noPanic_put rfl (.pointer (some ⟨c, k * 3, none⟩)) (fun _ => by go_simp) hS ?_
      simp only [Act.put, List.setIfInBounds_toArray, List.set_cons_zero, List.set_cons_succ]
      refine held_valS 7 (some 24) rfl rfl (by kernel_rfl) (by kernel_rfl) (by kernel_rfl) noPanic_put rfl (.agg (dmC d)) (fun _ hw' => run_dm _ rfl c k rfl l hw'.2 hk' d HDM.out) hS ?_
      simp only [Act.put, List.setIfInBounds_toArray, List.set_cons_zero, List.set_cons_succ]
      refine held_call 8 (some 25) (by kernel_rfl) rfl rfl rfl 27 #[.agg (dmC d), .agg (dmC d)] (by go_simp) _ (eqDatum_any d wr.drew) ?_
      rintro e w2 ⟨rfl, hW2⟩
      have hW2 : Below wr.heap.size wr w2 := ⟨hW2.os, hW2.tape, hW2.output, hW2.size, hW2.block⟩
      have hW3 := hW.trans (hW2.mono hW.size)
      have hS2 : DatAt w2 b l ∧ DatAt w2 c l := ⟨RowAt.below H1.out hW3 hb, RowAt.below H2.out hW3 hc⟩
      refine ⟨_, rfl, hS2, ?_⟩
      simp only [Act.put, List.setIfInBounds_toArray, List.set_cons_zero, List.set_cons_succ]
      refine held_val 9 (some 26) rfl rfl (by kernel_rfl) (by kernel_rfl) (by kernel_rfl) noPanic_put rfl (.bool false) (fun _ => by go_simp) hS2 ?_
      simp only [Act.put, List.setIfInBounds_toArray, List.set_cons_zero, List.set_cons_succ]
      refine wpAnyH_done (by kernel_rfl) ?_ _
      refine NoPanic.normal ?_
      go_wp2
      go_roundg (l.length - (k + 1))
      case measure => omega
      case rel => exact ⟨k + 1, rfl, by omega, by go_num, hW3⟩
    · go_wp2
      go_ret
      exact ⟨rfl, hW⟩
end Go.Proofs.YtmpghgaijphniaaGreatDoor
