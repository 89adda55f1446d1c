/-
  The texts AppDatum, RdWord, DatLaw, DatCopy, RdPut, RdPlain, one behind the other.
-/
import Derived.Test.YtnmofolhfbldjaaGreatDoorPkSeats
import Derived.Test.YtnmofolhfbldjaaGreatDoorPkReadNumA
import Derived.Test.YtnmofolhfbldjaaGreatDoorPkSymbol

/-
  What appendDatum of impl answers, by appendParts; and so both.
-/
namespace Go.Proofs.YtnmofolhfbldjaaGreatDoor
open Go.RowKit
set_option linter.unusedVariables false

theorem own_grown {w w' : World} {B n : Nat} {v : Value} {xs : List Value} {o : Obj} (h : w.ownsRow B 5 1 v n xs) (hg : (w.alloc o).grownBy w' (some w.heap.size)) : w'.ownsRow B 5 1 v n xs := by
  refine ⟨h.1, ?_⟩
  rcases h.2 with h1 | ⟨g, cap, cur, h1, h2, h3, h4⟩
  · exact .inl h1
  · have hlt : g < w.heap.size := (Array.getElem?_eq_some_iff.1 h3).1
    refine .inr ⟨g, cap, cur, h1, h2, ?_, h4⟩
    rw [hg.block g (by simp; omega) (by intro e; injection e; omega), Below.heap_alloc _ _ _ hlt]
    exact h3
theorem own_block {w : World} {B n : Nat} {v : Value} {xs : List Value} (h : w.ownsRow B 5 1 v n xs) (k : Nat) (hk : w.heap.size ≤ k) : some k ≠ v.ownBlock := by
  rcases h.2 with ⟨rfl, _⟩ | ⟨g, cap, cur, rfl, _, h3, _⟩
  · simp [Value.ownBlock]
  · have hlt : g < w.heap.size := (Array.getElem?_eq_some_iff.1 h3).1
    simp [Value.ownBlock]; omega

theorem own_ne {w : World} {B n k : Nat} {v : Value} {xs : List Value} {t : TypeId} {cs : Array Value} (h : w.ownsRow B 5 1 v n xs) (hR : RowAt w k t cs) (ht : t ≠ 5) : some k ≠ v.ownBlock := by
  rcases h.2 with ⟨rfl, _⟩ | ⟨g, cap, cur, rfl, _, h3, _⟩
  · simp [Value.ownBlock]
  · intro e
    simp [Value.ownBlock] at e
    subst e
    unfold RowAt at hR
    rw [h3] at hR
    injection hR with hR
    injection hR with _ h2 _
    exact ht h2.symm

section
variable {ops : Array Oper} {Q : Exit → Act → World → Prop} {md : Region.Mode} {S : World → Prop} {o : Oper} {fuel : Nat} {listed : Array Bool} {a : Act} {w : World}
/-- Bytes are appended, as the one operation of a drawn region that may come up. -/
theorem held_append (i : Nat) (d : Option Tmp) (hr : Region.ready md ops listed = [i]) (hi : ops[i]? = some o) (hw : Region.wanted o (yielded ops a.tmps) = true) (s x : Operand)
    (ho : o.op = .call { callee := .builtin .append, args := #[s, x], argTypes := #[63, 63] }) (hd : o.dst = d) (B : Nat) (v : Value) (n : Nat) (xs : List Value) (hs : a.eval s = v) (hown : w.ownsRow B 5 1 v n xs)
    (ad : Addr) (m c : Nat) (news : List Value) (hx : a.eval x = .slice (some ad) m c) (hl : news.length = m * 1) (hnews : ∀ j u, news[j]? = some u → w.cell? (ad.add j) = some u) (h1 : ∀ u ∈ news, u.oneCell' = true)
    (h63 : n + m ≤ maxLen) (hbytes : (n + m) * 1 ≤ 140737488355328) (hbase : B ≤ w.heap.size)
    (h : ∀ v' w', w'.ownsRow B 5 1 v' (n + m) (xs ++ news) → w.grownBy w' v.ownBlock → S w' ∧ wpAnyH Tryz.prog md ops Q S fuel (listed.setIfInBounds i true) (a.put d v') w') : wpAnyH Tryz.prog md ops Q S (fuel + 1) listed a w := by
  subst hd
  obtain ⟨i0, hi0, hz0, hz1, hz2⟩ := info_parts info_u8
  refine wpAnyH_ready hr (by simp) (AllReadyH.cons hi (fun K hK => ?_) AllReadyH.nil)
  rw [if_pos hw]
  exact wp_append_own w s x 63 ho B 5 i0 (.int .u8 0) 1 1 Tryz.underlying63 hi0 hz0 hz1 hz2 rfl (by decide) v n xs hs hown ad m c news hx hl hnews h1 h63 hbytes hbase (fun v' w' h2 h3 _ => hK.out _ _ (h v' w' h2 h3).1 (fun _ => (h v' w' h2 h3).2))
/-- A string's bytes are appended, likewise. -/
theorem held_append_str (i : Nat) (d : Option Tmp) (hr : Region.ready md ops listed = [i]) (hi : ops[i]? = some o) (hw : Region.wanted o (yielded ops a.tmps) = true) (s x : Operand)
    (ho : o.op = .call { callee := .builtin .append, args := #[s, x], argTypes := #[63, 9] }) (hd : o.dst = d) (B : Nat) (v : Value) (n : Nat) (xs : List Value) (hs : a.eval s = v) (hown : w.ownsRow B 5 1 v n xs)
    (t : ByteArray) (hx : a.eval x = .string t) (h63 : n + t.size ≤ maxLen) (hbytes : n + t.size ≤ 140737488355328) (hbase : B ≤ w.heap.size)
    (h : ∀ v' w', w'.ownsRow B 5 1 v' (n + t.size) (xs ++ Lib.strCells t) → w.grownBy w' v.ownBlock → S w' ∧ wpAnyH Tryz.prog md ops Q S fuel (listed.setIfInBounds i true) (a.put d v') w') : wpAnyH Tryz.prog md ops Q S (fuel + 1) listed a w := by
  subst hd
  obtain ⟨i0, hi0, hz0, hz1, hz2⟩ := info_parts info_u8
  refine wpAnyH_ready hr (by simp) (AllReadyH.cons hi (fun K hK => ?_) AllReadyH.nil)
  rw [if_pos hw]
  obtain ⟨v', w', hrn, h2, h3, _⟩ := Lib.run_append_own_string (P := Tryz.prog) w B 63 9 o.type 5 i0 Tryz.underlying63 Tryz.underlying9 hi0 hz0 hz1 hz2 v n xs hown t h63 hbytes hbase
  unfold Oper.wp execOp
  simp only [ho, resolve, invoke, builtin, Sem.run_bind, Sem.run_pure, Result.andThen_ok, List.map_toArray, List.map_cons, List.map_nil, hs, hx, hrn]
  exact hK.out _ _ (h v' w' h2 h3).1 (fun _ => (h v' w' h2 h3).2)
end

theorem tx_leaf {l : List Dm} {a : Nat} (ha : a < l.length) (t : ByteArray) (ht : t = dt l a) (hq : dk l a = 1 ∨ dk l a = 2) : TX l a = t.data.toList := by
  rw [TX_eq ha, if_neg (by omega), if_neg (by omega), if_pos hq, ht]
theorem tx_str {l : List Dm} {a : Nat} (ha : a < l.length) (t : ByteArray) (ht : t = dt l a) (hq : dk l a = 3) : TX l a = quo t.data.toList := by
  rw [TX_eq ha, if_pos hq, ht]
theorem tx_bool {l : List Dm} {a : Nat} (ha : a < l.length) (t : ByteArray) (ht : t = dt l a) (hq : dk l a = 4) : TX l a = 35 :: t.data.toList := by
  rw [TX_eq ha, if_neg (by omega), if_pos hq, ht]
theorem tx_list {l : List Dm} {a : Nat} (ha : a < l.length) (hq : dk l a = 5 ∨ dk l a = 6) : TX l a = 40 :: (jnK l (TX l) l.length (a : Int) ++ [41]) := by
  rw [TX_eq ha, if_neg (by omega), if_neg (by omega), if_neg (by omega)]
theorem not_list {q : Int} (h : q ≠ 5) (h' : q ≠ 6) : isL q = false := by unfold isL; rw [decide_eq_false h, decide_eq_false h']; rfl

end Go.Proofs.YtnmofolhfbldjaaGreatDoor

/-
  The model's reader: a word, a node put.
-/
namespace Go.Proofs.YtnmofolhfbldjaaGreatDoor
open Go.RowKit
set_option linter.unusedVariables false

set_option maxHeartbeats 1000000 in
set_option maxRecDepth 100000 in
theorem l3Stops_any (c : UInt8) (x : Int) (w : World) (hx : x = (c.toNat : Int)) :
    Calls Tryz.prog 33 #[.int .u8 x] w fun e w' => e = .returned (.bool (stopB c)) ∧ w' = w := by
  have HX := hideT' hx
  clear hx
  by_cases h32 : x = 32
  · have HN : Hid (stopB c = true) := by
      have h2 : c.toNat = 32 := by have := HX.out; omega
      have hc : c = 32 := UInt8.toNat_inj.1 (h2.trans rfl)
      unfold Hid; rw [hc]; decide
    have hb : (x == 32) = true := by rw [h32]; rfl
    clear h32
    go_enter Tryz.func33, Tryz.ntmps33
    go_wp2
    go_ret
    exact ⟨by rw [HN.out]; rfl, rfl⟩
  · by_cases h9 : x = 9
    · have HN : Hid (stopB c = true) := by
        have h2 : c.toNat = 9 := by have := HX.out; omega
        have hc : c = 9 := UInt8.toNat_inj.1 (h2.trans rfl)
        unfold Hid; rw [hc]; decide
      have hb : (x == 9) = true := by rw [h9]; rfl
      have k32 : (x == 32) = false := beq_eq_false_iff_ne.2 h32
      clear h32 h9
      go_enter Tryz.func33, Tryz.ntmps33
      go_wp2
      go_ret
      exact ⟨by rw [HN.out]; rfl, rfl⟩
    · by_cases h10 : x = 10
      · have HN : Hid (stopB c = true) := by
          have h2 : c.toNat = 10 := by have := HX.out; omega
          have hc : c = 10 := UInt8.toNat_inj.1 (h2.trans rfl)
          unfold Hid; rw [hc]; decide
        have hb : (x == 10) = true := by rw [h10]; rfl
        have k32 : (x == 32) = false := beq_eq_false_iff_ne.2 h32
        have k9 : (x == 9) = false := beq_eq_false_iff_ne.2 h9
        clear h32 h9 h10
        go_enter Tryz.func33, Tryz.ntmps33
        go_wp2
        go_ret
        exact ⟨by rw [HN.out]; rfl, rfl⟩
      · by_cases h13 : x = 13
        · have HN : Hid (stopB c = true) := by
            have h2 : c.toNat = 13 := by have := HX.out; omega
            have hc : c = 13 := UInt8.toNat_inj.1 (h2.trans rfl)
            unfold Hid; rw [hc]; decide
          have hb : (x == 13) = true := by rw [h13]; rfl
          have k32 : (x == 32) = false := beq_eq_false_iff_ne.2 h32
          have k9 : (x == 9) = false := beq_eq_false_iff_ne.2 h9
          have k10 : (x == 10) = false := beq_eq_false_iff_ne.2 h10
          clear h32 h9 h10 h13
          go_enter Tryz.func33, Tryz.ntmps33
          go_wp2
          go_ret
          exact ⟨by rw [HN.out]; rfl, rfl⟩
        · by_cases h40 : x = 40
          · have HN : Hid (stopB c = true) := by
              have h2 : c.toNat = 40 := by have := HX.out; omega
              have hc : c = 40 := UInt8.toNat_inj.1 (h2.trans rfl)
              unfold Hid; rw [hc]; decide
            have hb : (x == 40) = true := by rw [h40]; rfl
            have k32 : (x == 32) = false := beq_eq_false_iff_ne.2 h32
            have k9 : (x == 9) = false := beq_eq_false_iff_ne.2 h9
            have k10 : (x == 10) = false := beq_eq_false_iff_ne.2 h10
            have k13 : (x == 13) = false := beq_eq_false_iff_ne.2 h13
            clear h32 h9 h10 h13 h40
            go_enter Tryz.func33, Tryz.ntmps33
            go_wp2
            go_ret
            exact ⟨by rw [HN.out]; rfl, rfl⟩
          · by_cases h41 : x = 41
            · have HN : Hid (stopB c = true) := by
                have h2 : c.toNat = 41 := by have := HX.out; omega
                have hc : c = 41 := UInt8.toNat_inj.1 (h2.trans rfl)
                unfold Hid; rw [hc]; decide
              have hb : (x == 41) = true := by rw [h41]; rfl
              have k32 : (x == 32) = false := beq_eq_false_iff_ne.2 h32
              have k9 : (x == 9) = false := beq_eq_false_iff_ne.2 h9
              have k10 : (x == 10) = false := beq_eq_false_iff_ne.2 h10
              have k13 : (x == 13) = false := beq_eq_false_iff_ne.2 h13
              have k40 : (x == 40) = false := beq_eq_false_iff_ne.2 h40
              clear h32 h9 h10 h13 h40 h41
              go_enter Tryz.func33, Tryz.ntmps33
              go_wp2
              go_ret
              exact ⟨by rw [HN.out]; rfl, rfl⟩
            · by_cases h34 : x = 34
              · have HN : Hid (stopB c = true) := by
                  have h2 : c.toNat = 34 := by have := HX.out; omega
                  have hc : c = 34 := UInt8.toNat_inj.1 (h2.trans rfl)
                  unfold Hid; rw [hc]; decide
                have hb : (x == 34) = true := by rw [h34]; rfl
                have k32 : (x == 32) = false := beq_eq_false_iff_ne.2 h32
                have k9 : (x == 9) = false := beq_eq_false_iff_ne.2 h9
                have k10 : (x == 10) = false := beq_eq_false_iff_ne.2 h10
                have k13 : (x == 13) = false := beq_eq_false_iff_ne.2 h13
                have k40 : (x == 40) = false := beq_eq_false_iff_ne.2 h40
                have k41 : (x == 41) = false := beq_eq_false_iff_ne.2 h41
                clear h32 h9 h10 h13 h40 h41 h34
                go_enter Tryz.func33, Tryz.ntmps33
                go_wp2
                go_ret
                exact ⟨by rw [HN.out]; rfl, rfl⟩
              · by_cases h59 : x = 59
                · have HN : Hid (stopB c = true) := by
                    have h2 : c.toNat = 59 := by have := HX.out; omega
                    have hc : c = 59 := UInt8.toNat_inj.1 (h2.trans rfl)
                    unfold Hid; rw [hc]; decide
                  have hb : (x == 59) = true := by rw [h59]; rfl
                  have k32 : (x == 32) = false := beq_eq_false_iff_ne.2 h32
                  have k9 : (x == 9) = false := beq_eq_false_iff_ne.2 h9
                  have k10 : (x == 10) = false := beq_eq_false_iff_ne.2 h10
                  have k13 : (x == 13) = false := beq_eq_false_iff_ne.2 h13
                  have k40 : (x == 40) = false := beq_eq_false_iff_ne.2 h40
                  have k41 : (x == 41) = false := beq_eq_false_iff_ne.2 h41
                  have k34 : (x == 34) = false := beq_eq_false_iff_ne.2 h34
                  clear h32 h9 h10 h13 h40 h41 h34 h59
                  go_enter Tryz.func33, Tryz.ntmps33
                  go_wp2
                  go_ret
                  exact ⟨by rw [HN.out]; rfl, rfl⟩
                · by_cases h39 : x = 39
                  · have HN : Hid (stopB c = true) := by
                      have h2 : c.toNat = 39 := by have := HX.out; omega
                      have hc : c = 39 := UInt8.toNat_inj.1 (h2.trans rfl)
                      unfold Hid; rw [hc]; decide
                    have hb : (x == 39) = true := by rw [h39]; rfl
                    have k32 : (x == 32) = false := beq_eq_false_iff_ne.2 h32
                    have k9 : (x == 9) = false := beq_eq_false_iff_ne.2 h9
                    have k10 : (x == 10) = false := beq_eq_false_iff_ne.2 h10
                    have k13 : (x == 13) = false := beq_eq_false_iff_ne.2 h13
                    have k40 : (x == 40) = false := beq_eq_false_iff_ne.2 h40
                    have k41 : (x == 41) = false := beq_eq_false_iff_ne.2 h41
                    have k34 : (x == 34) = false := beq_eq_false_iff_ne.2 h34
                    have k59 : (x == 59) = false := beq_eq_false_iff_ne.2 h59
                    clear h32 h9 h10 h13 h40 h41 h34 h59 h39
                    go_enter Tryz.func33, Tryz.ntmps33
                    go_wp2
                    go_ret
                    exact ⟨by rw [HN.out]; rfl, rfl⟩
                  · have HN : Hid (stopB c = false) := by
                      unfold Hid stopB
                      have hc : ∀ n : Nat, n < 256 → x ≠ (n : Int) → (c == UInt8.ofNat n) = false := fun n hn hne => by
                        rw [beq_eq_false_iff_ne]; intro e; apply hne; rw [HX.out, e]; simp; omega
                      have e1 := hc 32 (by decide) h32
                      have e2 := hc 9 (by decide) h9
                      have e3 := hc 10 (by decide) h10
                      have e4 := hc 13 (by decide) h13
                      have e5 := hc 40 (by decide) h40
                      have e6 := hc 41 (by decide) h41
                      have e7 := hc 34 (by decide) h34
                      have e8 := hc 59 (by decide) h59
                      have e9 := hc 39 (by decide) h39
                      have f : ∀ a b : UInt8, a = b → ((c == a) = (c == b)) := fun a b e => by rw [e]
                      rw [f 32 (UInt8.ofNat 32) rfl, e1, f 9 (UInt8.ofNat 9) rfl, e2, f 10 (UInt8.ofNat 10) rfl, e3, f 13 (UInt8.ofNat 13) rfl, e4, f 40 (UInt8.ofNat 40) rfl, e5, f 41 (UInt8.ofNat 41) rfl, e6, f 34 (UInt8.ofNat 34) rfl, e7, f 59 (UInt8.ofNat 59) rfl, e8, f 39 (UInt8.ofNat 39) rfl, e9]; rfl
                    have k32 : (x == 32) = false := beq_eq_false_iff_ne.2 h32
                    have k9 : (x == 9) = false := beq_eq_false_iff_ne.2 h9
                    have k10 : (x == 10) = false := beq_eq_false_iff_ne.2 h10
                    have k13 : (x == 13) = false := beq_eq_false_iff_ne.2 h13
                    have k40 : (x == 40) = false := beq_eq_false_iff_ne.2 h40
                    have k41 : (x == 41) = false := beq_eq_false_iff_ne.2 h41
                    have k34 : (x == 34) = false := beq_eq_false_iff_ne.2 h34
                    have k59 : (x == 59) = false := beq_eq_false_iff_ne.2 h59
                    have k39 : (x == 39) = false := beq_eq_false_iff_ne.2 h39
                    clear h32 h9 h10 h13 h40 h41 h34 h59 h39
                    go_enter Tryz.func33, Tryz.ntmps33
                    go_wp2
                    go_ret
                    exact ⟨by rw [HN.out]; rfl, rfl⟩

set_option maxHeartbeats 2000000 in
set_option maxRecDepth 100000 in
theorem word_any (b : Nat) (s : ByteArray) (a : Nat) (c : Int) (v : Value) (w : World) (hs : s.size ≤ 1500) (ha : a ≤ s.size) (hR : RAt w b s (a : Int) v c) :
    Calls Tryz.prog 21 #[.pointer (some ⟨b, 0, none⟩)] w fun e w' => e = .returned (.string (s.extract a (wordP s a))) ∧ RAt w' b s (wordP s a : Int) v c ∧ w.grownBy w' (some b) ∧ w'.heap.size = w.heap.size := by
  have a0 := r_0 hR
  have a1 := r_1 hR
  have HWL := hideT' (wordP_le s a ha)
  go_enter Tryz.func21, Tryz.ntmps21
  go_wp2_with fail
  go_loopg [] (s.size - a) (fun g wr => ∃ k : Nat, g = s.size - k ∧ k ≤ s.size ∧ Hid (wordP s k = wordP s a) ∧ RAt wr b s (k : Int) v c ∧ w.grownBy wr (some b) ∧ Aside (wr.heap.size = w.heap.size))
  case atStart => exact ⟨a, rfl, ha, rfl, hR, grown_refl _ _, rfl⟩
  case round =>
    obtain ⟨k, hg, hk, HK, hRr, hG, hZ⟩ := hrel
    have c0 := r_0 hRr
    have c1 := r_1 hRr
    clear hR a0 a1
    have FIN : Hid (wordP s a = k → (a : Int) ≤ (k : Int) ∧ (k : Int) ≤ (s.size : Int)) := fun e => by have := HWL.out; omega
    by_cases hlt : (k : Int) < (s.size : Int)
    · have hk' : k < s.size := by omega
      have HB := hideT' (byteAt_eq hk')
      cases hst : stopB s[k] with
      | false =>
        have HN : Hid (wordP s (k + 1) = wordP s a) := by unfold Hid; rw [← HK.out, word_step hk', HB.out, hst]; rfl
        have HST := hideT' hst
        clear hst
        go_wp2_with fail
        go_quiet ((go_at_call 33; exact Calls.quiet_of_same (l3Stops_any s[k] _ _ rfl)))
        rw [HST.out]
        go_wp2_with (refine store_at rfl 3 _ _ rfl rfl b 1 (.int .i64 ((k : Int) + 1)) rfl rfl one_int rfl 36 (rC s k v c) hRr (show 1 < 4 by omega) ?_; intro w1 hR1 hg1 hs1)
        go_roundg (s.size - (k + 1))
        case measure => omega
        case rel => exact ⟨k + 1, rfl, by omega, HN, hR1, grown_trans hG (grown_ahead _ hg1), by have := hZ.out; unfold Aside; rw [hs1]; exact this⟩
      | true =>
        have HN : Hid (wordP s a = k) := by unfold Hid; rw [← HK.out, word_step hk', HB.out, hst]; rfl
        have HST := hideT' hst
        obtain ⟨f1, f2⟩ := FIN.out HN.out
        clear hst
        go_wp2_with fail
        go_quiet ((go_at_call 33; exact Calls.quiet_of_same (l3Stops_any s[k] _ _ rfl)))
        rw [HST.out]
        go_wp2_with fail
        go_quiet (fail)
        go_wp2
        go_ret
        exact ⟨by rw [HN.out]; rfl, by rw [HN.out]; exact hRr, grown_drewN (grown_drewN hG _) _, hZ.out⟩
    · have hke : k = s.size := by omega
      have HN : Hid (wordP s a = k) := by unfold Hid; rw [← HK.out, word_end hke]
      obtain ⟨f1, f2⟩ := FIN.out HN.out
      subst hke
      go_wp2_with fail
      go_quiet (fail)
      go_wp2_with fail
      go_quiet (fail)
      go_wp2
      go_ret
      exact ⟨by rw [HN.out]; rfl, by rw [HN.out]; exact hRr, grown_drewN (grown_drewN hG _) _, hZ.out⟩
end Go.Proofs.YtnmofolhfbldjaaGreatDoor

/-
  What the laws' own helpers over data answer.
-/
namespace Go.Proofs.YtnmofolhfbldjaaGreatDoor
open Go.RowKit
set_option linter.unusedVariables false

/-- Data that came in: their cells. -/
def ArgAt (w : World) (a : Addr) (l : List Dm) : Prop := ∀ i j v, i < l.length → (dmL (l.getD i default))[j]? = some v → w.cell? ((a.add (i * 3)).add j) = some v
section
variable {P : Program}
theorem run_loadVar_addr (w : World) (a : Addr) (ty : TypeId) (cs : List Value) (d : TypeDesc) (hc : ∀ j v, cs[j]? = some v → w.cell? (a.add j) = some v)
    (hu : P.underlying ty = some d) (hd : d.isRow = true) (hi : (P.info? ty).map (·.size) = some cs.length) :
    (loadVar ty a).run P w = .ok (.agg cs.toArray) w := by
  have hl : (loadCells a cs.length).run P w = .ok cs.toArray w := run_loadCells_list (P := P) w a cs hc
  cases hq : P.info? ty with
  | none => simp [hq] at hi
  | some i =>
    have hs : i.size = cs.length := by simpa [hq] using hi
    have hagg : (isAgg ty).run P w = .ok true w := by
      unfold isAgg
      rw [Sem.run_bind, run_underlying hu w]
      cases d <;> simp_all
    simp [loadVar, Sem.run_bind, hagg, sizeOf, typeInfo, hq, hs, hl]
end
/-- A slice of data that came in. -/
def SlIn (w : World) (v : Value) (l : List Dm) : Prop := (v = .slice none 0 0 ∧ l = []) ∨ ∃ (a : Addr) (cap : Nat), v = .slice (some a) l.length cap ∧ ArgAt w a l ∧ (0 < l.length → a.block < w.heap.size)
theorem SlIn.below {w w' : World} {v : Value} {l : List Dm} (h : SlIn w v l) (hB : Below w.heap.size w w') : SlIn w' v l := by
  rcases h with h | ⟨a, cap, rfl, h, hb⟩
  · exact .inl h
  · refine .inr ⟨a, cap, rfl, fun i j u hi hv => ?_, fun hl => Nat.lt_of_lt_of_le (hb hl) hB.size⟩
    rw [hB.cell (by
      have := hb (by omega)
      unfold Addr.add; split <;> split <;> exact this)]
    exact h i j u hi hv

end Go.Proofs.YtnmofolhfbldjaaGreatDoor

/-
  The laws' copies of data, and whether two are the same.
-/
namespace Go.Proofs.YtnmofolhfbldjaaGreatDoor
open Go.RowKit
set_option linter.unusedVariables false

theorem datC_set (l : List Dm) (i : Nat) (d : Dm) (hi : i < l.length) : datC (l.set i d) = ((l.take i).flatMap dmL ++ dmL d ++ (l.drop (i + 1)).flatMap dmL).toArray := by
  unfold datC
  rw [List.set_eq_take_append_cons_drop, if_pos hi, List.flatMap_append, List.flatMap_cons, List.append_assoc]
theorem datC_split (l : List Dm) (i : Nat) (hi : i < l.length) : datC l = ((l.take i).flatMap dmL ++ dmL l[i] ++ (l.drop (i + 1)).flatMap dmL).toArray := by
  have := datC_set l i l[i] hi
  rwa [List.set_getElem_self] at this
/-- A node of a row is written. -/
theorem store_dm {ops : Array Oper} {rest : List Oper} {op : Oper} {a : Act} {w : World} {Q : Exit → Act → World → Prop} (hgd : op.guard = none) (x y : Operand) (ho : op.op = .store 39 x y) (hd : op.dst = none)
    (b i : Nat) (d : Dm) (hx : a.eval x = .pointer (some ⟨b, i * 3, none⟩)) (hy : a.eval y = .agg (dmC d)) (l : List Dm) (hD : DatAt w b l) (hi : i < l.length)
    (h : ∀ w', DatAt w' b (l.set i d) → w.grownBy w' (some b) → w'.heap.size = w.heap.size → wpList Tryz.prog ops Q rest a w') : wpList Tryz.prog ops Q (op :: rest) a w := by
  have hD' : RowAt w b 39 ((l.take i).flatMap dmL ++ dmL l[i] ++ (l.drop (i + 1)).flatMap dmL).toArray := by rw [← datC_split l i hi]; exact hD
  have hlen : ((l.take i).flatMap dmL).length = i * 3 := by rw [dat_len, List.length_take]; omega
  have hth := RowAt.there hD'
  rw [hlen] at hth
  refine wpList_store_mid hgd 39 x y ho b (i * 3) (dmC d) hx hy hth zero_dm.2 (dmC_one d) ?_
  have e : a.put op.dst undef = a := by rw [hd]; rfl
  rw [e]
  have hput := RowAt.put (dmL d) (i * 3) w ((l.take i).flatMap dmL) (dmL l[i]) ((l.drop (i + 1)).flatMap dmL) rfl hlen hD'
  rw [← datC_set l i d hi] at hput
  refine h _ hput ⟨?_, ?_, ?_, ?_, ?_⟩ ?_
  · rfl
  · rfl
  · rfl
  · simp [World.setCells, dmC, dmL]
  · intro k _ hne
    simp only [World.setCells, dmC, dmL]
    have hk : k ≠ b := fun e => hne (by rw [e])
    rw [Below.heap_setCell _ _ _ _ hk, Below.heap_setCell _ _ _ _ hk, Below.heap_setCell _ _ _ _ hk]
  · simp [World.setCells, dmC, dmL]

theorem info_dm : (Tryz.prog.info? 39).map (fun i => (i.zero, i.size, i.bytes)) = some (some (.agg #[.int .i64 0, .string ⟨#[]⟩, .int .i64 0]), 3, 32) := by kernel_rfl
theorem run_make_data (n : Nat) (hn : n ≤ 1048576) (w : World) : (Instr.makeSlice 23 (.int .i64 (n : Int)) (.int .i64 (n : Int))).run Tryz.prog w = .ok (.slice (some ⟨w.heap.size, 0, none⟩) n n) (w.alloc (.cells (madeCells #[.int .i64 0, .string ⟨#[]⟩, .int .i64 0] (n * 3)) 39)) := by
  obtain ⟨i, hi, hzz⟩ := Option.map_eq_some_iff.1 info_dm
  simp only [Prod.mk.injEq] at hzz
  obtain ⟨hz, hs, hb⟩ := hzz
  have hr := run_make (P := Tryz.prog) w 23 39 i _ Tryz.underlying23 hi hz .i64 .i64 n n (by omega) (Int.le_refl _) (by rw [hb]; omega) (by omega)
  simp only [Int.toNat_natCast, hs] at hr
  exact hr
theorem made_dat (n : Nat) : madeCells #[.int .i64 0, .string ⟨#[]⟩, .int .i64 0] (n * 3) = datC (List.replicate n default) := by
  apply Array.ext_getElem?
  intro i
  by_cases hi : i < n * 3
  · have hr : (Array.range (n * 3))[i]? = some i := by rw [Array.getElem?_eq_getElem (by rw [Array.size_range]; omega), Array.getElem_range]
    have h1 := flat_get (List.replicate n default) (i / 3) (i % 3) (by simp; omega) (by omega)
    rw [show 3 * (i / 3) + i % 3 = i by omega] at h1
    have h2 : (datC (List.replicate n default))[i]? = (dmL default)[i % 3]? := by unfold datC; rw [List.getElem?_toArray, h1, List.getElem_replicate]
    rw [h2]
    simp only [madeCells, Array.getElem?_map, hr, Option.map_some]
    rcases (by omega : i % 3 = 0 ∨ i % 3 = 1 ∨ i % 3 = 2) with e | e | e
    all_goals rw [show i % (#[Value.int .i64 0, .string ⟨#[]⟩, .int .i64 0] : Array Value).size = i % 3 from rfl, e]; rfl
  · rw [Array.getElem?_eq_none (by rw [size_madeCells]; omega), Array.getElem?_eq_none]
    unfold datC
    rw [List.size_toArray, dat_len, List.length_replicate]; omega

theorem take_set (l : List Dm) (k : Nat) (hk : k < l.length) : (l.take k ++ List.replicate (l.length - k) default).set k l[k] = l.take (k + 1) ++ List.replicate (l.length - (k + 1)) default := by
  have h1 : (l.take k).length = k := by rw [List.length_take]; omega
  obtain ⟨m, hm⟩ : ∃ m, l.length - k = m + 1 := ⟨l.length - k - 1, by omega⟩
  rw [hm, List.replicate_succ, List.set_append_right _ _ (by omega), h1, Nat.sub_self, List.set_cons_zero, List.take_succ_eq_append_getElem hk, show l.length - (k + 1) = m by omega, List.append_assoc]
  rfl

theorem run_dm {o : Oper} {a : Act} {w : World} (x : Operand) (ho : o.op = .load 39 x) (b i : Nat) (hx : a.eval x = .pointer (some ⟨b, i * 3, none⟩)) (l : List Dm) (hD : DatAt w b l) (hi : i < l.length) (d : Dm) (hd : l.getD i default = d) :
    (execOp a.eval o).run Tryz.prog w = .ok (.value (.agg (dmC d))) w := by
  subst hd
  have h := run_loadAt_mid (P := Tryz.prog) w b (i * 3) 39 (dmL (l.getD i default)) _ (dat_range hD hi) Tryz.underlying39 rfl zero_dm.2
  unfold execOp
  simp only [ho, hx, Sem.run_bind, h, Result.andThen_ok]
  rfl

end Go.Proofs.YtnmofolhfbldjaaGreatDoor

/-
  The model's reader: its state, and a node put.
-/
namespace Go.Proofs.YtnmofolhfbldjaaGreatDoor
open Go.RowKit
set_option linter.unusedVariables false

/-- The reader's state: where it is, the nodes, the code. -/
def St (w : World) (B b : Nat) (s : ByteArray) (a : Int) (out : List Dm) (c : Int) : Prop :=
  B ≤ b ∧ ∃ v, RAt w b s a v c ∧ w.ownsRow B 39 3 v out.length (out.flatMap dmL)
theorem own3_ne {w : World} {B n k : Nat} {v : Value} {xs : List Value} {t : TypeId} {cs : Array Value} (h : w.ownsRow B 39 3 v n xs) (hR : RowAt w k t cs) (ht : t ≠ 39) : some k ≠ v.ownBlock := by
  rcases h.2 with ⟨rfl, _⟩ | ⟨g, cap, cur, rfl, _, h3, _⟩
  · simp [Value.ownBlock]
  · intro e
    simp [Value.ownBlock] at e
    subst e
    unfold RowAt at hR
    rw [h3] at hR
    injection hR with hR
    injection hR with _ h2 _
    exact ht h2.symm
theorem own3_grown {w w' : World} {B n k : Nat} {v : Value} {xs : List Value} (h : w.ownsRow B 39 3 v n xs) (hg : w.grownBy w' (some k)) (hk : some k ≠ v.ownBlock) : w'.ownsRow B 39 3 v n xs := by
  refine ⟨h.1, ?_⟩
  rcases h.2 with h1 | ⟨g, cap, cur, rfl, h2, h3, h4⟩
  · exact .inl h1
  · refine .inr ⟨g, cap, cur, rfl, h2, ?_, h4⟩
    rw [hg.block g (Array.getElem?_eq_some_iff.1 h3).1 (fun e => hk (by rw [← e]; rfl))]
    exact h3
theorem own3_ge {w : World} {B n : Nat} {v : Value} {xs : List Value} (h : w.ownsRow B 39 3 v n xs) {k : Nat} (hk : v.ownBlock = some k) : B ≤ k := by
  rcases h.2 with ⟨rfl, _⟩ | ⟨g, cap, cur, rfl, hg, _⟩
  · simp [Value.ownBlock] at hk
  · simp [Value.ownBlock] at hk; omega
theorem own3_form {w : World} {B n : Nat} {v : Value} {xs : List Value} (h : w.ownsRow B 39 3 v n xs) : ∃ o cap, v = .slice o n cap := by
  rcases h.2 with ⟨rfl, rfl⟩ | ⟨g, cap, cur, rfl, _⟩
  · exact ⟨none, 0, rfl⟩
  · exact ⟨_, _, rfl⟩
/-- Only the reader's own cells have turned. -/
theorem St.own {w w' : World} {B b : Nat} {s : ByteArray} {a a' c c' : Int} {v : Value} {out : List Dm} (hB : B ≤ b) (hR : RAt w b s a v c) (ho : w.ownsRow B 39 3 v out.length (out.flatMap dmL)) (hR' : RAt w' b s a' v c') (hg : w.grownBy w' (some b)) : St w' B b s a' out c' ∧ Below B w w' :=
  ⟨⟨hB, v, hR', own3_grown ho hg (own3_ne ho hR (by decide))⟩, (Below.refl B w).grown hg (by have := RowAt.lt hR; omega) (by intro k hk; injection hk; omega)⟩

theorem skip_st (B b : Nat) (s : ByteArray) (a : Nat) (c : Int) (out : List Dm) (w : World) (hs : s.size ≤ 1500) (ha : a ≤ s.size) (h : St w B b s (a : Int) out c) :
    Calls Tryz.prog 10 #[.pointer (some ⟨b, 0, none⟩)] w fun e w' => e = .returned (.tuple #[]) ∧ St w' B b s (skipP s a : Int) out c ∧ Below B w w' := by
  obtain ⟨hB, v, hR, ho⟩ := h
  refine (skip_any b s a c v w hs ha hR).mono ?_
  rintro e w' ⟨rfl, hR', hg, _⟩
  exact ⟨rfl, St.own hB hR ho hR' hg⟩
theorem bad_st (B b : Nat) (s : ByteArray) (a c k : Int) (out : List Dm) (w : World) (h : St w B b s a out c) :
    Calls Tryz.prog 17 #[.pointer (some ⟨b, 0, none⟩), .int .i64 k] w fun e w' => e = .returned (.tuple #[]) ∧ St w' B b s a out (cod c k) ∧ Below B w w' := by
  obtain ⟨hB, v, hR, ho⟩ := h
  refine (bad_any b s a c k v w hR).mono ?_
  rintro e w' ⟨rfl, hR', hg, _⟩
  exact ⟨rfl, St.own hB hR ho hR' hg⟩
theorem word_st (B b : Nat) (s : ByteArray) (a : Nat) (c : Int) (out : List Dm) (w : World) (hs : s.size ≤ 1500) (ha : a ≤ s.size) (h : St w B b s (a : Int) out c) :
    Calls Tryz.prog 21 #[.pointer (some ⟨b, 0, none⟩)] w fun e w' => e = .returned (.string (s.extract a (wordP s a))) ∧ St w' B b s (wordP s a : Int) out c ∧ Below B w w' := by
  obtain ⟨hB, v, hR, ho⟩ := h
  refine (word_any b s a c v w hs ha hR).mono ?_
  rintro e w' ⟨rfl, hR', hg, _⟩
  exact ⟨rfl, St.own hB hR ho hR' hg⟩

/-- A node beyond what may be. -/
def fullB (out : List Dm) (k deep : Int) : Bool := decide (out.length = 300) || (isL k && decide (deep = 25))
/-- A node put: its number, the nodes, the code. -/
def putP (out : List Dm) (c : Int) (d : Dm) (deep : Int) : Int × List Dm × Int := if c ≠ 0 then (0, out, c) else if fullB out d.k deep then (0, out, 4) else ((out.length : Int), out ++ [d], 0)
theorem put_code {out : List Dm} {c : Int} {d : Dm} {deep : Int} (h : c ≠ 0) : putP out c d deep = (0, out, c) := by unfold putP; rw [if_pos h]
theorem put_full {out : List Dm} {d : Dm} {deep : Int} (h : fullB out d.k deep = true) : putP out 0 d deep = (0, out, 4) := by unfold putP; rw [if_neg (by simp), if_pos h]
theorem put_ok {out : List Dm} {d : Dm} {deep : Int} (h : fullB out d.k deep = false) : putP out 0 d deep = ((out.length : Int), out ++ [d], 0) := by unfold putP; rw [if_neg (by simp), h]; rfl
theorem one_sl : (Tryz.prog.info? 23).map (·.size) = some 1 := by kernel_rfl
theorem three_cells (w : World) (d : Dm) : ∀ j u, (dmL d)[j]? = some u → (w.alloc (.cells (dmC d) 39)).cell? ((⟨w.heap.size, 0, none⟩ : Addr).add j) = some u := fun j u h => by
  have e : (⟨w.heap.size, 0, none⟩ : Addr).add j = ⟨w.heap.size, j, none⟩ := by unfold Addr.add; split <;> simp_all
  rw [e, cell_of_row _ w.heap.size j (dmC d) 39 (0, 0) (heap_alloc_new _ _)]
  simpa [dmC] using h
theorem dmL_one (d : Dm) : ∀ u ∈ dmL d, u.oneCell' = true := by
  intro u hu; simp [dmL] at hu; rcases hu with rfl | rfl | rfl <;> rfl

set_option maxHeartbeats 2000000 in
set_option maxRecDepth 100000 in
theorem put_any (B b : Nat) (s : ByteArray) (a c : Int) (out : List Dm) (k : Int) (t : ByteArray) (u deep : Int) (w : World) (hn : out.length ≤ 300) (h : St w B b s a out c) :
    Calls Tryz.prog 19 #[.pointer (some ⟨b, 0, none⟩), .int .i64 k, .string t, .int .i64 u, .int .i64 deep] w fun e w' => e = .returned (.int .i64 (putP out c ⟨k, t, u⟩ deep).1) ∧ St w' B b s a (putP out c ⟨k, t, u⟩ deep).2.1 (putP out c ⟨k, t, u⟩ deep).2.2 ∧ Below B w w' := by
  obtain ⟨hB, v, hR, ho⟩ := h
  obtain ⟨o, cap, rfl⟩ := own3_form ho
  have hbl := RowAt.lt hR
  have c2 := r_2 hR
  have c3 := r_3 hR
  obtain ⟨n, hnn⟩ : ∃ n, n = out.length := ⟨_, rfl⟩
  have HNN := hideT' hnn
  rw [← hnn] at hn c2
  have HO : Hid (w.ownsRow B 39 3 (.slice o n cap) n (out.flatMap dmL)) := by unfold Hid; rw [hnn]; exact ho
  have HR : Hid (RAt w b s a (.slice o n cap) c) := by unfold Hid; rw [hnn]; exact hR
  have HS : Hid (St w B b s a out c) := ⟨hB, _, hR, ho⟩
  obtain ⟨i0, hi, hz0, hz1, hz2⟩ := info_parts info_dm
  clear hR ho hnn
  by_cases hc0 : c = 0
  · subst hc0
    by_cases h300 : n = 300
    · have HP := hideT' (put_full (out := out) (d := ⟨k, t, u⟩) (deep := deep) (by unfold fullB; rw [← HNN.out, decide_eq_true h300]; rfl))
      have h3' : ((n : Int) == 300) = true := by rw [h300]; rfl
      clear h300
      go_enter Tryz.func19, Tryz.ntmps19
      go_wp2_with fail
      refine (bad_st B b s a 0 4 out w HS.out).mono ?_
      rintro e w1 ⟨rfl, ⟨_, v1, hR1, ho1⟩, hW1⟩
      have c3' := r_3 hR1
      have e4 : cod 0 4 = 4 := rfl
      rw [e4] at c3' hR1
      go_wp2
      go_ret
      exact ⟨by rw [HP.out]; rfl, by rw [HP.out]; exact ⟨hB, v1, hR1, ho1⟩, hW1⟩
    · have h3' : ((n : Int) == 300) = false := beq_eq_false_iff_ne.2 (by omega)
      have h3d : decide (out.length = 300) = false := decide_eq_false (by rw [← HNN.out]; exact h300)
      have H3D := hideT' h3d
      clear h300 h3d
      go_enter Tryz.func19, Tryz.ntmps19
      go_wp2_with fail
      refine (l3IsList_any _ _).mono ?_
      rintro e w9 ⟨rfl, he9⟩
      rw [he9]
      clear he9 w9
      by_cases hfl : isL k = true ∧ deep = 25
      · obtain ⟨hf1, hf2⟩ := hfl
        have HP := hideT' (put_full (out := out) (d := ⟨k, t, u⟩) (deep := deep) (by unfold fullB; rw [H3D.out, hf1, decide_eq_true hf2]; rfl))
        rw [hf1]
        subst hf2
        clear hf1
        go_wp2_with fail
        refine (bad_st B b s a 0 4 out _ HS.out).mono ?_
        rintro e w1 ⟨rfl, ⟨_, v1, hR1, ho1⟩, hW1⟩
        have c3' := r_3 hR1
        have e4 : cod 0 4 = 4 := rfl
        rw [e4] at c3' hR1
        go_wp2
        go_ret
        exact ⟨by rw [HP.out]; rfl, by rw [HP.out]; exact ⟨hB, v1, hR1, ho1⟩, hW1⟩
      · have HP := hideT' (put_ok (out := out) (d := ⟨k, t, u⟩) (deep := deep) (by
          unfold fullB
          rw [H3D.out, Bool.false_or, Bool.and_eq_false_iff]
          by_cases e : isL k = true
          · exact .inr (decide_eq_false (fun h => hfl ⟨e, h⟩))
          · exact .inl (by simpa using e)))
        cases hl : isL k with
        | false =>
          clear hl hfl
          go_wp2_with (first | (at_builtin; refine wpList_append_own _ rfl _ _ 23 rfl B 39 i0 (.agg #[.int .i64 0, .string ⟨#[]⟩, .int .i64 0]) 3 32 Tryz.underlying23 hi hz0 hz1 hz2 rfl (by decide) _ _ _ rfl (HO.out.alloc _) ⟨w.heap.size, 0, none⟩ 1 1 (dmL ⟨k, t, u⟩) rfl rfl (three_cells w ⟨k, t, u⟩) (dmL_one _) (by unfold maxLen; omega) (by omega) (by simp; omega) ?_; intro v2 w2 hv2 hg2 _; obtain ⟨o2, cap2, rfl⟩ := own3_form hv2; have hR2 : RAt w2 b s a (.slice o n cap) 0 := RowAt.grown (RowAt.old HR.out _) hg2 (own3_ne HO.out HR.out (by decide))) | (refine store_at rfl 23 _ _ rfl rfl b 2 (.slice o2 (n + 1) cap2) rfl rfl one_sl rfl 36 (rC s a (.slice o n cap) 0) hR2 (show 2 < 4 by omega) ?_; intro w3 hR3 hg3 hs3; have c2' := r_2 (show RAt w3 b s a (.slice o2 (n + 1) cap2) 0 from hR3)))
          go_ret
          have hB2 : Below B w w2 := ((Below.refl B w).alloc (by omega) _).grown hg2 (by simp; omega) (fun k hk => own3_ge HO.out hk)
          have hB3 : Below B w w3 := hB2.grown hg3 (by have := hB2.size; omega) (by intro k hk; injection hk; omega)
          have hv3 := own3_grown hv2 hg3 (own3_ne hv2 hR2 (by decide))
          refine ⟨by rw [HP.out, ← HNN.out]; rfl, ?_, hB3⟩
          rw [HP.out]
          refine ⟨hB, _, hR3, ?_⟩
          rw [List.flatMap_append, List.length_append, ← HNN.out]
          simpa using hv3
        | true =>
          have hd25 : (deep == 25) = false := beq_eq_false_iff_ne.2 (fun h => hfl ⟨hl, h⟩)
          clear hl hfl
          go_wp2_with (first | (at_builtin; refine wpList_append_own _ rfl _ _ 23 rfl B 39 i0 (.agg #[.int .i64 0, .string ⟨#[]⟩, .int .i64 0]) 3 32 Tryz.underlying23 hi hz0 hz1 hz2 rfl (by decide) _ _ _ rfl (HO.out.alloc _) ⟨w.heap.size, 0, none⟩ 1 1 (dmL ⟨k, t, u⟩) rfl rfl (three_cells w ⟨k, t, u⟩) (dmL_one _) (by unfold maxLen; omega) (by omega) (by simp; omega) ?_; intro v2 w2 hv2 hg2 _; obtain ⟨o2, cap2, rfl⟩ := own3_form hv2; have hR2 : RAt w2 b s a (.slice o n cap) 0 := RowAt.grown (RowAt.old HR.out _) hg2 (own3_ne HO.out HR.out (by decide))) | (refine store_at rfl 23 _ _ rfl rfl b 2 (.slice o2 (n + 1) cap2) rfl rfl one_sl rfl 36 (rC s a (.slice o n cap) 0) hR2 (show 2 < 4 by omega) ?_; intro w3 hR3 hg3 hs3; have c2' := r_2 (show RAt w3 b s a (.slice o2 (n + 1) cap2) 0 from hR3)))
          go_ret
          have hB2 : Below B w w2 := ((Below.refl B w).alloc (by omega) _).grown hg2 (by simp; omega) (fun k hk => own3_ge HO.out hk)
          have hB3 : Below B w w3 := hB2.grown hg3 (by have := hB2.size; omega) (by intro k hk; injection hk; omega)
          have hv3 := own3_grown hv2 hg3 (own3_ne hv2 hR2 (by decide))
          refine ⟨by rw [HP.out, ← HNN.out]; rfl, ?_, hB3⟩
          rw [HP.out]
          refine ⟨hB, _, hR3, ?_⟩
          rw [List.flatMap_append, List.length_append, ← HNN.out]
          simpa using hv3
  · have HP := hideT' (put_code (out := out) (d := ⟨k, t, u⟩) (deep := deep) hc0)
    have hc' : (c != 0) = true := by simpa using hc0
    have HC4 : Hid (cod c 4 = c) := if_neg hc0
    have FIN : Hid (∀ w1, St w1 B b s a out c → St w1 B b s a (putP out c ⟨k, t, u⟩ deep).2.1 (putP out c ⟨k, t, u⟩ deep).2.2) := fun w1 h => by rw [HP.out]; exact h
    clear hc0
    by_cases h300 : n = 300
    · have h3' : ((n : Int) == 300) = true := by rw [h300]; rfl
      clear h300
      go_enter Tryz.func19, Tryz.ntmps19
      go_wp2_with fail
      refine (bad_st B b s a c 4 out w HS.out).mono ?_
      rintro e w1 ⟨rfl, hS1, hW1⟩
      rw [HC4.out] at hS1
      have HS1 := hideT' hS1
      obtain ⟨_, v1, hR1, ho1⟩ := hS1
      have c3' := r_3 hR1
      go_wp2
      go_ret
      exact ⟨by rw [HP.out]; rfl, FIN.out _ HS1.out, hW1⟩
    · have h3' : ((n : Int) == 300) = false := beq_eq_false_iff_ne.2 (by omega)
      clear h300
      go_enter Tryz.func19, Tryz.ntmps19
      go_wp2_with fail
      refine (l3IsList_any _ _).mono ?_
      rintro e w9 ⟨rfl, he9⟩
      rw [he9]
      clear he9 w9
      cases hl : isL k with
      | false =>
        clear hl
        go_wp2
        go_ret
        exact ⟨by rw [HP.out]; rfl, FIN.out _ HS.out, Below.refl _ _⟩
      | true =>
        clear hl
        by_cases hd : deep = 25
        · subst hd
          go_wp2_with fail
          refine (bad_st B b s a c 4 out _ HS.out).mono ?_
          rintro e w1 ⟨rfl, hS1, hW1⟩
          rw [HC4.out] at hS1
          have HS1 := hideT' hS1
          obtain ⟨_, v1, hR1, ho1⟩ := hS1
          have c3' := r_3 hR1
          go_wp2
          go_ret
          exact ⟨by rw [HP.out]; rfl, FIN.out _ HS1.out, hW1⟩
        · have hd25 : (deep == 25) = false := beq_eq_false_iff_ne.2 hd
          clear hd
          go_wp2
          go_ret
          exact ⟨by rw [HP.out]; rfl, FIN.out _ HS.out, Below.refl _ _⟩
end Go.Proofs.YtnmofolhfbldjaaGreatDoor

/-
  What both readers read: the plain reader, with fuel.
-/
namespace Go.Proofs.YtnmofolhfbldjaaGreatDoor
open Go.RowKit
set_option linter.unusedVariables false

/-- The text of the number that a word tells. -/
noncomputable def numTx (s : ByteArray) : ByteArray := by
  classical
  exact if h : ∃ t : ByteArray, ∃ o : Bool, ReadAns s (.returned (.tuple #[.string t, .bool o])) then h.choose else ⟨#[]⟩
theorem readAns_eq {s : ByteArray} {e : Ending} (h : ReadAns s e) : e = .returned (.tuple #[.string (numTx s), .bool (numF s.data.toList)]) := by
  obtain ⟨t, rfl⟩ := h.flag
  have hx : ∃ t : ByteArray, ∃ o : Bool, ReadAns s (.returned (.tuple #[.string t, .bool o])) := ⟨t, _, h⟩
  have e1 : numTx s = hx.choose := by unfold numTx; rw [dif_pos hx]
  obtain ⟨o, ho⟩ := hx.choose_spec
  obtain ⟨t', o', e2, e3⟩ := ReadAns.same h ho
  rw [e1]
  rw [e2]
  simp only [Ending.returned.injEq, Value.tuple.injEq] at e2 e3
  have f2 := congrArg (fun a : Array Value => a.toList) e2
  have f3 := congrArg (fun a : Array Value => a.toList) e3
  simp only [List.cons.injEq, Value.string.injEq, Value.bool.injEq] at f2 f3
  rw [f3.1, f2.2.1]

/-- What a word is: the kind, the text. -/
noncomputable def wordD (w : ByteArray) : Option (Int × ByteArray) :=
  if w = ⟨#[35, 116]⟩ ∨ w = ⟨#[35, 116, 114, 117, 101]⟩ then some (4, ⟨#[116]⟩)
  else if w = ⟨#[35, 102]⟩ ∨ w = ⟨#[35, 102, 97, 108, 115, 101]⟩ then some (4, ⟨#[102]⟩)
  else if numF w.data.toList then some (1, numTx w)
  else if symT w.data.toList then some (2, w) else none

/-- A byte of a string: where it goes on, the byte. -/
def escP (s : ByteArray) (k : Nat) : Option (Nat × UInt8) :=
  if byteAt s k = 92 then
    if k + 1 = s.size then none
    else if byteAt s (k + 1) = 34 ∨ byteAt s (k + 1) = 92 then some (k + 2, byteAt s (k + 1))
    else if byteAt s (k + 1) = 110 then some (k + 2, 10) else none
  else some (k + 1, byteAt s k)
def strF (s : ByteArray) : Nat → Nat → List UInt8 → Option (Nat × List UInt8)
  | 0, _, _ => none
  | f + 1, k, t =>
    if k = s.size then none else if byteAt s k = 34 then some (k + 1, t) else
    match escP s k with
    | none => none
    | some (k', b) => if strOk (t ++ [b]) then strF s f k' (t ++ [b]) else none
/-- A string from behind its sign on. -/
def strP (s : ByteArray) (k : Nat) : Option (Nat × List UInt8) := strF s (s.size + 1 - k) k []
/-- A word that is a dot. -/
def isDot (s : ByteArray) (p : Nat) : Bool := (byteAt s p == 46) && (decide (p + 1 = s.size) || stopB (byteAt s (p + 1)))

mutual
noncomputable def oneF (s : ByteArray) : Nat → Nat → Int → Int → Nat → Option (Nat × List Dm)
  | 0, _, _, _, _ => none
  | f + 1, a, up, deep, n =>
    if skipP s a = s.size then none
    else if byteAt s (skipP s a) = 40 then
      if 300 ≤ n ∨ 25 ≤ deep then none
      else match listF s f (skipP s a + 1) n (deep + 1) (n + 1) with
        | none => none
        | some (a', d, ps) => some (a', ⟨if d then 6 else 5, ⟨#[]⟩, up⟩ :: ps)
    else if byteAt s (skipP s a) = 41 then none
    else if byteAt s (skipP s a) = 39 then
      if 299 ≤ n ∨ 25 ≤ deep then none
      else match oneF s f (skipP s a + 1) n (deep + 1) (n + 2) with
        | none => none
        | some (a', ps) => some (a', ⟨5, ⟨#[]⟩, up⟩ :: ⟨2, ⟨#[113, 117, 111, 116, 101]⟩, n⟩ :: ps)
    else if byteAt s (skipP s a) = 34 then
      match strP s (skipP s a + 1) with
      | none => none
      | some (a', t) => if 300 ≤ n then none else some (a', [⟨3, ⟨t.toArray⟩, up⟩])
    else match wordD (s.extract (skipP s a) (wordP s (skipP s a))) with
      | none => none
      | some (k, t) => if 300 ≤ n then none else some (wordP s (skipP s a), [⟨k, t, up⟩])
noncomputable def listF (s : ByteArray) : Nat → Nat → Nat → Int → Nat → Option (Nat × Bool × List Dm)
  | 0, _, _, _, _ => none
  | f + 1, a, k, deep, n =>
    if skipP s a = s.size then none
    else if byteAt s (skipP s a) = 41 then some (skipP s a + 1, false, [])
    else if isDot s (skipP s a) then
      if n = k + 1 ∨ byteAt s (skipP s (skipP s a + 1)) = 40 ∨ byteAt s (skipP s (skipP s a + 1)) = 39 then none
      else match oneF s f (skipP s a + 1) k deep n with
        | none => none
        | some (a', ps) => if skipP s a' ≠ s.size ∧ byteAt s (skipP s a') = 41 then some (skipP s a' + 1, true, ps) else none
    else match oneF s f (skipP s a) k deep n with
      | none => none
      | some (a', ps) => match listF s f a' k deep (n + ps.length) with
        | none => none
        | some (a'', d, qs) => some (a'', d, ps ++ qs)
end
end Go.Proofs.YtnmofolhfbldjaaGreatDoor
