/-
  The texts Seats, ImplGoodData, RdMem, AppStr, AppParts, one behind the other.
-/
import Derived.Test.YtnmofolhfbldjaaGreatDoorPkSymbol
import Derived.Test.YtnmofolhfbldjaaGreatDoorPkFraction
import Derived.Test.YtnmofolhfbldjaaGreatDoorPkHeld
import Derived.Deep.OwnRows
import Derived.Test.YtnmofolhfbldjaaGreatDoorPkSpecSub
import Derived.Deep.QuietTactic
import Derived.BigQuiet
import Derived.Lib.AppendStr

/-
  The seats that impl.GoodData keeps beside the nodes.
-/
namespace Go.Proofs.YtnmofolhfbldjaaGreatDoor
open Go.RowKit
set_option linter.unusedVariables false

section
variable {P : Program}
end
/-- One cell of a row is written. -/
theorem store_cell {ops : Array Oper} {rest : List Oper} {op : Oper} {a : Act} {w : World} {Q : Exit → Act → World → Prop} (hgd : op.guard = none) (ty : TypeId) (x y : Operand) (ho : op.op = .store ty x y) (hd : op.dst = none)
    (b o : Nat) (v : Value) (hx : a.eval x = .pointer (some ⟨b, o, none⟩)) (hy : a.eval y = v) (hi : (Tryz.prog.info? ty).map (·.size) = some 1) (h1 : v.oneCell' = true) (t : TypeId) (n : Nat) (f : Nat → Value) (hR : w.rowIs b t n f) (hon : o < n)
    (h : ∀ w', w'.rowIs b t n (fun j => if j = o then v else f j) → w.grownBy w' (some b) → w'.heap.size = w.heap.size → wpList Tryz.prog ops Q rest a w') : wpList Tryz.prog ops Q (op :: rest) a w :=
  wpList_plain hgd fun _ hK => by
    unfold Oper.wp execOp
    simp only [ho, hx, hy, Instr.storeAt, Instr.sureAddr, Sem.run_bind, Sem.run_pure, Result.andThen_ok, run_storeVar_cell w b o ty v (by rw [hR.cell hon]; rfl) (hR.frozen o) hi h1]
    have := h _ (hR.set o v) (grown_set w b o v) (by simp)
    have e : a.put op.dst undef = a := by rw [hd]; rfl
    refine hK _ _ ?_
    rw [e]
    exact this
/-- The same, as the one operation of a drawn region that may come up. -/
theorem held_store_cell {ops : Array Oper} {Q : Exit → Act → World → Prop} {md : Region.Mode} {S : World → Prop} {op : Oper} {fuel : Nat} {listed : Array Bool} {a : Act} {w : World} (i : Nat) (hr : Region.ready md ops listed = [i]) (hi : ops[i]? = some op) (hw : Region.wanted op (yielded ops a.tmps) = true) (ty : TypeId) (x y : Operand) (ho : op.op = .store ty x y) (hd : op.dst = none)
    (b o : Nat) (v : Value) (hx : a.eval x = .pointer (some ⟨b, o, none⟩)) (hy : a.eval y = v) (hin : (Tryz.prog.info? ty).map (·.size) = some 1) (h1 : v.oneCell' = true) (t : TypeId) (n : Nat) (f : Nat → Value) (hR : w.rowIs b t n f) (hon : o < n)
    (h : ∀ w', w'.rowIs b t n (fun j => if j = o then v else f j) → w.grownBy w' (some b) → w'.heap.size = w.heap.size → S w' ∧ wpAnyH Tryz.prog md ops Q S fuel (listed.setIfInBounds i true) a w') : wpAnyH Tryz.prog md ops Q S (fuel + 1) listed a w := by
  refine wpAnyH_ready hr (by simp) (AllReadyH.cons hi (fun K hK => ?_) AllReadyH.nil)
  rw [if_pos hw]
  unfold Oper.wp execOp
  simp only [ho, hx, hy, Instr.storeAt, Instr.sureAddr, Sem.run_bind, Sem.run_pure, Result.andThen_ok, run_storeVar_cell w b o ty v (by rw [hR.cell hon]; rfl) (hR.frozen o) hin h1]
  have := h _ (hR.set o v) (grown_set w b o v) (by simp)
  have e : a.put op.dst undef = a := by rw [hd]; rfl
  refine hK.out _ _ this.1 (fun _ => ?_)
  rw [e]
  exact this.2

/-- What the seats hold when k nodes are looked at. -/
def seatF (l : List Dm) (k i : Nat) : Value :=
  if i % 3 = 0 then .int .i64 ((if i / 3 < k then arnd l (i / 3) else 0 : Nat) : Int) else if i % 3 = 1 then .int .i64 ((prt l k (i / 3)).length : Int) else .bool (lastL l (prt l k (i / 3)))
theorem seatF0 (l : List Dm) (k j : Nat) : seatF l k (j * 3) = .int .i64 ((if j < k then arnd l j else 0 : Nat) : Int) := by
  unfold seatF; rw [if_pos (by omega), show j * 3 / 3 = j by omega]
theorem seatF1 (l : List Dm) (k j : Nat) : seatF l k (j * 3 + 1) = .int .i64 ((prt l k j).length : Int) := by
  unfold seatF; rw [if_neg (by omega), if_pos (by omega), show (j * 3 + 1) / 3 = j by omega]
theorem seatF2 (l : List Dm) (k j : Nat) : seatF l k (j * 3 + 2) = .bool (lastL l (prt l k j)) := by
  unfold seatF; rw [if_neg (by omega), if_neg (by omega), show (j * 3 + 2) / 3 = j by omega]
end Go.Proofs.YtnmofolhfbldjaaGreatDoor

/-
  What impl.GoodData answers.
-/
namespace Go.Proofs.YtnmofolhfbldjaaGreatDoor
open Go.RowKit
set_option linter.unusedVariables false

theorem one_int : (Tryz.prog.info? 3).map (·.size) = some 1 := by kernel_rfl
theorem one_bool : (Tryz.prog.info? 4).map (·.size) = some 1 := by kernel_rfl
theorem arnd_le {l : List Dm} {j : Nat} (h : deepOk l j = true) : arnd l j ≤ 25 := by
  unfold deepOk at h
  rw [deep_arnd] at h
  have := of_decide_eq_true h
  omega
theorem deep_of {l : List Dm} {k : Nat} (hl : isL (dk l k) = true) : deepOk l k = decide (arnd l k < 25) := by
  unfold deepOk
  rw [deep_arnd, if_pos hl]
  exact decide_eq_decide.2 (by omega)
theorem deep_ofn {l : List Dm} {k : Nat} (hl : isL (dk l k) = false) (h : arnd l k ≤ 25) : deepOk l k = true := by
  unfold deepOk
  rw [deep_arnd, hl]
  exact decide_eq_true (by simpa using h)

def OkTo (l : List Dm) (k : Nat) : Prop := ∀ j, j < k → upOk l j = true ∧ txtOk (dk l j) (dt l j).data.toList = true ∧ deepOk l j = true
theorem OkTo.succ {l : List Dm} {k : Nat} (h : OkTo l k) (h1 : upOk l k = true) (h2 : txtOk (dk l k) (dt l k).data.toList = true) (h3 : deepOk l k = true) : OkTo l (k + 1) := fun j hj => by
  by_cases e : j = k
  · subst e; exact ⟨h1, h2, h3⟩
  · exact h j (by omega)

end Go.Proofs.YtnmofolhfbldjaaGreatDoor

/-
  The model's reader in memory; blanks passed over, a code set, a word read.
-/
namespace Go.Proofs.YtnmofolhfbldjaaGreatDoor
open Go.RowKit
set_option linter.unusedVariables false

/-- The reader: its text, where it is, the slice of nodes, the code. -/
def rC (s : ByteArray) (a : Int) (v : Value) (c : Int) : Array Value := #[.string s, .int .i64 a, v, .int .i64 c]
def RAt (w : World) (b : Nat) (s : ByteArray) (a : Int) (v : Value) (c : Int) : Prop := RowAt w b 36 (rC s a v c)
theorem r_0 {w : World} {b : Nat} {s : ByteArray} {a c : Int} {v : Value} (h : RAt w b s a v c) : w.cell? ⟨b, 0, none⟩ = some (.string s) := by rw [cell_of_row w b _ _ _ _ h]; rfl
theorem r_1 {w : World} {b : Nat} {s : ByteArray} {a c : Int} {v : Value} (h : RAt w b s a v c) : w.cell? ⟨b, 1, none⟩ = some (.int .i64 a) := by rw [cell_of_row w b _ _ _ _ h]; rfl
theorem r_2 {w : World} {b : Nat} {s : ByteArray} {a c : Int} {v : Value} (h : RAt w b s a v c) : w.cell? ⟨b, 2, none⟩ = some v := by rw [cell_of_row w b _ _ _ _ h]; rfl
theorem r_3 {w : World} {b : Nat} {s : ByteArray} {a c : Int} {v : Value} (h : RAt w b s a v c) : w.cell? ⟨b, 3, none⟩ = some (.int .i64 c) := by rw [cell_of_row w b _ _ _ _ h]; rfl
theorem grown_trans {w w' w'' : World} {b : Nat} (h : w.grownBy w' (some b)) (h' : w'.grownBy w'' (some b)) : w.grownBy w'' (some b) :=
  ⟨h'.os.trans h.os, h'.tape.trans h.tape, h'.output.trans h.output, Nat.le_trans h.size h'.size, fun k hk hne => (h'.block k (Nat.lt_of_lt_of_le hk h.size) hne).trans (h.block k hk hne)⟩
theorem grown_refl (w : World) (r : Option Nat) : w.grownBy w r := ⟨rfl, rfl, rfl, Nat.le_refl _, fun _ _ _ => rfl⟩
theorem grown_drewN {w w' : World} {r : Option Nat} (h : w.grownBy w' r) (n : Nat) : w.grownBy (w'.drewN n) r := ⟨h.os, h.tape, h.output, h.size, h.block⟩
theorem grown_ahead {w w' : World} {r : Option Nat} (n : Nat) (h : (w.drewN n).grownBy w' r) : w.grownBy w' r := ⟨h.os, h.tape, h.output, h.size, h.block⟩

/-- A code stays as it is. -/
def cod (c k : Int) : Int := if c = 0 then k else c

set_option maxHeartbeats 1000000 in
set_option maxRecDepth 100000 in
theorem bad_any (b : Nat) (s : ByteArray) (a c k : Int) (v : Value) (w : World) (hR : RAt w b s a v c) :
    Calls Tryz.prog 17 #[.pointer (some ⟨b, 0, none⟩), .int .i64 k] w fun e w' => e = .returned (.tuple #[]) ∧ RAt w' b s a v (cod c k) ∧ w.grownBy w' (some b) ∧ w'.heap.size = w.heap.size := by
  have c3 := r_3 hR
  by_cases h0 : c = 0
  · subst h0
    go_enter Tryz.func17, Tryz.ntmps17
    go_wp2_with (refine store_at rfl 3 _ _ rfl rfl b 3 (.int .i64 k) rfl rfl one_int rfl 36 (rC s a v 0) hR (show 3 < 4 by omega) ?_; intro w1 hR1 hg1 hs1)
    go_end0
    exact ⟨rfl, hR1, hg1, hs1⟩
  · have h0' : (c == 0) = false := beq_eq_false_iff_ne.2 h0
    have HC : Hid (cod c k = c) := if_neg h0
    go_enter Tryz.func17, Tryz.ntmps17
    go_wp2
    go_end0
    exact ⟨rfl, by rw [HC.out]; exact hR, grown_refl _ _, rfl⟩

set_option maxHeartbeats 2000000 in
set_option maxRecDepth 100000 in
theorem skip_any (b : Nat) (s : ByteArray) (a : Nat) (c : Int) (v : Value) (w : World) (hs : s.size ≤ 1500) (ha : a ≤ s.size) (hR : RAt w b s (a : Int) v c) :
    Calls Tryz.prog 10 #[.pointer (some ⟨b, 0, none⟩)] w fun e w' => e = .returned (.tuple #[]) ∧ RAt w' b s (skipP s a : Int) v c ∧ w.grownBy w' (some b) ∧ w'.heap.size = w.heap.size := by
  go_enter Tryz.func10, Tryz.ntmps10
  go_wp2_with fail
  go_loopg [] (s.size - a) (fun g wr => ∃ k : Nat, g = s.size - k ∧ k ≤ s.size ∧ Hid (skipF s (s.size - k) k false = skipP s a) ∧ RAt wr b s (k : Int) v c ∧ w.grownBy wr (some b) ∧ Aside (wr.heap.size = w.heap.size))
  case atStart => exact ⟨a, rfl, ha, rfl, hR, grown_refl _ _, rfl⟩
  case round =>
    obtain ⟨k, hg, hk, HK, hRr, hG, hZ⟩ := hrel
    have c0 := r_0 hRr
    have c1 := r_1 hRr
    clear hR
    by_cases hlt : (k : Int) < (s.size : Int)
    · have hk' : k < s.size := by omega
      have HB := hideT' (byteAt_eq hk')
      by_cases hx32 : s[k] = 32
      · have hx := hx32
        clear hx32
        have hb : (s[k].toNat : Int) = 32 := by rw [hx]; rfl
        have HN : Hid (skipF s (s.size - (k + 1)) (k + 1) false = skipP s a) := by unfold Hid; rw [← HK.out, skip_blank hk' (by rw [HB.out, hx]; decide)]
        clear hx
        go_wp2_with fail
        go_quiet (fail)
        go_wp2_with fail
        go_quiet (fail)
        go_wp2_with (refine store_at rfl 3 _ _ rfl rfl b 1 (.int .i64 ((k : Int) + 1)) rfl rfl one_int rfl 36 (rC s k v c) hRr (show 1 < 4 by omega) ?_; intro w1 hR1 hg1 hs1)
        go_roundg (s.size - (k + 1))
        case measure => omega
        case rel => exact ⟨k + 1, rfl, by omega, HN, hR1, grown_trans hG (grown_ahead _ hg1), by have := hZ.out; unfold Aside; rw [hs1]; exact this⟩
      · have n32 : ((s[k].toNat : Int) == 32) = false := byte_ne (n := 32) (by decide) hx32
        by_cases hx9 : s[k] = 9
        · have hx := hx9
          clear hx9
          have hb : (s[k].toNat : Int) = 9 := by rw [hx]; rfl
          have HN : Hid (skipF s (s.size - (k + 1)) (k + 1) false = skipP s a) := by unfold Hid; rw [← HK.out, skip_blank hk' (by rw [HB.out, hx]; decide)]
          clear hx
          go_wp2_with fail
          go_quiet (fail)
          go_wp2_with fail
          go_quiet (fail)
          go_wp2_with (refine store_at rfl 3 _ _ rfl rfl b 1 (.int .i64 ((k : Int) + 1)) rfl rfl one_int rfl 36 (rC s k v c) hRr (show 1 < 4 by omega) ?_; intro w1 hR1 hg1 hs1)
          go_roundg (s.size - (k + 1))
          case measure => omega
          case rel => exact ⟨k + 1, rfl, by omega, HN, hR1, grown_trans hG (grown_ahead _ hg1), by have := hZ.out; unfold Aside; rw [hs1]; exact this⟩
        · have n9 : ((s[k].toNat : Int) == 9) = false := byte_ne (n := 9) (by decide) hx9
          by_cases hx10 : s[k] = 10
          · have hx := hx10
            clear hx10
            have hb : (s[k].toNat : Int) = 10 := by rw [hx]; rfl
            have HN : Hid (skipF s (s.size - (k + 1)) (k + 1) false = skipP s a) := by unfold Hid; rw [← HK.out, skip_blank hk' (by rw [HB.out, hx]; decide)]
            clear hx
            go_wp2_with fail
            go_quiet (fail)
            go_wp2_with fail
            go_quiet (fail)
            go_wp2_with (refine store_at rfl 3 _ _ rfl rfl b 1 (.int .i64 ((k : Int) + 1)) rfl rfl one_int rfl 36 (rC s k v c) hRr (show 1 < 4 by omega) ?_; intro w1 hR1 hg1 hs1)
            go_roundg (s.size - (k + 1))
            case measure => omega
            case rel => exact ⟨k + 1, rfl, by omega, HN, hR1, grown_trans hG (grown_ahead _ hg1), by have := hZ.out; unfold Aside; rw [hs1]; exact this⟩
          · have n10 : ((s[k].toNat : Int) == 10) = false := byte_ne (n := 10) (by decide) hx10
            by_cases hx13 : s[k] = 13
            · have hx := hx13
              clear hx13
              have hb : (s[k].toNat : Int) = 13 := by rw [hx]; rfl
              have HN : Hid (skipF s (s.size - (k + 1)) (k + 1) false = skipP s a) := by unfold Hid; rw [← HK.out, skip_blank hk' (by rw [HB.out, hx]; decide)]
              clear hx
              go_wp2_with fail
              go_quiet (fail)
              go_wp2_with fail
              go_quiet (fail)
              go_wp2_with (refine store_at rfl 3 _ _ rfl rfl b 1 (.int .i64 ((k : Int) + 1)) rfl rfl one_int rfl 36 (rC s k v c) hRr (show 1 < 4 by omega) ?_; intro w1 hR1 hg1 hs1)
              go_roundg (s.size - (k + 1))
              case measure => omega
              case rel => exact ⟨k + 1, rfl, by omega, HN, hR1, grown_trans hG (grown_ahead _ hg1), by have := hZ.out; unfold Aside; rw [hs1]; exact this⟩
            · have n13 : ((s[k].toNat : Int) == 13) = false := byte_ne (n := 13) (by decide) hx13
              by_cases hx59 : s[k] = 59
              · have hb : (s[k].toNat : Int) = 59 := by rw [hx59]; rfl
                have HI0 : Hid (skipF s (s.size - k) k true = skipP s a) := by unfold Hid; rw [← HK.out, skip_semi hk' (by rw [HB.out]; exact hx59)]
                have HX := hideT' hx59
                clear hx32 hx9 hx10 hx13 hx59 n32 n9 n10 n13
                go_wp2_with fail
                go_quiet (fail)
                go_wp2_with fail
                go_quiet (fail)
                go_wp2_with fail
                go_loopg [] (s.size - k) (fun g wq => ∃ j : Nat, g = s.size - j ∧ j ≤ s.size ∧ k ≤ j ∧ Hid (skipF s (s.size - j) j true = skipP s a) ∧ RAt wq b s (j : Int) v c ∧ w.grownBy wq (some b) ∧ Aside (wq.heap.size = w.heap.size))
                case atStart => exact ⟨k, rfl, by omega, Nat.le_refl _, HI0, hRr, grown_drewN hG _, hZ⟩
                case round =>
                  clear hRr hG hZ c0 c1
                  obtain ⟨j, hgj, hj, hkj, HJ, hRj, hG, hZ⟩ := hrel
                  have c0 := r_0 hRj
                  have c1 := r_1 hRj
                  by_cases hjl : (j : Int) < (s.size : Int)
                  · have hj' : j < s.size := by omega
                    have HBJ := hideT' (byteAt_eq hj')
                    by_cases hx10 : s[j] = 10
                    · have hbj : (s[j].toNat : Int) = 10 := by rw [hx10]; rfl
                      have HN : Hid (skipF s (s.size - j) j false = skipP s a) := by unfold Hid; rw [← HJ.out, skip_nl hj' (by rw [HBJ.out]; exact hx10)]
                      have hjk : k < j := by
                        by_cases e : j = k
                        · subst e; rw [HX.out] at hx10; exact absurd hx10 (by decide)
                        · omega
                      clear hx10
                      go_wp2_with fail
                      go_quiet (fail)
                      go_wp2
                      go_roundg (s.size - j)
                      case measure => omega
                      case rel => exact ⟨j, rfl, by omega, HN, hRj, grown_drewN hG _, hZ⟩
                    · have n10 : ((s[j].toNat : Int) != 10) = true := by
                        have := byte_ne (n := 10) (by decide) hx10
                        simpa [bne] using this
                      have HN : Hid (skipF s (s.size - (j + 1)) (j + 1) true = skipP s a) := by unfold Hid; rw [← HJ.out, skip_com hj' (by rw [HBJ.out]; exact hx10)]
                      clear hx10
                      go_wp2_with fail
                      go_quiet (fail)
                      go_wp2_with (refine store_at rfl 3 _ _ rfl rfl b 1 (.int .i64 ((j : Int) + 1)) rfl rfl one_int rfl 36 (rC s j v c) hRj (show 1 < 4 by omega) ?_; intro w1 hR1 hg1 hs1)
                      go_roundg (s.size - (j + 1))
                      case measure => omega
                      case rel => exact ⟨j + 1, rfl, by omega, by omega, HN, hR1, grown_trans hG (grown_ahead _ hg1), by have := hZ.out; unfold Aside; rw [hs1]; exact this⟩
                  · have hje : j = s.size := by omega
                    have HN : Hid (skipF s (s.size - j) j false = skipP s a) := by unfold Hid; rw [← HJ.out, skip_end hje, skip_end hje]
                    go_wp2_with fail
                    go_quiet (fail)
                    go_wp2
                    go_roundg (s.size - j)
                    case measure => omega
                    case rel => exact ⟨j, rfl, by omega, HN, hRj, grown_drewN hG _, hZ⟩
              · have n59 : ((s[k].toNat : Int) == 59) = false := byte_ne (n := 59) (by decide) hx59
                have HN : Hid (skipP s a = k) := by unfold Hid; rw [← HK.out]; exact skip_stop hk' (by rw [HB.out]; exact hx32) (by rw [HB.out]; exact hx9) (by rw [HB.out]; exact hx10) (by rw [HB.out]; exact hx13) (by rw [HB.out]; exact hx59)
                clear hx32 hx9 hx10 hx13 hx59
                go_wp2_with fail
                go_quiet (fail)
                go_wp2_with fail
                go_quiet (fail)
                go_wp2
                (try simp only [Exit.inBlock, Exit.then]); refine bodyPost_ret (results_none rfl _ _ _) rfl ?_
                exact ⟨rfl, by rw [HN.out]; exact hRr, grown_drewN hG _, hZ.out⟩
    · have hke : k = s.size := by omega
      have HE := hideT' (skip_end hke false)
      go_wp2_with fail
      go_quiet (fail)
      go_wp2
      go_end0
      refine ⟨rfl, ?_, grown_drewN hG _, hZ.out⟩
      rw [← HK.out, HE.out]
      exact hRr
end Go.Proofs.YtnmofolhfbldjaaGreatDoor

/-
  What appendString and behindDot of impl answer.
-/
namespace Go.Proofs.YtnmofolhfbldjaaGreatDoor
open Go.RowKit
set_option linter.unusedVariables false

/-- A slice of bytes that the call owns. -/
def BytesAt (w : World) (B : Nat) (v : Value) (t : List UInt8) : Prop := w.ownsRow B 5 1 v t.length (Lib.byteCells t)
theorem BytesAt.nil (w : World) (B : Nat) : BytesAt w B (.slice none 0 0) [] := World.ownsRow_nil _ _ _ _
theorem bytes_snoc (t : List UInt8) (c : UInt8) : Lib.byteCells t ++ [Value.int .u8 (c.toNat : Int)] = Lib.byteCells (t ++ [c]) := by simp [Lib.byteCells]
theorem bytes_app (t : List UInt8) (s : ByteArray) : Lib.byteCells t ++ Lib.strCells s = Lib.byteCells (t ++ s.data.toList) := by simp [Lib.byteCells, Lib.strCells]
theorem two_cells (w : World) (t : TypeId) (x y : Value) : ∀ j u, [x, y][j]? = some u → (w.alloc (.cells #[x, y] t)).cell? ((⟨w.heap.size, 0, none⟩ : Addr).add j) = some u := fun j u h => by
  have e : (⟨w.heap.size, 0, none⟩ : Addr).add j = ⟨w.heap.size, j, none⟩ := by unfold Addr.add; split <;> simp_all
  rw [e, cell_of_row _ w.heap.size j #[x, y] t (0, 0) (heap_alloc_new _ _)]
  simpa using h
theorem two_one (x y : Int) : ∀ u ∈ [Value.int .u8 x, Value.int .u8 y], u.oneCell' = true := by
  intro u hu; simp at hu; rcases hu with rfl | rfl <;> rfl

theorem esc_len (c : UInt8) : (escB c).length ≤ 2 := by unfold escB; split <;> (try split) <;> simp
theorem esc_flat : ∀ l : List UInt8, (l.flatMap escB).length ≤ 2 * l.length
  | [] => by simp
  | c :: l => by
    rw [List.flatMap_cons, List.length_append, List.length_cons]
    have := esc_len c
    have := esc_flat l
    omega
theorem take_esc (s : ByteArray) (k : Nat) (h : k < s.size) : (s.data.toList.take (k + 1)).flatMap escB = (s.data.toList.take k).flatMap escB ++ escB s[k] := by
  rw [take_snoc s k h, List.flatMap_append]; simp

end Go.Proofs.YtnmofolhfbldjaaGreatDoor

/-
  What appendParts and appendDatum of impl answer, each by the other one.
-/
namespace Go.Proofs.YtnmofolhfbldjaaGreatDoor
open Go.RowKit
set_option linter.unusedVariables false

structure Fine (l : List Dm) : Prop where
  few : l.length ≤ 300
  up : AllUp l
  dot : ∀ k, k < l.length → dotOk l k = true
  txt : ∀ k, k < l.length → txtOk (dk l k) (dt l k).data.toList = true
  size : ∀ k, k < l.length → (dt l k).size ≤ 1048576
theorem kind_of {q : Int} {t : List UInt8} (h : txtOk q t = true) : q = 1 ∨ q = 2 ∨ q = 3 ∨ q = 4 ∨ q = 5 ∨ q = 6 := by
  by_cases h1 : q = 1
  · exact .inl h1
  · by_cases h2 : q = 2
    · exact .inr (.inl h2)
    · by_cases h3 : q = 3
      · exact .inr (.inr (.inl h3))
      · by_cases h4 : q = 4
        · exact .inr (.inr (.inr (.inl h4)))
        · rw [txt_else h1 h2 h3 h4] at h
          unfold isL at h
          simp at h
          omega

end Go.Proofs.YtnmofolhfbldjaaGreatDoor
