/-
  What strings.CutPrefix at a point and at e, impl.cutDigits and impl.readTenPower answer.
-/
import Derived.Test.YtoiegaggekgmjaaDoorReadMath
import Derived.Test.YtoiegaggekgmjaaDoorAtoiX
import Derived.Test.YtoiegaggekgmjaaDoorText
import Derived.Test.YtoiegaggekgmjaaDoorNumAll
import Derived.Laws.RangeAny
import Derived.Deep.QuietTactic
import Derived.BigQuiet
import Derived.Deep.LoopGhost
import Derived.Deep.CutBlock
import Derived.Deep.DeepCutAuto
namespace Go.Proofs.YtoiegaggekgmjaaDoor
open Go.RowKit
set_option linter.unusedVariables false

/-- Does a text begin so? What stands behind. -/
def frontB (c : UInt8) (l : List UInt8) : Bool := l.take 1 == [c]
def backB (c : UInt8) (l : List UInt8) : List UInt8 := if frontB c l then l.drop 1 else l

set_option maxHeartbeats 400000 in
set_option maxRecDepth 100000 in
theorem cutPoint_any (s : ByteArray) (w : World) (hs : s.size ≤ maxLen) :
    Calls Tryd.prog 8 #[.string s, .string ⟨#[46]⟩] w fun e w' => ∃ t : ByteArray, e = .returned (.tuple #[.string t, .bool (frontB 46 s.data.toList)]) ∧ t.data.toList = backB 46 s.data.toList ∧ w' = w := by
  unfold maxLen at hs
  by_cases h1 : 1 ≤ s.size
  · have h1' : (1 : Int) ≤ (s.size : Int) := by omega
    cases hE : ((s.extract 0 1).toList == [46]) with
    | true =>
      have HN : Hid (frontB 46 s.data.toList = true) := by unfold Hid frontB; rw [← ext_front s h1]; exact hE
      have HB : Hid ((s.extract 1 s.size).data.toList = backB 46 s.data.toList) := by unfold Hid backB; rw [HN.out, if_pos rfl, ext_tail]
      go_enter Tryd.func8, Tryd.ntmps8
      go_wp2
      go_ret2
      exact ⟨_, by rw [HN.out]; rfl, HB.out, rfl⟩
    | false =>
      have HN : Hid (frontB 46 s.data.toList = false) := by unfold Hid frontB; rw [← ext_front s h1]; exact hE
      go_enter Tryd.func8, Tryd.ntmps8
      go_wp2
      go_ret2
      exact ⟨_, by rw [HN.out]; rfl, by unfold backB; rw [HN.out]; rfl, rfl⟩
  · have h1' : (s.size : Int) < 1 := by omega
    have hl0 : s.data.toList.length = s.size := by simp
    have hl : s.data.toList = [] := List.length_eq_zero_iff.1 (by omega)
    have HN : Hid (frontB 46 s.data.toList = false) := by unfold Hid frontB; rw [hl]; rfl
    clear hl hl0
    go_enter Tryd.func8, Tryd.ntmps8
    go_wp2
    go_ret2
    exact ⟨_, by rw [HN.out]; rfl, by unfold backB; rw [HN.out]; rfl, rfl⟩

set_option maxHeartbeats 400000 in
set_option maxRecDepth 100000 in
theorem cutE_any (s : ByteArray) (w : World) (hs : s.size ≤ maxLen) :
    Calls Tryd.prog 8 #[.string s, .string ⟨#[101]⟩] w fun e w' => ∃ t : ByteArray, e = .returned (.tuple #[.string t, .bool (frontB 101 s.data.toList)]) ∧ t.data.toList = backB 101 s.data.toList ∧ w' = w := by
  unfold maxLen at hs
  by_cases h1 : 1 ≤ s.size
  · have h1' : (1 : Int) ≤ (s.size : Int) := by omega
    cases hE : ((s.extract 0 1).toList == [101]) with
    | true =>
      have HN : Hid (frontB 101 s.data.toList = true) := by unfold Hid frontB; rw [← ext_front s h1]; exact hE
      have HB : Hid ((s.extract 1 s.size).data.toList = backB 101 s.data.toList) := by unfold Hid backB; rw [HN.out, if_pos rfl, ext_tail]
      go_enter Tryd.func8, Tryd.ntmps8
      go_wp2
      go_ret2
      exact ⟨_, by rw [HN.out]; rfl, HB.out, rfl⟩
    | false =>
      have HN : Hid (frontB 101 s.data.toList = false) := by unfold Hid frontB; rw [← ext_front s h1]; exact hE
      go_enter Tryd.func8, Tryd.ntmps8
      go_wp2
      go_ret2
      exact ⟨_, by rw [HN.out]; rfl, by unfold backB; rw [HN.out]; rfl, rfl⟩
  · have h1' : (s.size : Int) < 1 := by omega
    have hl0 : s.data.toList.length = s.size := by simp
    have hl : s.data.toList = [] := List.length_eq_zero_iff.1 (by omega)
    have HN : Hid (frontB 101 s.data.toList = false) := by unfold Hid frontB; rw [hl]; rfl
    clear hl hl0
    go_enter Tryd.func8, Tryd.ntmps8
    go_wp2
    go_ret2
    exact ⟨_, by rw [HN.out]; rfl, by unfold backB; rw [HN.out]; rfl, rfl⟩

theorem take_while {l : List UInt8} {k : Nat} (h : (l.take k).all isDig = true) (hk : l.length = k ∨ ∃ c, l[k]? = some c ∧ isDig c = false) : l.takeWhile isDig = l.take k ∧ l.dropWhile isDig = l.drop k := by
  induction k generalizing l with
  | zero =>
    cases l with
    | nil => exact ⟨rfl, rfl⟩
    | cons c m =>
      rcases hk with hk | ⟨d, hd, hn⟩
      · simp at hk
      · simp at hd
        subst hd
        rw [List.takeWhile_cons_of_neg (by rw [hn]; decide), List.dropWhile_cons_of_neg (by rw [hn]; decide)]
        exact ⟨rfl, rfl⟩
  | succ k ih =>
    cases l with
    | nil => exact ⟨rfl, rfl⟩
    | cons c m =>
      rw [List.take_succ_cons, List.all_cons, Bool.and_eq_true] at h
      have := ih h.2 (by
        rcases hk with hk | ⟨d, hd, hn⟩
        · exact .inl (by simpa using hk)
        · exact .inr ⟨d, by simpa using hd, hn⟩)
      rw [List.takeWhile_cons_of_pos h.1, List.dropWhile_cons_of_pos h.1, this.1, this.2]
      exact ⟨rfl, rfl⟩
theorem len_take (s : ByteArray) {k : Nat} (hk : k ≤ s.size) : lenB (s.data.toList.take k) = (decide ((1 : Int) ≤ (k : Int)) && decide ((k : Int) ≤ 40)) := by
  have h : (s.data.toList.take k).length = k := by rw [List.length_take]; simp; omega
  unfold lenB
  rw [h]
  congr 1
  · exact decide_eq_decide.2 (by omega)
  · exact decide_eq_decide.2 (by omega)
theorem results_tmp3A {fn : Func} {t u v : Tmp} (h : fn.results = #[.tmp t, .tmp u, .tmp v]) (tmps : Array Value) (P : Program) (w : World) :
    (results fn tmps).run P w = .ok (.tuple #[tmps.getD t undef, tmps.getD u undef, tmps.getD v undef]) w := by
  simp [results, h]
theorem below_drewA {B : Nat} {a w : World} (h : Below B a w) (n : Nat) : Below B a (w.drewN n) := ⟨h.os, h.tape, h.output, h.size, h.block⟩

set_option maxHeartbeats 2000000 in
set_option maxRecDepth 100000 in
theorem cutDigits_any (s : ByteArray) (w : World) (hs : s.size ≤ maxLen) :
    Calls Tryd.prog 21 #[.string s] w fun e w' => (∃ t u : ByteArray, e = .returned (.tuple #[.string t, .string u, .bool (lenB (s.data.toList.takeWhile isDig))]) ∧ t.data.toList = s.data.toList.takeWhile isDig ∧ u.data.toList = s.data.toList.dropWhile isDig) ∧ Below w.heap.size w w' := by
  unfold maxLen at hs
  have hs' : (s.size : Int) ≤ 9223372036854775807 := by omega
  have hlen : s.data.toList.length = s.size := by simp
  have HLEN := hideT' hlen
  clear hlen
  go_enter Tryd.func21, Tryd.ntmps21
  go_wp2
  go_loopg [5] s.size (fun g x wr => ∃ k : Nat, g = s.size - k ∧ k ≤ s.size ∧ x = .int .i64 (s.size : Int) ∧ Hid ((s.data.toList.take k).all isDig = true) ∧ wr = w.iter s k)
  case atStart => exact ⟨0, rfl, Nat.zero_le _, rfl, rfl, rfl⟩
  case round =>
    obtain ⟨k, hg, hk, rfl, HD, rfl⟩ := hrel
    by_cases hlt : k < s.size
    · by_cases hasc : (s[k]'hlt).toNat < 128
      · have hnx := fun ty => run_next_ascii (P := Tryd.prog) w s k ty hlt hasc
        by_cases hd : (48 : Int) ≤ (s[k].toNat : Int) ∧ (s[k].toNat : Int) ≤ 57
        · have HS : Hid ((s.data.toList.take (k + 1)).all isDig = true) := digs_step s k hlt HD.out (by omega) (by omega)
          obtain ⟨hd1, hd2⟩ := hd
          go_wp2
          go_roundg (s.size - (k + 1))
          case measure => omega
          case rel => exact ⟨k + 1, rfl, by omega, rfl, HS, rfl⟩
        · have HT : Hid ((s.extract 0 k).data.toList = s.data.toList.takeWhile isDig ∧ (s.extract k s.size).data.toList = s.data.toList.dropWhile isDig) := by
            have h1 := take_while (l := s.data.toList) HD.out (.inr ⟨s[k], getN k hlt, by unfold isDig; rw [Bool.and_eq_false_iff]; simp only [decide_eq_false_iff_not]; omega⟩)
            unfold Hid; rw [h1.1, h1.2, ext_head, ext_tail]; exact ⟨rfl, rfl⟩
          have HL : Hid (lenB (s.data.toList.takeWhile isDig) = (decide ((1 : Int) ≤ (k : Int)) && decide ((k : Int) ≤ 40))) := by
            unfold Hid; rw [← HT.out.1, ext_head]; exact len_take s hk
          have hk' : (k : Int) ≤ (s.size : Int) := by omega
          by_cases hlo : (s[k].toNat : Int) < 48
          · clear hd
            by_cases h1 : (1 : Int) ≤ (k : Int)
            · by_cases h2 : (k : Int) ≤ 40
              · have h1b : decide ((1 : Int) ≤ (k : Int)) = true := decide_eq_true h1
                have h2b : decide ((k : Int) ≤ 40) = true := decide_eq_true h2
                go_wp2_with fail
                go_quiet (fail)
                go_wp2
                (try simp only [Exit.inBlock, Exit.then]); refine bodyPost_ret (results_tmp3A rfl _ _ _) rfl ?_
                exact ⟨⟨_, _, by rw [HL.out, h1b, h2b]; rfl, HT.out.1, HT.out.2⟩, below_drewA ((Below.refl _ _).alloc (Nat.le_refl _) _) _⟩
              · have h1b : decide ((1 : Int) ≤ (k : Int)) = true := decide_eq_true h1
                have h2b : decide ((k : Int) ≤ 40) = false := decide_eq_false h2
                go_wp2_with fail
                go_quiet (fail)
                go_wp2
                (try simp only [Exit.inBlock, Exit.then]); refine bodyPost_ret (results_tmp3A rfl _ _ _) rfl ?_
                exact ⟨⟨_, _, by rw [HL.out, h1b, h2b]; rfl, HT.out.1, HT.out.2⟩, below_drewA ((Below.refl _ _).alloc (Nat.le_refl _) _) _⟩
            · have h1b : decide ((1 : Int) ≤ (k : Int)) = false := decide_eq_false h1
              go_wp2_with fail
              go_quiet (fail)
              go_wp2
              (try simp only [Exit.inBlock, Exit.then]); refine bodyPost_ret (results_tmp3A rfl _ _ _) rfl ?_
              exact ⟨⟨_, _, by rw [HL.out, h1b]; rfl, HT.out.1, HT.out.2⟩, below_drewA ((Below.refl _ _).alloc (Nat.le_refl _) _) _⟩
          · have hhi : (57 : Int) < (s[k].toNat : Int) := by omega
            clear hd
            by_cases h1 : (1 : Int) ≤ (k : Int)
            · by_cases h2 : (k : Int) ≤ 40
              · have h1b : decide ((1 : Int) ≤ (k : Int)) = true := decide_eq_true h1
                have h2b : decide ((k : Int) ≤ 40) = true := decide_eq_true h2
                go_wp2_with fail
                go_quiet (fail)
                go_wp2
                (try simp only [Exit.inBlock, Exit.then]); refine bodyPost_ret (results_tmp3A rfl _ _ _) rfl ?_
                exact ⟨⟨_, _, by rw [HL.out, h1b, h2b]; rfl, HT.out.1, HT.out.2⟩, below_drewA ((Below.refl _ _).alloc (Nat.le_refl _) _) _⟩
              · have h1b : decide ((1 : Int) ≤ (k : Int)) = true := decide_eq_true h1
                have h2b : decide ((k : Int) ≤ 40) = false := decide_eq_false h2
                go_wp2_with fail
                go_quiet (fail)
                go_wp2
                (try simp only [Exit.inBlock, Exit.then]); refine bodyPost_ret (results_tmp3A rfl _ _ _) rfl ?_
                exact ⟨⟨_, _, by rw [HL.out, h1b, h2b]; rfl, HT.out.1, HT.out.2⟩, below_drewA ((Below.refl _ _).alloc (Nat.le_refl _) _) _⟩
            · have h1b : decide ((1 : Int) ≤ (k : Int)) = false := decide_eq_false h1
              go_wp2_with fail
              go_quiet (fail)
              go_wp2
              (try simp only [Exit.inBlock, Exit.then]); refine bodyPost_ret (results_tmp3A rfl _ _ _) rfl ?_
              exact ⟨⟨_, _, by rw [HL.out, h1b]; rfl, HT.out.1, HT.out.2⟩, below_drewA ((Below.refl _ _).alloc (Nat.le_refl _) _) _⟩
      · obtain ⟨hd1, hd2⟩ := decode_high s k hlt (by omega)
        have hd3 := decode_le s k
        have hnx := fun ty => run_next_any (P := Tryd.prog) w s k ty hlt
        obtain ⟨dc, hdc⟩ : ∃ dc, Utf8.decode s k = dc := ⟨_, rfl⟩
        rw [hdc] at hnx hd1 hd3
        have hhi : (57 : Int) < (dc.1 : Int) := by omega
        have hlo : ¬ (dc.1 : Int) < 48 := by omega
        have HT : Hid ((s.extract 0 k).data.toList = s.data.toList.takeWhile isDig ∧ (s.extract k s.size).data.toList = s.data.toList.dropWhile isDig) := by
          have h1 := take_while (l := s.data.toList) HD.out (.inr ⟨s[k], getN k hlt, by unfold isDig; rw [Bool.and_eq_false_iff]; simp only [decide_eq_false_iff_not]; omega⟩)
          unfold Hid; rw [h1.1, h1.2, ext_head, ext_tail]; exact ⟨rfl, rfl⟩
        have HL : Hid (lenB (s.data.toList.takeWhile isDig) = (decide ((1 : Int) ≤ (k : Int)) && decide ((k : Int) ≤ 40))) := by
          unfold Hid; rw [← HT.out.1, ext_head]; exact len_take s hk
        have hk' : (k : Int) ≤ (s.size : Int) := by omega
        clear hd1 hd2 hdc hasc
        by_cases h1 : (1 : Int) ≤ (k : Int)
        · by_cases h2 : (k : Int) ≤ 40
          · have h1b : decide ((1 : Int) ≤ (k : Int)) = true := decide_eq_true h1
            have h2b : decide ((k : Int) ≤ 40) = true := decide_eq_true h2
            go_wp2_with fail
            go_quiet (fail)
            go_wp2
            (try simp only [Exit.inBlock, Exit.then]); refine bodyPost_ret (results_tmp3A rfl _ _ _) rfl ?_
            exact ⟨⟨_, _, by rw [HL.out, h1b, h2b]; rfl, HT.out.1, HT.out.2⟩, below_drewA ((Below.refl _ _).alloc (Nat.le_refl _) _) _⟩
          · have h1b : decide ((1 : Int) ≤ (k : Int)) = true := decide_eq_true h1
            have h2b : decide ((k : Int) ≤ 40) = false := decide_eq_false h2
            go_wp2_with fail
            go_quiet (fail)
            go_wp2
            (try simp only [Exit.inBlock, Exit.then]); refine bodyPost_ret (results_tmp3A rfl _ _ _) rfl ?_
            exact ⟨⟨_, _, by rw [HL.out, h1b, h2b]; rfl, HT.out.1, HT.out.2⟩, below_drewA ((Below.refl _ _).alloc (Nat.le_refl _) _) _⟩
        · have h1b : decide ((1 : Int) ≤ (k : Int)) = false := decide_eq_false h1
          go_wp2_with fail
          go_quiet (fail)
          go_wp2
          (try simp only [Exit.inBlock, Exit.then]); refine bodyPost_ret (results_tmp3A rfl _ _ _) rfl ?_
          exact ⟨⟨_, _, by rw [HL.out, h1b]; rfl, HT.out.1, HT.out.2⟩, below_drewA ((Below.refl _ _).alloc (Nat.le_refl _) _) _⟩
    · have hke : k = s.size := by omega
      subst hke
      have hnx := fun ty => run_next_end (P := Tryd.prog) w s s.size ty hlt
      have HT : Hid (s.data.toList = s.data.toList.takeWhile isDig ∧ (ByteArray.empty).data.toList = s.data.toList.dropWhile isDig) := by
        have h1 := take_while (l := s.data.toList) HD.out (.inl HLEN.out)
        unfold Hid; rw [h1.1, h1.2, List.take_of_length_le (by rw [HLEN.out]; exact Nat.le_refl _), List.drop_of_length_le (by rw [HLEN.out]; exact Nat.le_refl _)]; exact ⟨rfl, rfl⟩
      have HL : Hid (lenB (s.data.toList.takeWhile isDig) = (decide ((1 : Int) ≤ (s.size : Int)) && decide ((s.size : Int) ≤ 40))) := by
        unfold Hid; rw [← HT.out.1]
        have := len_take s (Nat.le_refl s.size)
        rwa [List.take_of_length_le (by rw [HLEN.out]; exact Nat.le_refl _)] at this
      by_cases h1 : (1 : Int) ≤ (s.size : Int)
      · by_cases h2 : (s.size : Int) ≤ 40
        · have h1b : decide ((1 : Int) ≤ (s.size : Int)) = true := decide_eq_true h1
          have h2b : decide ((s.size : Int) ≤ 40) = true := decide_eq_true h2
          go_wp2_with fail
          go_quiet (fail)
          go_wp2
          (try simp only [Exit.inBlock, Exit.then]); refine bodyPost_ret (results_tmp3A rfl _ _ _) rfl ?_
          exact ⟨⟨_, _, by rw [HL.out, h1b, h2b]; rfl, HT.out.1, HT.out.2⟩, below_drewA ((Below.refl _ _).alloc (Nat.le_refl _) _) _⟩
        · have h1b : decide ((1 : Int) ≤ (s.size : Int)) = true := decide_eq_true h1
          have h2b : decide ((s.size : Int) ≤ 40) = false := decide_eq_false h2
          go_wp2_with fail
          go_quiet (fail)
          go_wp2
          (try simp only [Exit.inBlock, Exit.then]); refine bodyPost_ret (results_tmp3A rfl _ _ _) rfl ?_
          exact ⟨⟨_, _, by rw [HL.out, h1b, h2b]; rfl, HT.out.1, HT.out.2⟩, below_drewA ((Below.refl _ _).alloc (Nat.le_refl _) _) _⟩
      · have h1b : decide ((1 : Int) ≤ (s.size : Int)) = false := decide_eq_false h1
        go_wp2_with fail
        go_quiet (fail)
        go_wp2
        (try simp only [Exit.inBlock, Exit.then]); refine bodyPost_ret (results_tmp3A rfl _ _ _) rfl ?_
        exact ⟨⟨_, _, by rw [HL.out, h1b]; rfl, HT.out.1, HT.out.2⟩, below_drewA ((Below.refl _ _).alloc (Nat.le_refl _) _) _⟩
end Go.Proofs.YtoiegaggekgmjaaDoor
