/-
  The texts DatText, DatMem, AppStr, SpecQuote, SpecGoodData, AppParts, AppDatum, Seats, ImplGoodData, ImplDataText, one behind the other, as one.
-/
import Derived.Test.YtjgpjafndaikcaaGreatDoorTailDataTextB
import Derived.Test.YtjgpjafndaikcaaGreatDoorTailDataTextA
import Derived.Test.YtjgpjafndaikcaaGreatDoorSpecDiv
import Derived.Lib.AppendStr
import Derived.Test.YtjgpjafndaikcaaGreatDoorHeldCall
import Derived.Deep.OwnRows

/-
  What is told of a node's text.
-/
namespace Go.Proofs.YtjgpjafndaikcaaGreatDoor
open Go.RowKit
set_option linter.unusedVariables false

set_option maxHeartbeats 1000000 in
set_option maxRecDepth 100000 in
theorem inString_any (c : UInt8) (x : Int) (w : World) (hx : x = (c.toNat : Int)) :
    Calls Tryz.prog 85 #[.int .u8 x] w fun e w' => e = .returned (.bool (strC c)) ∧ w' = w := by
  by_cases h1 : 32 ≤ x
  · by_cases h2 : x ≤ 126
    · have HN : Hid (strC c = true) := by unfold Hid strC; simp; omega
      clear hx
      go_enter Tryz.func85, Tryz.ntmps85
      go_wp2
      go_ret
      exact ⟨by rw [HN.out]; rfl, rfl⟩
    · have HN : Hid (strC c = false) := by unfold Hid strC; simp; omega
      have h3 : (x == 10) = false := beq_eq_false_iff_ne.2 (by omega)
      clear hx
      go_enter Tryz.func85, Tryz.ntmps85
      go_wp2
      go_ret
      exact ⟨by rw [HN.out]; rfl, rfl⟩
  · by_cases h3 : x = 10
    · have HN : Hid (strC c = true) := by unfold Hid strC; simp; omega
      have h3' : (x == 10) = true := by rw [h3]; rfl
      clear hx h3
      go_enter Tryz.func85, Tryz.ntmps85
      go_wp2
      go_ret
      exact ⟨by rw [HN.out]; rfl, rfl⟩
    · have HN : Hid (strC c = false) := by unfold Hid strC; simp; omega
      have h3' : (x == 10) = false := beq_eq_false_iff_ne.2 (by omega)
      clear hx h3
      go_enter Tryz.func85, Tryz.ntmps85
      go_wp2
      go_ret
      exact ⟨by rw [HN.out]; rfl, rfl⟩

theorem str_bad {s : ByteArray} (k : Nat) (h : k < s.size) (hb : strC s[k] = false) : s.data.toList.all strC = false := by
  rw [List.all_eq_false]
  exact ⟨s.data.toList[k]'(by simpa using h), List.getElem_mem _, by show ¬ strC s[k] = true; rw [hb]; decide⟩
theorem str_all {s : ByteArray} (h : ∀ (k : Nat) (hk : k < s.size), strC (s[k]'hk) = true) : s.data.toList.all strC = true := by
  rw [List.all_eq_true]
  intro c hc
  obtain ⟨i, hi, rfl⟩ := List.getElem_of_mem hc
  exact h i (by simpa using hi)

set_option maxHeartbeats 1000000 in
set_option maxRecDepth 100000 in
theorem goodString_any (s : ByteArray) (w : World) (hs : s.size ≤ maxLen) :
    Calls Tryz.prog 42 #[.string s] w fun e w' => e = .returned (.bool (strOk s.data.toList)) ∧ w' = w := by
  unfold maxLen at hs
  have hlen : s.data.toList.length = s.size := by simp
  by_cases h1 : (100 : Int) < (s.size : Int)
  · have HN : Hid (strOk s.data.toList = false) := by unfold Hid strOk; rw [hlen, decide_eq_false (show ¬ s.size ≤ 100 by omega)]; rfl
    clear hlen
    go_enter Tryz.func42, Tryz.ntmps42
    go_wp2
    go_ret
    exact ⟨by rw [HN.out]; rfl, rfl⟩
  · have HA : Hid (strOk s.data.toList = s.data.toList.all strC) := by
      unfold Hid strOk
      rw [hlen, decide_eq_true (show s.size ≤ 100 by omega), Bool.true_and]
    clear hlen
    go_enter Tryz.func42, Tryz.ntmps42
    go_wp2_with fail
    go_loopg [9] s.size (fun g i wr => ∃ k : Nat, g = s.size - k ∧ k ≤ s.size ∧ i = .int .i64 (k : Int) ∧ Hid (∀ (j : Nat) (hj : j < s.size), j < k → strC (s[j]'hj) = true) ∧ wr = w)
    case atStart => exact ⟨0, rfl, by omega, rfl, fun j _ hj => by omega, rfl⟩
    case round =>
      obtain ⟨k, hg, hk, rfl, HK, rfl⟩ := hrel
      by_cases hk1 : (k : Int) < (s.size : Int)
      · have hk' : k < s.size := by omega
        go_wp2_with fail
        refine (inString_any (s[k]'hk') _ _ rfl).mono ?_
        rintro e w' ⟨rfl, rfl⟩
        cases hb : strC (s[k]'hk') with
        | true =>
          have HK2 : Hid (∀ (j : Nat) (hj : j < s.size), j < k + 1 → strC (s[j]'hj) = true) := by
            intro j hj hj2
            by_cases e : j = k
            · subst e; exact hb
            · exact HK.out j hj (by omega)
          clear hb
          go_wp2
          go_roundg (s.size - (k + 1))
          case measure => omega
          case rel => exact ⟨k + 1, rfl, by omega, by go_num, HK2, rfl⟩
        | false =>
          have HN : Hid (strOk s.data.toList = false) := by unfold Hid; rw [HA.out]; exact str_bad k hk' hb
          clear hb
          go_wp2
          go_ret
          exact ⟨by rw [HN.out]; rfl, rfl⟩
      · have HN : Hid (strOk s.data.toList = true) := by unfold Hid; rw [HA.out]; exact str_all (fun j hj => HK.out j hj (by omega))
        go_wp2
        go_ret
        exact ⟨by rw [HN.out]; rfl, rfl⟩

set_option maxHeartbeats 1000000 in
set_option maxRecDepth 100000 in
theorem l3String_any (s : ByteArray) (w : World) (hs : s.size ≤ maxLen) :
    Calls Tryz.prog 24 #[.string s] w fun e w' => e = .returned (.bool (strOk s.data.toList)) ∧ w' = w := by
  unfold maxLen at hs
  go_enter Tryz.func24, Tryz.ntmps24
  go_wp2_with fail
  go_loopg [3] s.size (fun g i wr => ∃ k : Nat, g = s.size - k ∧ k ≤ s.size ∧ i = .int .i64 (k : Int) ∧ Hid (∀ (j : Nat) (hj : j < s.size), j < k → strC (s[j]'hj) = true) ∧ wr = w)
  case atStart => exact ⟨0, rfl, by omega, rfl, fun j _ hj => by omega, rfl⟩
  case round =>
    obtain ⟨k, hg, hk, rfl, HK, rfl⟩ := hrel
    by_cases hk1 : (k : Int) < (s.size : Int)
    · have hk' : k < s.size := by omega
      obtain ⟨x, hx⟩ : ∃ x : Int, x = ((s[k]'hk').toNat : Int) := ⟨_, rfl⟩
      have NO : Hid (strC (s[k]'hk') = false → strOk s.data.toList = false) := fun h => by unfold strOk; rw [str_bad k hk' h, Bool.and_false]
      have YES : Hid (strC (s[k]'hk') = true → ∀ (j : Nat) (hj : j < s.size), j < k + 1 → strC (s[j]'hj) = true) := fun hb j hj hj2 => by
        by_cases e : j = k
        · subst e; exact hb
        · exact HK.out j hj (by omega)
      by_cases h1 : x < 32
      · by_cases h3 : x = 10
        · have HK2 := hideT' (YES.out (by unfold strC; simp; omega))
          have f1 : ((s[k]'hk').toNat : Int) < 32 := by omega
          have f2 : (((s[k]'hk').toNat : Int) == 10) = true := by rw [← hx, h3]; rfl
          clear hx h1 h3
          go_wp2
          go_roundg (s.size - (k + 1))
          case measure => omega
          case rel => exact ⟨k + 1, rfl, by omega, by go_num, HK2, rfl⟩
        · have HN := hideT' (NO.out (by unfold strC; simp; omega))
          have f1 : ((s[k]'hk').toNat : Int) < 32 := by omega
          have f2 : (((s[k]'hk').toNat : Int) == 10) = false := beq_eq_false_iff_ne.2 (by omega)
          clear hx h1 h3
          go_wp2
          go_ret
          exact ⟨by rw [HN.out]; rfl, rfl⟩
      · by_cases h2 : 126 < x
        · have HN := hideT' (NO.out (by unfold strC; simp; omega))
          have f1 : ¬ ((s[k]'hk').toNat : Int) < 32 := by omega
          have f3 : (126 : Int) < ((s[k]'hk').toNat : Int) := by omega
          have f2 : (((s[k]'hk').toNat : Int) == 10) = false := beq_eq_false_iff_ne.2 (by omega)
          clear hx h1 h2
          go_wp2
          go_ret
          exact ⟨by rw [HN.out]; rfl, rfl⟩
        · have HK2 := hideT' (YES.out (by unfold strC; simp; omega))
          have f1 : ¬ ((s[k]'hk').toNat : Int) < 32 := by omega
          have f3 : ¬ (126 : Int) < ((s[k]'hk').toNat : Int) := by omega
          clear hx h1 h2
          go_wp2
          go_roundg (s.size - (k + 1))
          case measure => omega
          case rel => exact ⟨k + 1, rfl, by omega, by go_num, HK2, rfl⟩
    · have HN : Hid (strOk s.data.toList = decide ((s.size : Int) ≤ 100)) := by
        unfold Hid strOk
        have hlen : s.data.toList.length = s.size := by simp
        rw [str_all (fun j hj => HK.out j hj (by omega)), Bool.and_true, hlen]
        exact decide_eq_decide.2 (by omega)
      go_wp2
      go_ret
      exact ⟨by rw [HN.out]; rfl, rfl⟩

/-- A node as a value. -/
def dmC (d : Dm) : Array Value := (dmL d).toArray
theorem dm_c0 {w : World} {b : Nat} {d : Dm} (h : RowAt w b 38 (dmC d)) : w.cell? ⟨b, 0, none⟩ = some (.int .i64 d.k) := by rw [cell_of_row w b _ _ _ _ h]; rfl
theorem dm_c1 {w : World} {b : Nat} {d : Dm} (h : RowAt w b 38 (dmC d)) : w.cell? ⟨b, 1, none⟩ = some (.string d.t) := by rw [cell_of_row w b _ _ _ _ h]; rfl
theorem dm_c2 {w : World} {b : Nat} {d : Dm} (h : RowAt w b 38 (dmC d)) : w.cell? ⟨b, 2, none⟩ = some (.int .i64 d.u) := by rw [cell_of_row w b _ _ _ _ h]; rfl

theorem txt_else {k : Int} {t : List UInt8} (h1 : k ≠ 1) (h2 : k ≠ 2) (h3 : k ≠ 3) (h4 : k ≠ 4) : txtOk k t = (isL k && (t == [])) := by
  unfold txtOk; rw [if_neg h1, if_neg h2, if_neg h3, if_neg h4]

set_option maxHeartbeats 1000000 in
set_option maxRecDepth 100000 in
theorem goodText_any (d : Dm) (w : World) (hs : d.t.size ≤ maxLen) (hT : Tab w.heap.size w) :
    Calls Tryz.prog 28 #[.agg (dmC d)] w fun e w' => e = .returned (.bool (txtOk d.k d.t.data.toList)) ∧ Below w.heap.size w w' := by
  have hR := RowAt.new w 38 (dmC d)
  have c0 := dm_c0 hR
  have c1 := dm_c1 hR
  have hB : Below w.heap.size w (w.alloc (.cells (dmC d) 38)) := (Below.refl _ _).alloc (Nat.le_refl _) _
  have HT : Hid (Tab (w.alloc (.cells (dmC d) 38)).heap.size (w.alloc (.cells (dmC d) 38))) := (hT.on hB).up hB.size
  obtain ⟨k, t, u⟩ := d
  simp only at c0 c1 hs ⊢
  clear hT hR
  by_cases h1 : k = 1
  · subst h1
    have HN : Hid (txtOk 1 t.data.toList = okN t.data.toList) := rfl
    go_enter Tryz.func28, Tryz.ntmps28
    go_wp2_with fail
    refine (implGoodNum_any t _ hs).mono ?_
    rintro e w' ⟨rfl, hW⟩
    rw [← HN.out]
    obtain ⟨o, ho⟩ : ∃ o, o = txtOk 1 t.data.toList := ⟨_, rfl⟩
    rw [← ho]
    have HO := hideT' ho
    clear ho
    go_wp2
    (try simp only [Exit.inBlock, Exit.then]); go_ret
    exact ⟨by rw [← HO.out]; rfl, hB.trans (hW.mono hB.size)⟩
  · by_cases h2 : k = 2
    · subst h2
      have HN : Hid (txtOk 2 t.data.toList = symOk t.data.toList) := rfl
      go_enter Tryz.func28, Tryz.ntmps28
      go_wp2_with fail
      refine (implGoodSymbol_any t _ hs HT.out).mono ?_
      rintro e w' ⟨rfl, hW⟩
      rw [← HN.out]
      obtain ⟨o, ho⟩ : ∃ o, o = txtOk 2 t.data.toList := ⟨_, rfl⟩
      rw [← ho]
      have HO := hideT' ho
      clear ho
      go_wp2
      (try simp only [Exit.inBlock, Exit.then]); go_ret
      exact ⟨by rw [← HO.out]; rfl, hB.trans (hW.mono hB.size)⟩
    · by_cases h3 : k = 3
      · subst h3
        have HN : Hid (txtOk 3 t.data.toList = strOk t.data.toList) := rfl
        go_enter Tryz.func28, Tryz.ntmps28
        go_wp2_with fail
        refine (goodString_any t _ hs).mono ?_
        rintro e w' ⟨rfl, rfl⟩
        rw [← HN.out]
        obtain ⟨o, ho⟩ : ∃ o, o = txtOk 3 t.data.toList := ⟨_, rfl⟩
        rw [← ho]
        have HO := hideT' ho
        clear ho
        go_wp2
        (try simp only [Exit.inBlock, Exit.then]); go_ret
        exact ⟨by rw [← HO.out]; rfl, hB⟩
      · by_cases h4 : k = 4
        · subst h4
          have HN : Hid (txtOk 4 t.data.toList = ((t.data.toList == [116]) || (t.data.toList == [102]))) := rfl
          have e1 : (t.toList == [116]) = (t.data.toList == [116]) := by rw [ByteArray.toList_eq]
          have e2 : (t.toList == [102]) = (t.data.toList == [102]) := by rw [ByteArray.toList_eq]
          cases g1 : (t.data.toList == [116]) with
          | true =>
            rw [g1] at e1 HN
            clear g1 e2
            go_enter Tryz.func28, Tryz.ntmps28
            go_wp2
            (try simp only [Exit.inBlock, Exit.then]); go_ret
            exact ⟨by rw [HN.out]; rfl, hB⟩
          | false =>
            rw [g1] at e1 HN
            cases g2 : (t.data.toList == [102]) with
            | true =>
              rw [g2] at e2 HN
              clear g1 g2
              go_enter Tryz.func28, Tryz.ntmps28
              go_wp2
              (try simp only [Exit.inBlock, Exit.then]); go_ret
              exact ⟨by rw [HN.out]; rfl, hB⟩
            | false =>
              rw [g2] at e2 HN
              clear g1 g2
              go_enter Tryz.func28, Tryz.ntmps28
              go_wp2
              (try simp only [Exit.inBlock, Exit.then]); go_ret
              exact ⟨by rw [HN.out]; rfl, hB⟩
        · have HN := hideT' (txt_else (t := t.data.toList) h1 h2 h3 h4)
          have f1 : (k == 1) = false := beq_eq_false_iff_ne.2 h1
          have f2 : (k == 2) = false := beq_eq_false_iff_ne.2 h2
          have f3 : (k == 3) = false := beq_eq_false_iff_ne.2 h3
          have f4 : (k == 4) = false := beq_eq_false_iff_ne.2 h4
          have e1 : (t.toList == []) = (t.data.toList == []) := by rw [ByteArray.toList_eq]
          clear h1 h2 h3 h4
          go_enter Tryz.func28, Tryz.ntmps28
          go_wp2_with fail
          refine (isList_any _ _).mono ?_
          rintro e w' ⟨rfl, rfl⟩
          cases g1 : isL k with
          | false =>
            rw [g1] at HN
            clear g1 e1
            go_wp2
            go_ret
            exact ⟨by rw [HN.out]; rfl, hB⟩
          | true =>
            rw [g1] at HN
            clear g1
            cases g2 : (t.data.toList == []) with
            | true =>
              rw [g2] at e1 HN
              clear g2
              go_wp2
              go_ret
              exact ⟨by rw [HN.out]; rfl, hB⟩
            | false =>
              rw [g2] at e1 HN
              clear g2
              go_wp2
              go_ret
              exact ⟨by rw [HN.out]; rfl, hB⟩
end Go.Proofs.YtjgpjafndaikcaaGreatDoor

/-
  Nodes of data, read and written whole; the parts of a list.
-/
namespace Go.Proofs.YtjgpjafndaikcaaGreatDoor
open Go.RowKit
set_option linter.unusedVariables false

def DmAt (w : World) (b : Nat) (d : Dm) : Prop := RowAt w b 38 (dmC d)
theorem zero_dm : (∀ w, (zeroValue 38).run Tryz.prog w = .ok (.agg (dmC default)) w) ∧ (Tryz.prog.info? 38).map (·.size) = some 3 := zero_of_info (by kernel_rfl)
theorem dm_info (d : Dm) : (Tryz.prog.info? 38).map (·.size) = some (dmC d).size := zero_dm.2
theorem dmC_one (d : Dm) : (dmC d).all (·.oneCell') = true := all_oneCell_toArray (fun v hv => by
  simp [dmL] at hv
  rcases hv with rfl | rfl | rfl <;> rfl)
theorem dat_range {w : World} {b : Nat} {l : List Dm} (h : DatAt w b l) {i : Nat} (hi : i < l.length) : w.rangeAt b (i * 3) (dmL (l.getD i default)) := fun j v hv => by
  have hj : j < 3 := by
    have := (List.getElem?_eq_some_iff.1 hv).1
    simpa [dmL] using this
  rw [show i * 3 + j = 3 * i + j by omega]
  exact dat_cell h i j hi hj v hv
/-- A node in a row is read. -/
theorem load_dm {ops : Array Oper} {rest : List Oper} {o : Oper} {a : Act} {w : World} {Q : Exit → Act → World → Prop} (hgd : o.guard = none) (x : Operand) (ho : o.op = .load 38 x)
    (b i : Nat) (hx : a.eval x = .pointer (some ⟨b, i * 3, none⟩)) (l : List Dm) (hD : DatAt w b l) (hi : i < l.length) (d : Dm) (hd : l.getD i default = d)
    (h : wpList Tryz.prog ops Q rest (a.put o.dst (.agg (dmC d))) w) : wpList Tryz.prog ops Q (o :: rest) a w := by
  subst hd
  exact wpList_load_mid hgd 38 x ho b (i * 3) hx (dmL (l.getD i default)) _ (dat_range hD hi) Tryz.underlying38 rfl zero_dm.2 h
theorem dm_parts (l : List Dm) (k : Nat) : ∃ (q : Int) (t : ByteArray) (y : Int), l.getD k default = ⟨q, t, y⟩ ∧ q = dk l k ∧ t = dt l k ∧ y = du l k := ⟨dk l k, dt l k, du l k, rfl, rfl, rfl, rfl⟩
/-- A variable is read. -/
theorem load_dv {ops : Array Oper} {rest : List Oper} {o : Oper} {a : Act} {w : World} {Q : Exit → Act → World → Prop} (hgd : o.guard = none) (x : Operand) (ho : o.op = .load 38 x)
    (b : Nat) (hx : a.eval x = .pointer (some ⟨b, 0, none⟩)) (d : Dm) (hN : DmAt w b d)
    (h : wpList Tryz.prog ops Q rest (a.put o.dst (.agg (dmC d))) w) : wpList Tryz.prog ops Q (o :: rest) a w :=
  wpList_load_row hgd 38 x ho b hx 38 (dmC d) (0, 0) _ hN Tryz.underlying38 rfl (dm_info d) h
/-- A variable is written. -/
theorem store_dv {ops : Array Oper} {rest : List Oper} {o : Oper} {a : Act} {w : World} {Q : Exit → Act → World → Prop} (hgd : o.guard = none) (x y : Operand) (ho : o.op = .store 38 x y) (hd : o.dst = none)
    (b : Nat) (d : Dm) (hx : a.eval x = .pointer (some ⟨b, 0, none⟩)) (hy : a.eval y = .agg (dmC d)) (d0 : Dm) (hN : DmAt w b d0)
    (h : ∀ w', DmAt w' b d → w.grownBy w' (some b) → w'.heap.size = w.heap.size → wpList Tryz.prog ops Q rest a w') : wpList Tryz.prog ops Q (o :: rest) a w := by
  refine wpList_store_row hgd 38 x y ho b (dmC d) hx hy 38 (dmC d0) hN (dm_info d) rfl (dmC_one _) ?_
  rw [hd]
  exact h _ (setRow_heap w b _ _ _ _ hN) ⟨rfl, rfl, rfl, by simp, fun k _ hne => setRow_other w b k _ (by intro e; exact hne (by rw [e]))⟩ (by simp)

def natI (q : List Nat) : List Int := q.map (fun j : Nat => (j : Int))
theorem natI_len (q : List Nat) : (natI q).length = q.length := by simp [natI]

set_option maxHeartbeats 1000000 in
set_option maxRecDepth 100000 in
theorem l3Parts_any (b : Nat) (l : List Dm) (k : Nat) (x : Int) (w : World) (hx : x = (k : Int)) (hk : k < l.length) (hn : l.length ≤ 300) (hD : DatAt w b l) :
    Calls Tryz.prog 25 #[slV b l, .int .i64 x] w fun e w' => ∃ v : Value, e = .returned v ∧ w'.ownsRow w.heap.size 3 1 v (prt l l.length k).length (ints (natI (prt l l.length k))) ∧ Below w.heap.size w w' := by
  have HD := hideT' hD
  have hb := RowAt.lt hD
  subst hx
  clear hD
  obtain ⟨i0, hi, hz0, hz1, hz2⟩ := info_parts Tryz.info_int
  go_enter Tryz.func25, Tryz.ntmps25
  go_wp2_with fail
  go_loopg [5, 6] (l.length - (k + 1)) (fun g v x wr => ∃ (j n : Nat), g = l.length - j ∧ j ≤ l.length ∧ k < j ∧ x = .int .i64 (j : Int) ∧ Hid (n = (prt l j k).length) ∧ n ≤ 300 ∧ wr.ownsRow w.heap.size 3 1 v n (ints (natI (prt l j k))) ∧ Below w.heap.size w wr)
  case atStart =>
    refine ⟨k + 1, 0, rfl, by omega, by omega, by go_num, ?_, by omega, ?_, Below.refl _ _⟩
    · unfold Hid; rw [prt_low l k (k + 1) (Nat.le_refl _)]; rfl
    · rw [prt_low l k (k + 1) (Nat.le_refl _)]; exact World.ownsRow_nil _ _ _ _
  case round =>
    obtain ⟨j, n, hg, hj, hkj, rfl, HN, hn3, hown, hW⟩ := hrel
    have hWs := hW.size
    by_cases hlt : (j : Int) < (l.length : Int)
    · have hj' : j < l.length := by omega
      have hcu := dat_u (RowAt.below HD.out hW hb) hj'
      obtain ⟨y, hy⟩ : ∃ y, y = du l j := ⟨_, rfl⟩
      rw [← hy] at hcu
      by_cases h1 : y = (k : Int)
      · have HP : Hid (prt l (j + 1) k = prt l j k ++ [j]) := by unfold Hid; rw [prt_snoc, if_pos ⟨hkj, by rw [← hy, h1]⟩]
        have h1' : (y == (k : Int)) = true := by rw [h1]; exact beq_self_eq_true _
        clear hy h1
        go_wp2_with (first | (at_builtin; refine wpList_append_own _ rfl _ _ 42 rfl w.heap.size 3 i0 (.int .i64 0) 1 8 Tryz.underlying42 hi hz0 hz1 hz2 rfl (by decide) _ _ _ rfl (hown.alloc _) ⟨wr.heap.size, 0, none⟩ 1 1 [.int .i64 (j : Int)] rfl rfl (cell_one_new _ _ _) (one_cell _) (by unfold maxLen; omega) (by omega) (by simp; omega) ?_; intro v' w1 hown' hgrow _))
        go_roundg (l.length - (j + 1))
        case measure => omega
        case rel =>
          have hnl := HN.out
          have hpl := prt_len l (j + 1) k
          rw [HP.out] at hpl
          simp at hpl
          refine ⟨j + 1, n + 1, rfl, by omega, by omega, by go_num, ?_, by omega, ?_, ?_⟩
          · unfold Hid; rw [HP.out, hnl]; simp
          · rw [HP.out]; simpa [ints, natI] using hown'
          · refine Below.grown (hW.alloc hWs _) hgrow (by simp; omega) ?_
            intro k hk; exact own_ge hown hk
      · have HP : Hid (prt l (j + 1) k = prt l j k) := by unfold Hid; rw [prt_snoc, if_neg (fun h => h1 (by rw [hy]; exact h.2)), List.append_nil]
        have h1' : (y == (k : Int)) = false := beq_eq_false_iff_ne.2 h1
        clear hy h1
        go_wp2_with fail
        go_roundg (l.length - (j + 1))
        case measure => omega
        case rel => exact ⟨j + 1, n, rfl, by omega, by omega, by go_num, by unfold Hid; rw [HP.out]; exact HN.out, by omega, by rw [HP.out]; exact hown, hW⟩
    · have hje : j = l.length := by omega
      subst hje
      go_wp2
      go_ret
      exact ⟨_, rfl, by rw [← HN.out]; exact hown, hW⟩
end Go.Proofs.YtjgpjafndaikcaaGreatDoor

/-
  What appendString and behindDot of impl answer.
-/
namespace Go.Proofs.YtjgpjafndaikcaaGreatDoor
open Go.RowKit
set_option linter.unusedVariables false

/-- A slice of bytes that the call owns. -/
def BytesAt (w : World) (B : Nat) (v : Value) (t : List UInt8) : Prop := w.ownsRow B 5 1 v t.length (Lib.byteCells t)
theorem BytesAt.nil (w : World) (B : Nat) : BytesAt w B (.slice none 0 0) [] := World.ownsRow_nil _ _ _ _
theorem bytes_snoc (t : List UInt8) (c : UInt8) : Lib.byteCells t ++ [Value.int .u8 (c.toNat : Int)] = Lib.byteCells (t ++ [c]) := by simp [Lib.byteCells]
theorem bytes_app (t : List UInt8) (s : ByteArray) : Lib.byteCells t ++ Lib.strCells s = Lib.byteCells (t ++ s.data.toList) := by simp [Lib.byteCells, Lib.strCells]
theorem two_cells (w : World) (t : TypeId) (x y : Value) : ∀ j u, [x, y][j]? = some u → (w.alloc (.cells #[x, y] t)).cell? ((⟨w.heap.size, 0, none⟩ : Addr).add j) = some u := fun j u h => by
  have e : (⟨w.heap.size, 0, none⟩ : Addr).add j = ⟨w.heap.size, j, none⟩ := by unfold Addr.add; split <;> simp_all
  rw [e, cell_of_row _ w.heap.size j #[x, y] t (0, 0) (heap_alloc_new _ _)]
  simpa using h
theorem two_one (x y : Int) : ∀ u ∈ [Value.int .u8 x, Value.int .u8 y], u.oneCell' = true := by
  intro u hu; simp at hu; rcases hu with rfl | rfl <;> rfl

theorem esc_len (c : UInt8) : (escB c).length ≤ 2 := by unfold escB; split <;> (try split) <;> simp
theorem esc_flat : ∀ l : List UInt8, (l.flatMap escB).length ≤ 2 * l.length
  | [] => by simp
  | c :: l => by
    rw [List.flatMap_cons, List.length_append, List.length_cons]
    have := esc_len c
    have := esc_flat l
    omega
theorem take_esc (s : ByteArray) (k : Nat) (h : k < s.size) : (s.data.toList.take (k + 1)).flatMap escB = (s.data.toList.take k).flatMap escB ++ escB s[k] := by
  rw [take_snoc s k h, List.flatMap_append]; simp

set_option maxHeartbeats 1000000 in
set_option maxRecDepth 100000 in
theorem appendString_any (B : Nat) (v : Value) (t : List UInt8) (s : ByteArray) (w : World) (hB : B ≤ w.heap.size) (hv : BytesAt w B v t) (ht : t.length ≤ 1000000000) (hs : s.size ≤ 1048576) :
    Calls Tryz.prog 86 #[v, .string s] w fun e w' => ∃ v' : Value, e = .returned v' ∧ BytesAt w' B v' (t ++ quo s.data.toList) ∧ Below B w w' := by
  obtain ⟨i0, hi, hz0, hz1, hz2⟩ := info_parts info_u8
  have hsl : s.data.toList.length = s.size := by simp
  have HSL := hideT' hsl
  clear hsl
  unfold BytesAt at hv
  obtain ⟨n0, hn0⟩ : ∃ n, n = t.length := ⟨_, rfl⟩
  rw [← hn0] at hv ht
  have HN0 := hideT' hn0
  clear hn0
  go_enter Tryz.func86, Tryz.ntmps86
  go_wp2_with (first | (at_builtin; refine wpList_append_own _ rfl _ _ 49 rfl B 5 i0 (.int .u8 0) 1 1 Tryz.underlying49 hi hz0 hz1 hz2 rfl (by decide) _ _ _ rfl (hv.alloc _) ⟨w.heap.size, 0, none⟩ 1 1 [.int .u8 34] rfl rfl (cell_one_new _ _ _) (one_byte _) (by unfold maxLen; omega) (by omega) (by simp; omega) ?_; intro v1 w1 hv1 hg1 _))
  have hB1 : Below B w w1 := ((Below.refl B w).alloc hB _).grown hg1 (by simp; omega) (fun k hk => own_ge hv hk)
  have hs1 := hB1.size
  have hv1' : w1.ownsRow B 5 1 v1 (n0 + 1) (Lib.byteCells (t ++ [34])) := by rw [← bytes_snoc]; exact hv1
  clear hv1 hg1 hv
  go_loopg [0, 11] s.size (fun g x i wr => ∃ (k n : Nat), g = s.size - k ∧ k ≤ s.size ∧ i = .int .i64 (k : Int) ∧ wr.ownsRow B 5 1 x n (Lib.byteCells (t ++ [34] ++ (s.data.toList.take k).flatMap escB)) ∧ Hid (n = (t ++ [34] ++ (s.data.toList.take k).flatMap escB).length) ∧ n ≤ n0 + 1 + 2 * k ∧ Below B w wr)
  case atStart =>
    refine ⟨0, n0 + 1, rfl, by omega, rfl, ?_, ?_, by omega, hB1⟩
    · simpa using hv1'
    · unfold Hid; rw [HN0.out]; simp
  case round =>
    obtain ⟨k, n, hg, hk, rfl, hv, HN, hn, hW⟩ := hrel
    have hWs := hW.size
    clear hv1' hB1
    by_cases hlt : (k : Int) < (s.size : Int)
    · have hk' : k < s.size := by omega
      have HT2 := hideT' (take_esc s k hk')
      by_cases h34 : s[k] = 34
      · have hb : (s[k].toNat : Int) = 34 := by rw [h34]; rfl
        have HE : Hid (escB s[k] = [92, 34]) := by unfold Hid; rw [h34]; rfl
        clear h34
        go_wp2_with (first | (at_builtin; refine wpList_append_own _ rfl _ _ 49 rfl B 5 i0 (.int .u8 0) 1 1 Tryz.underlying49 hi hz0 hz1 hz2 rfl (by decide) _ _ _ rfl (hv.alloc _) ⟨wr.heap.size, 0, none⟩ 2 2 [.int .u8 92, .int .u8 34] rfl rfl (two_cells _ _ _ _) (two_one _ _) (by unfold maxLen; omega) (by omega) (by simp; omega) ?_; intro v2 w2 hv2 hg2 _))
        go_roundg (s.size - (k + 1))
        case measure => omega
        case rel =>
          refine ⟨k + 1, n + 2, rfl, by omega, by go_num, ?_, ?_, by omega, (hW.alloc (by omega) _).grown hg2 (by simp; omega) (fun k hk => own_ge hv hk)⟩
          · rw [HT2.out, HE.out]; simpa [Lib.byteCells] using hv2
          · unfold Hid; rw [HT2.out, HE.out, HN.out]; simp only [List.length_append, List.length_cons, List.length_nil]; omega
      · have n34 : ((s[k].toNat : Int) == 34) = false := byte_ne (n := 34) (by decide) h34
        by_cases h92 : s[k] = 92
        · have hb : (s[k].toNat : Int) = 92 := by rw [h92]; rfl
          have HE : Hid (escB s[k] = [92, 92]) := by unfold Hid; rw [h92]; rfl
          clear h92 h34 n34
          go_wp2_with (first | (at_builtin; refine wpList_append_own _ rfl _ _ 49 rfl B 5 i0 (.int .u8 0) 1 1 Tryz.underlying49 hi hz0 hz1 hz2 rfl (by decide) _ _ _ rfl (hv.alloc _) ⟨wr.heap.size, 0, none⟩ 2 2 [.int .u8 92, .int .u8 92] rfl rfl (two_cells _ _ _ _) (two_one _ _) (by unfold maxLen; omega) (by omega) (by simp; omega) ?_; intro v2 w2 hv2 hg2 _))
          go_roundg (s.size - (k + 1))
          case measure => omega
          case rel =>
            refine ⟨k + 1, n + 2, rfl, by omega, by go_num, ?_, ?_, by omega, (hW.alloc (by omega) _).grown hg2 (by simp; omega) (fun k hk => own_ge hv hk)⟩
            · rw [HT2.out, HE.out]; simpa [Lib.byteCells] using hv2
            · unfold Hid; rw [HT2.out, HE.out, HN.out]; simp only [List.length_append, List.length_cons, List.length_nil]; omega
        · have n92 : ((s[k].toNat : Int) == 92) = false := byte_ne (n := 92) (by decide) h92
          by_cases h10 : s[k] = 10
          · have hb : (s[k].toNat : Int) = 10 := by rw [h10]; rfl
            have HE : Hid (escB s[k] = [92, 110]) := by unfold Hid; rw [h10]; rfl
            clear h92 h34 n34 n92 h10
            go_wp2_with (first | (at_builtin; refine Lib.wpList_append_own_string _ rfl _ _ 49 9 rfl B 5 i0 Tryz.underlying49 Tryz.underlying9 hi hz0 hz1 hz2 _ _ _ rfl hv ⟨#[92, 110]⟩ rfl (show n + 2 ≤ maxLen by unfold maxLen; omega) (show n + 2 ≤ _ by omega) (by omega) ?_; intro v2 w2 hv2 hg2 _))
            go_roundg (s.size - (k + 1))
            case measure => omega
            case rel =>
              refine ⟨k + 1, n + 2, rfl, by omega, by go_num, ?_, ?_, by omega, hW.grown hg2 (by omega) (fun k hk => own_ge hv hk)⟩
              · have hv3 : w2.ownsRow B 5 1 v2 (n + 2) _ := hv2
                rw [HT2.out, HE.out]; rw [bytes_app] at hv3; simpa using hv3
              · unfold Hid; rw [HT2.out, HE.out, HN.out]; simp only [List.length_append, List.length_cons, List.length_nil]; omega
          · have n10 : ((s[k].toNat : Int) == 10) = false := byte_ne (n := 10) (by decide) h10
            have HE : Hid (escB s[k] = [s[k]]) := by unfold Hid escB; rw [if_neg (by simp [h34, h92]), if_neg h10]
            clear h92 h34 h10
            go_wp2_with (first | (at_builtin; refine wpList_append_own _ rfl _ _ 49 rfl B 5 i0 (.int .u8 0) 1 1 Tryz.underlying49 hi hz0 hz1 hz2 rfl (by decide) _ _ _ rfl (hv.alloc _) ⟨wr.heap.size, 0, none⟩ 1 1 [.int .u8 (s[k].toNat : Int)] rfl rfl (cell_one_new _ _ _) (one_byte _) (by unfold maxLen; omega) (by omega) (by simp; omega) ?_; intro v2 w2 hv2 hg2 _))
            go_roundg (s.size - (k + 1))
            case measure => omega
            case rel =>
              refine ⟨k + 1, n + 1, rfl, by omega, by go_num, ?_, ?_, by omega, (hW.alloc (by omega) _).grown hg2 (by simp; omega) (fun k hk => own_ge hv hk)⟩
              · rw [HT2.out, HE.out]; rw [bytes_snoc] at hv2; simpa using hv2
              · unfold Hid; rw [HT2.out, HE.out, HN.out]; simp only [List.length_append, List.length_cons, List.length_nil]; omega
    · have hke : k = s.size := by omega
      have hfull : Hid (s.data.toList.take k = s.data.toList) := List.take_of_length_le (by rw [HSL.out]; omega)
      clear hke
      go_wp2_with (first | (at_builtin; refine wpList_append_own _ rfl _ _ 49 rfl B 5 i0 (.int .u8 0) 1 1 Tryz.underlying49 hi hz0 hz1 hz2 rfl (by decide) _ _ _ rfl (hv.alloc _) ⟨wr.heap.size, 0, none⟩ 1 1 [.int .u8 34] rfl rfl (cell_one_new _ _ _) (one_byte _) (by unfold maxLen; omega) (by omega) (by simp; omega) ?_; intro v2 w2 hv2 hg2 _))
      go_ret
      refine ⟨v2, rfl, ?_, (hW.alloc (by omega) _).grown hg2 (by simp; omega) (fun k hk => own_ge hv hk)⟩
      have e : t ++ quo s.data.toList = t ++ [34] ++ s.data.toList.flatMap escB ++ [34] := by unfold quo; simp
      have h2 : Lib.byteCells (t ++ [34] ++ (s.data.toList.take k).flatMap escB) ++ [Value.int .u8 34] = Lib.byteCells (t ++ quo s.data.toList) := by rw [hfull.out, e, ← bytes_snoc]; rfl
      have h3 : n + 1 = (t ++ quo s.data.toList).length := by rw [HN.out, hfull.out, e]; simp only [List.length_append, List.length_cons, List.length_nil]
      unfold BytesAt
      rw [← h3, ← h2]
      exact hv2

set_option maxHeartbeats 1000000 in
set_option maxRecDepth 100000 in
theorem behindDot_any (b : Nat) (l : List Dm) (k : Nat) (x : Int) (w : World) (hx : x = (k : Int)) (hk : k < l.length) (hn : l.length ≤ 300) (hD : DatAt w b l) (hu : -1 ≤ du l k ∧ du l k < (k : Int)) :
    Calls Tryz.prog 44 #[slV b l, .int .i64 x] w fun e w' => e = .returned (.bool (behB l k)) ∧ w' = w := by
  subst hx
  have HD := hideT' hD
  have hcu := dat_u hD hk
  have hck := dat_k hD hk
  obtain ⟨y, hy⟩ : ∃ y, y = du l k := ⟨_, rfl⟩
  obtain ⟨q, hq⟩ : ∃ q, q = dk l k := ⟨_, rfl⟩
  rw [← hy] at hcu hu
  rw [← hq] at hck
  have HY := hideT' hy
  have HQ := hideT' hq
  clear hD hy hq
  by_cases h0 : y < 0
  · have HN : Hid (behB l k = false) := by unfold Hid behB dotK; rw [← HY.out, decide_eq_false (by omega)]; rfl
    go_enter Tryz.func44, Tryz.ntmps44
    go_wp2
    go_ret
    exact ⟨by rw [HN.out]; rfl, rfl⟩
  · obtain ⟨j, rfl⟩ : ∃ j : Nat, y = (j : Int) := ⟨y.toNat, by omega⟩
    have hcj := dat_k HD.out (show j < l.length by omega)
    obtain ⟨p, hp⟩ : ∃ p, p = dk l j := ⟨_, rfl⟩
    rw [← hp] at hcj
    by_cases h6 : p = 6
    · have HB : Hid (behB l k = (!isL q && (decide (k + 1 = l.length) || !decide (du l (k + 1) = (j : Int))))) := by
        unfold Hid behB dotK; rw [← HY.out, Int.toNat_natCast, ← hp, h6, ← HQ.out]; rfl
      clear hp
      subst h6
      go_enter Tryz.func44, Tryz.ntmps44
      go_wp2_with fail
      refine (isList_any _ _).mono ?_
      rintro e w' ⟨rfl, rfl⟩
      cases hl : isL q with
      | true =>
        rw [hl] at HB
        clear hl
        go_wp2
        go_ret
        exact ⟨by rw [HB.out]; rfl, rfl⟩
      | false =>
        rw [hl] at HB
        clear hl
        by_cases he : k + 1 = l.length
        · have he' : ((k : Int) + 1 == (l.length : Int)) = true := by rw [← he]; simp
          rw [decide_eq_true he] at HB
          clear he
          go_wp2
          go_ret
          exact ⟨by rw [HB.out]; rfl, rfl⟩
        · have he' : ((k : Int) + 1 == (l.length : Int)) = false := beq_eq_false_iff_ne.2 (by omega)
          have hk2 : k + 1 < l.length := by omega
          have hk3 : (k : Int) + 1 < (l.length : Int) := by omega
          have hcu2 := dat_u HD.out hk2
          obtain ⟨z, hz⟩ : ∃ z, z = du l (k + 1) := ⟨_, rfl⟩
          rw [← hz] at hcu2
          rw [decide_eq_false he, ← hz] at HB
          obtain ⟨k1, hk1⟩ : ∃ k1, k1 = k + 1 := ⟨_, rfl⟩
          rw [← hk1] at hcu2
          have hkk : (k : Int) + 1 = (k1 : Int) := by omega
          clear he hz hk1
          rw [hkk] at he' hk3
          go_wp2
          go_ret
          exact ⟨by rw [HB.out]; rfl, rfl⟩
    · have h6' : (p != 6) = true := by simpa using h6
      have HN : Hid (behB l k = false) := by unfold Hid behB dotK; rw [← HY.out, Int.toNat_natCast, ← hp, decide_eq_false h6]; simp
      clear hp h6
      go_enter Tryz.func44, Tryz.ntmps44
      go_wp2
      go_ret
      exact ⟨by rw [HN.out]; rfl, rfl⟩
end Go.Proofs.YtjgpjafndaikcaaGreatDoor

/-
  What spec.l3Quote answers.
-/
namespace Go.Proofs.YtjgpjafndaikcaaGreatDoor
open Go.RowKit
set_option linter.unusedVariables false

theorem ba_app (a b : ByteArray) : (a ++ b).data.toList = a.data.toList ++ b.data.toList := by
  rw [ByteArray.data_append, Array.toList_append]

set_option maxHeartbeats 1000000 in
set_option maxRecDepth 100000 in
theorem l3Quote_any (s : ByteArray) (w : World) (hs : s.size ≤ 1048576) :
    Calls Tryz.prog 43 #[.string s] w fun e w' => (∃ q : ByteArray, e = .returned (.string q) ∧ q.data.toList = quo s.data.toList) ∧ w' = w := by
  have hsl : s.data.toList.length = s.size := by simp
  have HSL := hideT' hsl
  clear hsl
  go_enter Tryz.func43, Tryz.ntmps43
  go_wp2_with fail
  go_loopg [3, 4] s.size (fun g x i wr => ∃ (k : Nat) (o : ByteArray), g = s.size - k ∧ k ≤ s.size ∧ i = .int .i64 (k : Int) ∧ x = .string o ∧ Hid (o.data.toList = 34 :: (s.data.toList.take k).flatMap escB) ∧ wr = w)
  case atStart => exact ⟨0, ⟨#[34]⟩, rfl, by omega, rfl, rfl, by unfold Hid; simp, rfl⟩
  case round =>
    obtain ⟨k, o, hg, hk, rfl, rfl, HO, rfl⟩ := hrel
    by_cases hlt : (k : Int) < (s.size : Int)
    · have hk' : k < s.size := by omega
      have HT2 := hideT' (take_esc s k hk')
      have HX := hideT' (ext_list s k hk')
      obtain ⟨k1, hk1⟩ : ∃ k1, k1 = k + 1 := ⟨_, rfl⟩
      have hwk : IntKind.i64.wrap ((k : Int) + 1) = (k1 : Int) := by rw [IntKind.wrap_i64]; omega
      have hk1' : (k1 : Int) ≤ (s.size : Int) := by omega
      have hkk : (k : Int) ≤ (k1 : Int) := by omega
      rw [← hk1] at HX HT2
      have HK1 := hideT' hk1
      clear hk1
      have hos : o.size ≤ 3000000 := by
        have h1 : o.data.toList.length = o.size := by simp
        have h2 := esc_flat (s.data.toList.take k)
        have h3 : (s.data.toList.take k).length ≤ s.size := by rw [List.length_take, HSL.out]; omega
        rw [HO.out, List.length_cons] at h1
        omega
      have hc1 : ¬ 9223372036854775807 < o.size + (1 + (min k1 s.size - k)) := by omega
      have hc2 : ¬ 9223372036854775807 < o.size + (min k1 s.size - k) := by omega
      have hc3 : ¬ 9223372036854775807 < o.size + 2 := by omega
      have hc4 : ¬ 9223372036854775807 < 1 + (min k1 s.size - k) := by omega
      by_cases h34 : s[k] = 34
      · have hb : (s[k].toNat : Int) = 34 := by rw [h34]; rfl
        have HE : Hid (escB s[k] = [92, s[k]]) := by unfold Hid; rw [h34]; rfl
        clear h34
        go_wp2_with fail
        go_roundg (s.size - (k + 1))
        case measure => omega
        case rel =>
          refine ⟨k + 1, _, rfl, by omega, by rw [← HK1.out], rfl, ?_, rfl⟩
          unfold Hid
          rw [ba_app, ba_app, HO.out, HX.out, ← HK1.out, HT2.out, HE.out]; simp
      · have n34 : ((s[k].toNat : Int) == 34) = false := byte_ne (n := 34) (by decide) h34
        by_cases h92 : s[k] = 92
        · have hb : (s[k].toNat : Int) = 92 := by rw [h92]; rfl
          have HE : Hid (escB s[k] = [92, s[k]]) := by unfold Hid; rw [h92]; rfl
          clear h92 h34 n34
          go_wp2_with fail
          go_roundg (s.size - (k + 1))
          case measure => omega
          case rel =>
            refine ⟨k + 1, _, rfl, by omega, by rw [← HK1.out], rfl, ?_, rfl⟩
            unfold Hid
            rw [ba_app, ba_app, HO.out, HX.out, ← HK1.out, HT2.out, HE.out]; simp
        · have n92 : ((s[k].toNat : Int) == 92) = false := byte_ne (n := 92) (by decide) h92
          by_cases h10 : s[k] = 10
          · have hb : (s[k].toNat : Int) = 10 := by rw [h10]; rfl
            have HE : Hid (escB s[k] = [92, 110]) := by unfold Hid; rw [h10]; rfl
            clear h92 h34 n34 n92 h10
            go_wp2_with fail
            go_roundg (s.size - (k + 1))
            case measure => omega
            case rel =>
              refine ⟨k + 1, _, rfl, by omega, by rw [← HK1.out], rfl, ?_, rfl⟩
              unfold Hid
              rw [ba_app, HO.out, ← HK1.out, HT2.out, HE.out]; simp
          · have n10 : ((s[k].toNat : Int) == 10) = false := byte_ne (n := 10) (by decide) h10
            have HE : Hid (escB s[k] = [s[k]]) := by unfold Hid escB; rw [if_neg (by simp [h34, h92]), if_neg h10]
            clear h92 h34 h10
            go_wp2_with fail
            go_roundg (s.size - (k + 1))
            case measure => omega
            case rel =>
              refine ⟨k + 1, _, rfl, by omega, by rw [← HK1.out], rfl, ?_, rfl⟩
              unfold Hid
              rw [ba_app, HO.out, HX.out, ← HK1.out, HT2.out, HE.out]; simp
    · have hfull : Hid (s.data.toList.take k = s.data.toList) := List.take_of_length_le (by rw [HSL.out]; omega)
      have hos : o.size ≤ 3000000 := by
        have h1 : o.data.toList.length = o.size := by simp
        have h2 := esc_flat (s.data.toList.take k)
        have h3 : (s.data.toList.take k).length ≤ s.size := by rw [List.length_take, HSL.out]; omega
        rw [HO.out, List.length_cons] at h1
        omega
      have hc1 : ¬ 9223372036854775807 < o.size + 1 := by omega
      go_wp2
      go_ret
      refine ⟨⟨_, rfl, ?_⟩, rfl⟩
      rw [ba_app, HO.out, hfull.out]
      unfold quo
      simp
end Go.Proofs.YtjgpjafndaikcaaGreatDoor

/-
  What spec.GoodData answers.
-/
namespace Go.Proofs.YtjgpjafndaikcaaGreatDoor
open Go.RowKit
set_option linter.unusedVariables false

theorem dm_c1x {w : World} {b : Nat} {q : Int} {t : ByteArray} {y : Int} (h : DmAt w b ⟨q, t, y⟩) : w.cell? ⟨b, 1, none⟩ = some (.string t) := dm_c1 h
theorem node_eq {l : List Dm} {k : Nat} {q : Int} {t : ByteArray} {c : Nat} (hU : upOk l k = true) (hq : q = dk l k) (ht : t = dt l k) (hc : c = dep l (k + 1) (k : Int)) :
    nodeOk l k = ((txtOk q t.data.toList && decide ((c : Int) ≤ 25)) && dotOk l k) := by
  unfold nodeOk deepOk
  rw [hU, Bool.true_and, ← hq, ← ht, ← hc]
  congr 2
  exact decide_eq_decide.2 (by omega)
theorem dot_not6 {l : List Dm} {k : Nat} {q : Int} (hq : q = dk l k) (h : q ≠ 6) : dotOk l k = true := by
  unfold dotOk; rw [← hq, decide_eq_false h]; rfl
theorem dot_6 {l : List Dm} {k : Nat} (hq : (6 : Int) = dk l k) : dotOk l k = (decide (2 ≤ (prt l l.length k).length) && !lastL l (prt l l.length k)) := by
  unfold dotOk; rw [← hq]; rfl
theorem lastL_get {l : List Dm} {q : List Nat} (h : 0 < q.length) : lastL l q = isL (dk l (q.getD (q.length - 1) 0)) := by
  unfold lastL
  rw [List.getLast?_eq_getElem?, List.getElem?_eq_getElem (by omega)]
  simp [List.getD, List.getElem?_eq_getElem (show q.length - 1 < q.length by omega)]
theorem natI_get (q : List Nat) (i : Nat) : (natI q).getD i 0 = ((q.getD i 0 : Nat) : Int) := by
  unfold natI
  simp only [List.getD, List.getElem?_map]
  cases q[i]? <;> rfl
theorem prt_at {l : List Dm} {n k i : Nat} (h : i < (prt l n k).length) : (prt l n k).getD i 0 < n := by
  refine prt_mem (l := l) (n := n) (k := k) ?_
  simp only [List.getD, List.getElem?_eq_getElem h, Option.getD_some]
  exact List.getElem_mem _

set_option maxHeartbeats 4000000 in
set_option maxRecDepth 100000 in
theorem specGoodData_any (b : Nat) (l : List Dm) (w : World) (hs : ∀ i, i < l.length → (dt l i).size ≤ maxLen) (hD : DatAt w b l) :
    Calls Tryz.prog 8 #[slV b l] w fun e w' => e = .returned (.bool (goodAll l)) ∧ Below w.heap.size w w' := by
  have hz := zero_dm.1
  have HD := hideT' hD
  have HS := hideT' hs
  have hb := RowAt.lt hD
  clear hD hs
  by_cases hn : (300 : Int) < (l.length : Int)
  · have HN : Hid (goodAll l = false) := by unfold Hid goodAll; rw [decide_eq_false (by omega)]; rfl
    go_enter Tryz.func8, Tryz.ntmps8
    go_wp2
    go_ret
    exact ⟨by rw [HN.out]; rfl, Below.refl _ _⟩
  · have hn3 : l.length ≤ 300 := by omega
    go_enter Tryz.func8, Tryz.ntmps8
    go_wp2_with fail
    go_loopg [14] l.length (fun g i wr => ∃ k : Nat, g = l.length - k ∧ k ≤ l.length ∧ i = .int .i64 (k : Int) ∧ Hid (∀ j, j < k → nodeOk l j = true) ∧ Hid (Up l k) ∧ Below w.heap.size w wr)
    case atStart => exact ⟨0, rfl, by omega, rfl, fun j hj => by omega, fun j hj => by omega, Below.refl _ _⟩
    case round =>
      obtain ⟨k, hg, hk, rfl, HK, HU, hW⟩ := hrel
      have hWs := hW.size
      by_cases hlt : (k : Int) < (l.length : Int)
      · have hk' : k < l.length := by omega
        have hDr : DatAt wr b l := RowAt.below HD.out hW hb
        have A : DmAt (wr.alloc (.cells (dmC default) 38)) wr.heap.size default := RowAt.new wr _ _
        obtain ⟨q, t, y, hd, hq, ht, hy⟩ := dm_parts l k
        have HDM := hideT' hd
        have HQ := hideT' hq
        have HTX := hideT' ht
        have HY := hideT' hy
        have hts : t.size ≤ maxLen := by rw [ht]; exact HS.out k hk'
        clear hd hq ht hy
        go_wp2_with (first | (refine load_dm rfl _ rfl b k rfl l hDr hk' ⟨q, t, y⟩ HDM.out ?_) | (refine store_dv rfl _ _ rfl rfl wr.heap.size ⟨q, t, y⟩ rfl rfl default A ?_; intro w1 hN1 hg1 hs1; have c0 : w1.cell? ⟨wr.heap.size, 0, none⟩ = some (.int .i64 q) := dm_c0 hN1; have c1 : w1.cell? ⟨wr.heap.size, 1, none⟩ = some (.string t) := dm_c1 hN1; have c2 : w1.cell? ⟨wr.heap.size, 2, none⟩ = some (.int .i64 y) := dm_c2 hN1))
        have hW1 : Below w.heap.size w w1 := (hW.alloc hWs _).grown hg1 (by simp; omega) (by intro k hk; cases hk; omega)
        have hD1 : DatAt w1 b l := RowAt.below HD.out hW1 hb
        have hs1' : w1.heap.size = wr.heap.size + 1 := by rw [hs1]; simp
        clear A hg1 hs1 hDr hW
        have NO : Hid (nodeOk l k = false → goodAll l = false) := fun h => node_bad hk' h
        refine (l1In_any y (-1) _ _).mono ?_
        rintro e w' ⟨rfl, rfl⟩
        cases hin : (decide (-1 ≤ y) && decide (y ≤ (k : Int) - 1)) with
        | false =>
          have HF := hideT' (NO.out (node_upBad (by
            cases hu : upOk l k with
            | false => rfl
            | true =>
              have h2 := upOk_up HU.out hu
              rw [← HY.out] at h2
              rw [decide_eq_true h2.1, decide_eq_true (by omega)] at hin
              cases hin)))
          clear hin
          go_wp2
          go_ret
          exact ⟨by rw [HF.out]; rfl, hW1⟩
        | true =>
          clear hin
          go_wp2_with fail
          refine (l3Around_any b l k _ y _ rfl HY.out hk' hn3 hD1 HU.out).mono ?_
          rintro e w' ⟨rfl, rfl⟩
          cases hu : upOk l k with
          | false =>
            have HF := hideT' (NO.out (node_upBad hu))
            clear hu
            go_wp2
            go_ret
            exact ⟨by rw [HF.out]; rfl, hW1⟩
          | true =>
            have HOK := hideT' hu
            have HU2 : Hid (Up l (k + 1)) := HU.out.succ hu
            clear hu
            go_wp2_with fail
            go_loopg [5, 6] (k + 1) (fun g dp i wq => ∃ (c : Nat) (a : Int), dp = .int .i64 (c : Int) ∧ i = .int .i64 a ∧ -1 ≤ a ∧ a < (g : Int) ∧ c + g ≤ k + 1 ∧ Hid (c + dep l g a = dep l (k + 1) (k : Int)) ∧ wq = w')
            case atStart => exact ⟨0, (k : Int), rfl, rfl, by omega, by omega, by omega, by unfold Hid; omega, rfl⟩
            case round =>
              obtain ⟨c, a, rfl, rfl, ha, hag, hcg, HC, rfl⟩ := hrel
              by_cases h0 : 0 ≤ a
              · obtain ⟨j, rfl⟩ : ∃ j : Nat, a = (j : Int) := ⟨a.toNat, by omega⟩
                have hcu2 := dat_u hD1 (show j < l.length by omega)
                have hck2 := dat_k hD1 (show j < l.length by omega)
                have hu := HU2.out j (by omega)
                obtain ⟨gk', rfl⟩ : ∃ g', gk = g' + 1 := ⟨gk - 1, by omega⟩
                have HC1 : Hid (c + ((if isL (dk l j) then 1 else 0) + dep l gk' (du l j)) = dep l (k + 1) (k : Int)) := by
                  have := HC.out
                  rw [dep_step h0, Int.toNat_natCast] at this
                  exact this
                go_wp2_with fail
                refine (l3IsList_any _ _).mono ?_
                rintro e w2 ⟨rfl, rfl⟩
                cases hl : isL (dk l j) with
                | true =>
                  have HC2 : Hid (c + 1 + dep l gk' (du l j) = dep l (k + 1) (k : Int)) := by
                    have := HC1.out
                    rw [hl, if_pos rfl] at this
                    unfold Hid; omega
                  clear hl
                  go_wp2
                  go_roundg gk'
                  case measure => omega
                  case rel => exact ⟨c + 1, du l j, by go_num, rfl, hu.1, by omega, by omega, HC2, rfl⟩
                | false =>
                  have HC2 : Hid (c + dep l gk' (du l j) = dep l (k + 1) (k : Int)) := by
                    have := HC1.out
                    rw [hl] at this
                    simp only [Bool.false_eq_true, if_false, Nat.zero_add] at this
                    exact this
                  clear hl
                  go_wp2
                  go_roundg gk'
                  case measure => omega
                  case rel => exact ⟨c, du l j, rfl, rfl, hu.1, by omega, by omega, HC2, rfl⟩
              · have HND : Hid (nodeOk l k = ((txtOk q t.data.toList && decide ((c : Int) ≤ 25)) && dotOk l k)) := node_eq HOK.out HQ.out HTX.out (by
                  have := HC.out
                  rw [dep_end (by omega)] at this
                  omega)
                have GO : Hid (nodeOk l k = true → ∀ j, j < k + 1 → nodeOk l j = true) := fun h j hj => by
                  by_cases e : j = k
                  · subst e; exact h
                  · exact HK.out j (by omega)
                have e0 : (t.toList == []) = (t.data.toList == []) := by rw [ByteArray.toList_eq]
                have e1 : (t.toList == [116]) = (t.data.toList == [116]) := by rw [ByteArray.toList_eq]
                have e2 : (t.toList == [102]) = (t.data.toList == [102]) := by rw [ByteArray.toList_eq]
                clear HC HK
                by_cases hc : (c : Int) ≤ 25
                · rw [decide_eq_true hc] at HND
                  by_cases h1 : q = 1
                  · subst h1
                    have HND2 : Hid (nodeOk l k = okN t.data.toList) := by unfold Hid; rw [HND.out, dot_not6 HQ.out (by decide), Bool.and_true, Bool.and_true]; rfl
                    go_wp2_with fail
                    refine (specGoodNum_any t _ hts).mono ?_
                    rintro e w3 ⟨rfl, hW3⟩
                    have hW13 := hW1.trans (hW3.mono hW1.size)
                    cases ho : okN t.data.toList with
                    | true =>
                      have HK2 := hideT' (GO.out (by rw [HND2.out]; exact ho))
                      clear ho
                      go_wp2
                      go_roundg (l.length - (k + 1))
                      case measure => omega
                      case rel => exact ⟨k + 1, rfl, by omega, by go_num, HK2, HU2, hW13⟩
                    | false =>
                      have HF := hideT' (NO.out (by rw [HND2.out]; exact ho))
                      clear ho
                      go_wp2
                      go_ret
                      exact ⟨by rw [HF.out]; rfl, hW13⟩
                  · by_cases h2 : q = 2
                    · subst h2
                      have HND2 : Hid (nodeOk l k = symOk t.data.toList) := by unfold Hid; rw [HND.out, dot_not6 HQ.out (by decide), Bool.and_true, Bool.and_true]; rfl
                      go_wp2_with fail
                      refine (l3Symbol_any t _ hts).mono ?_
                      rintro e w3 ⟨rfl, hW3⟩
                      have hW13 := hW1.trans (hW3.mono hW1.size)
                      cases ho : symOk t.data.toList with
                      | true =>
                        have HK2 := hideT' (GO.out (by rw [HND2.out]; exact ho))
                        clear ho
                        go_wp2
                        go_roundg (l.length - (k + 1))
                        case measure => omega
                        case rel => exact ⟨k + 1, rfl, by omega, by go_num, HK2, HU2, hW13⟩
                      | false =>
                        have HF := hideT' (NO.out (by rw [HND2.out]; exact ho))
                        clear ho
                        go_wp2
                        go_ret
                        exact ⟨by rw [HF.out]; rfl, hW13⟩
                    · by_cases h3 : q = 3
                      · subst h3
                        have HND2 : Hid (nodeOk l k = strOk t.data.toList) := by unfold Hid; rw [HND.out, dot_not6 HQ.out (by decide), Bool.and_true, Bool.and_true]; rfl
                        go_wp2_with fail
                        refine (l3String_any t _ hts).mono ?_
                        rintro e w3 ⟨rfl, rfl⟩
                        cases ho : strOk t.data.toList with
                        | true =>
                          have HK2 := hideT' (GO.out (by rw [HND2.out]; exact ho))
                          clear ho
                          go_wp2
                          go_roundg (l.length - (k + 1))
                          case measure => omega
                          case rel => exact ⟨k + 1, rfl, by omega, by go_num, HK2, HU2, hW1⟩
                        | false =>
                          have HF := hideT' (NO.out (by rw [HND2.out]; exact ho))
                          clear ho
                          go_wp2
                          go_ret
                          exact ⟨by rw [HF.out]; rfl, hW1⟩
                      · by_cases h4 : q = 4
                        · subst h4
                          have HND2 : Hid (nodeOk l k = ((t.data.toList == [116]) || (t.data.toList == [102]))) := by unfold Hid; rw [HND.out, dot_not6 HQ.out (by decide), Bool.and_true, Bool.and_true]; rfl
                          cases g1 : (t.data.toList == [116]) with
                          | true =>
                            rw [g1] at e1
                            have HK2 := hideT' (GO.out (by rw [HND2.out, g1]; rfl))
                            clear g1 e0 e2
                            go_wp2
                            go_roundg (l.length - (k + 1))
                            case measure => omega
                            case rel => exact ⟨k + 1, rfl, by omega, by go_num, HK2, HU2, hW1⟩
                          | false =>
                            rw [g1] at e1
                            cases g2 : (t.data.toList == [102]) with
                            | true =>
                              rw [g2] at e2
                              have HK2 := hideT' (GO.out (by rw [HND2.out, g1, g2]; rfl))
                              clear g1 g2 e0
                              go_wp2
                              go_roundg (l.length - (k + 1))
                              case measure => omega
                              case rel => exact ⟨k + 1, rfl, by omega, by go_num, HK2, HU2, hW1⟩
                            | false =>
                              rw [g2] at e2
                              have HF := hideT' (NO.out (by rw [HND2.out, g1, g2]; rfl))
                              clear g1 g2 e0
                              go_wp2
                              go_ret
                              exact ⟨by rw [HF.out]; rfl, hW1⟩
                        · by_cases h5 : q = 5
                          · subst h5
                            have HND2 : Hid (nodeOk l k = (t.data.toList == [])) := by unfold Hid; rw [HND.out, dot_not6 HQ.out (by decide), Bool.and_true, Bool.and_true]; rfl
                            cases g1 : (t.data.toList == []) with
                            | true =>
                              rw [g1] at e0
                              have HK2 := hideT' (GO.out (by rw [HND2.out]; exact g1))
                              clear g1 e1 e2
                              go_wp2
                              go_roundg (l.length - (k + 1))
                              case measure => omega
                              case rel => exact ⟨k + 1, rfl, by omega, by go_num, HK2, HU2, hW1⟩
                            | false =>
                              rw [g1] at e0
                              have HF := hideT' (NO.out (by rw [HND2.out]; exact g1))
                              clear g1 e1 e2
                              go_wp2
                              go_ret
                              exact ⟨by rw [HF.out]; rfl, hW1⟩
                          · by_cases h6 : q = 6
                            · subst h6
                              have HND2 : Hid (nodeOk l k = ((t.data.toList == []) && (decide (2 ≤ (prt l l.length k).length) && !lastL l (prt l l.length k)))) := by unfold Hid; rw [HND.out, dot_6 HQ.out, Bool.and_true]; rfl
                              go_wp2_with fail
                              refine (l3Parts_any b l k _ _ rfl hk' hn3 hD1).mono ?_
                              rintro e w3 ⟨v, rfl, hown, hW3⟩
                              have hW13 := hW1.trans (hW3.mono hW1.size)
                              have c1' := dm_c1x (RowAt.below hN1 hW3 (by omega))
                              have hD3 : DatAt w3 b l := RowAt.below HD.out hW13 hb
                              have hpl := prt_len l l.length k
                              have PM : Hid (∀ i, i < (prt l l.length k).length → (prt l l.length k).getD i 0 < l.length) := fun i hi => prt_at hi
                              have LG : Hid (0 < (prt l l.length k).length → lastL l (prt l l.length k) = isL (dk l ((prt l l.length k).getD ((prt l l.length k).length - 1) 0))) := fun h => lastL_get h
                              have OC : Hid (0 < (prt l l.length k).length → ∃ g cap, v = .slice (some ⟨g, 0, none⟩) (prt l l.length k).length cap ∧ w3.cell? ⟨g, (prt l l.length k).length - 1, none⟩ = some (.int .i64 (((prt l l.length k).getD ((prt l l.length k).length - 1) 0 : Nat) : Int)) ∧ (prt l l.length k).length ≤ cap) := fun h => by
                                obtain ⟨g, cap, rfl, _, _, hcap, _⟩ := own_form hown h
                                have := own_cell hown ((prt l l.length k).length - 1) (by rw [natI_len]; omega)
                                rw [natI_get] at this
                                exact ⟨g, cap, rfl, this, hcap⟩
                              obtain ⟨o, cap, hv⟩ := own_form8 hown
                              obtain ⟨P, hP⟩ : ∃ P, P = prt l l.length k := ⟨_, rfl⟩
                              rw [← hP] at HND2 hpl PM LG OC hv
                              clear hP hown hW3
                              obtain ⟨m, hm⟩ : ∃ m, m = P.length := ⟨_, rfl⟩
                              rw [← hm] at HND2 hpl PM LG OC hv
                              clear hm
                              cases g1 : (t.data.toList == []) with
                              | false =>
                                rw [g1] at e0
                                have HF := hideT' (NO.out (by rw [HND2.out, g1]; rfl))
                                subst hv
                                clear g1 e1 e2 OC
                                go_wp2
                                go_ret
                                exact ⟨by rw [HF.out]; rfl, hW13⟩
                              | true =>
                                rw [g1] at e0
                                by_cases hm1 : (1 : Int) < (m : Int)
                                · obtain ⟨g, cap', hv', hcl, hcap⟩ := OC.out (by omega)
                                  subst hv'
                                  clear hv
                                  obtain ⟨z, hz'⟩ : ∃ z, z = P.getD (m - 1) 0 := ⟨_, rfl⟩
                                  have hzl : z < l.length := by rw [hz']; exact PM.out _ (by omega)
                                  rw [← hz'] at hcl
                                  have HND3 : Hid (nodeOk l k = !isL (dk l z)) := by unfold Hid; rw [HND2.out, g1, decide_eq_true (by omega), LG.out (by omega), ← hz']; rfl
                                  obtain ⟨m1, rfl⟩ : ∃ m1, m = m1 + 1 := ⟨m - 1, by omega⟩
                                  rw [Nat.add_sub_cancel] at hcl
                                  have hck := dat_k hD3 hzl
                                  clear g1 e1 e2 OC hz' HND2 LG PM
                                  go_wp2_with fail
                                  refine (l3IsList_any _ _).mono ?_
                                  rintro e w4 ⟨rfl, rfl⟩
                                  cases ho : isL (dk l z) with
                                  | false =>
                                    have HK2 := hideT' (GO.out (by rw [HND3.out, ho]; rfl))
                                    clear ho
                                    go_wp2
                                    go_roundg (l.length - (k + 1))
                                    case measure => omega
                                    case rel => exact ⟨k + 1, rfl, by omega, by go_num, HK2, HU2, hW13⟩
                                  | true =>
                                    have HF := hideT' (NO.out (by rw [HND3.out, ho]; rfl))
                                    clear ho
                                    go_wp2
                                    go_ret
                                    exact ⟨by rw [HF.out]; rfl, hW13⟩
                                · have HF := hideT' (NO.out (by rw [HND2.out, g1, decide_eq_false (by omega)]; rfl))
                                  subst hv
                                  clear g1 e1 e2 OC
                                  go_wp2
                                  go_ret
                                  exact ⟨by rw [HF.out]; rfl, hW13⟩
                            · have f1 : (q == 1) = false := beq_eq_false_iff_ne.2 h1
                              have f2 : (q == 2) = false := beq_eq_false_iff_ne.2 h2
                              have f3 : (q == 3) = false := beq_eq_false_iff_ne.2 h3
                              have f4 : (q == 4) = false := beq_eq_false_iff_ne.2 h4
                              have f5 : (q == 5) = false := beq_eq_false_iff_ne.2 h5
                              have f6 : (q == 6) = false := beq_eq_false_iff_ne.2 h6
                              have HF := hideT' (NO.out (by rw [HND.out, txt_else h1 h2 h3 h4]; unfold isL; rw [decide_eq_false h5, decide_eq_false h6]; rfl))
                              clear h1 h2 h3 h4 h5 h6
                              go_wp2
                              go_ret
                              exact ⟨by rw [HF.out]; rfl, hW1⟩
                · have HF := hideT' (NO.out (by rw [HND.out, decide_eq_false hc, Bool.and_false]; rfl))
                  by_cases h1 : q = 1
                  · subst h1
                    go_wp2
                    go_ret
                    exact ⟨by rw [HF.out]; rfl, hW1⟩
                  · by_cases h2 : q = 2
                    · subst h2
                      go_wp2
                      go_ret
                      exact ⟨by rw [HF.out]; rfl, hW1⟩
                    · by_cases h3 : q = 3
                      · subst h3
                        go_wp2
                        go_ret
                        exact ⟨by rw [HF.out]; rfl, hW1⟩
                      · by_cases h4 : q = 4
                        · subst h4
                          go_wp2
                          go_ret
                          exact ⟨by rw [HF.out]; rfl, hW1⟩
                        · by_cases h5 : q = 5
                          · subst h5
                            go_wp2
                            go_ret
                            exact ⟨by rw [HF.out]; rfl, hW1⟩
                          · by_cases h6 : q = 6
                            · subst h6
                              go_wp2_with fail
                              refine (l3Parts_any b l k _ _ rfl hk' hn3 hD1).mono ?_
                              rintro e w3 ⟨v, rfl, hown, hW3⟩
                              obtain ⟨o, cap, rfl⟩ := own_form8 hown
                              have hW13 := hW1.trans (hW3.mono hW1.size)
                              have c1' := dm_c1x (RowAt.below hN1 hW3 (by omega))
                              go_wp2
                              go_ret
                              exact ⟨by rw [HF.out]; rfl, hW13⟩
                            · have f1 : (q == 1) = false := beq_eq_false_iff_ne.2 h1
                              have f2 : (q == 2) = false := beq_eq_false_iff_ne.2 h2
                              have f3 : (q == 3) = false := beq_eq_false_iff_ne.2 h3
                              have f4 : (q == 4) = false := beq_eq_false_iff_ne.2 h4
                              have f5 : (q == 5) = false := beq_eq_false_iff_ne.2 h5
                              have f6 : (q == 6) = false := beq_eq_false_iff_ne.2 h6
                              clear h1 h2 h3 h4 h5 h6
                              go_wp2
                              go_ret
                              exact ⟨by rw [HF.out]; rfl, hW1⟩
      · have HG := hideT' (node_all hn3 (fun j hj => HK.out j (by omega)))
        go_wp2
        go_ret
        exact ⟨by rw [HG.out]; rfl, hW⟩
end Go.Proofs.YtjgpjafndaikcaaGreatDoor

/-
  What appendParts and appendDatum of impl answer, each by the other one.
-/
namespace Go.Proofs.YtjgpjafndaikcaaGreatDoor
open Go.RowKit
set_option linter.unusedVariables false

structure Fine (l : List Dm) : Prop where
  few : l.length ≤ 300
  up : AllUp l
  dot : ∀ k, k < l.length → dotOk l k = true
  txt : ∀ k, k < l.length → txtOk (dk l k) (dt l k).data.toList = true
  size : ∀ k, k < l.length → (dt l k).size ≤ 1048576
theorem kind_of {q : Int} {t : List UInt8} (h : txtOk q t = true) : q = 1 ∨ q = 2 ∨ q = 3 ∨ q = 4 ∨ q = 5 ∨ q = 6 := by
  by_cases h1 : q = 1
  · exact .inl h1
  · by_cases h2 : q = 2
    · exact .inr (.inl h2)
    · by_cases h3 : q = 3
      · exact .inr (.inr (.inl h3))
      · by_cases h4 : q = 4
        · exact .inr (.inr (.inr (.inl h4)))
        · rw [txt_else h1 h2 h3 h4] at h
          unfold isL at h
          simp at h
          omega

/-- appendDatum answers as it should at node a. -/
def DatumOk (l : List Dm) (a : Nat) : Prop := ∀ (b B : Nat) (v : Value) (t : List UInt8) (w : World), B ≤ w.heap.size → b < B → DatAt w b l → BytesAt w B v t → t.length + 2200000 * (l.length - a) ≤ 900000000 →
  Calls Tryz.prog 45 #[v, slV b l, .int .i64 (a : Int)] w fun e w' => ∃ (v' : Value) (e' : Nat), e = .returned (.tuple #[v', .int .i64 (e' : Int)]) ∧ IsNx l (a : Int) e' ∧ (TX l a).length + 10 ≤ 2200000 * (e' - a) ∧ BytesAt w' B v' (t ++ TX l a) ∧ Below B w w'
/-- appendParts answers as it should at the list u, its parts beginning at a. -/
def PartsOk (l : List Dm) (u : Int) (a : Nat) : Prop := ∀ (b B : Nat) (v : Value) (t : List UInt8) (w : World), B ≤ w.heap.size → b < B → DatAt w b l → BytesAt w B v t → t.length + 10 + 2200000 * (l.length - a) ≤ 900000000 →
  Calls Tryz.prog 32 #[v, slV b l, .int .i64 (a : Int), .int .i64 u] w fun e w' => ∃ (v' : Value) (e' : Nat), e = .returned (.tuple #[v', .int .i64 (e' : Int)]) ∧ IsNx l u e' ∧ (jnK l (TX l) l.length u).length ≤ 2200000 * (e' - a) ∧ BytesAt w' B v' (t ++ jnK l (TX l) l.length u) ∧ Below B w w'

set_option maxHeartbeats 4000000 in
set_option maxRecDepth 100000 in
theorem parts_of {l : List Dm} (hF : Fine l) (u : Int) (a0 : Nat) (ha0 : (a0 : Int) = u + 1) (hl0 : a0 ≤ l.length) (ih : ∀ a, a0 ≤ a → a < l.length → DatumOk l a) : PartsOk l u a0 := by
  intro b B v t w hB hb hD hv hlen
  have HF := hideT' hF
  have HI := hideT' ih
  have HD := hideT' hD
  have hn3 := hF.few
  obtain ⟨i0, hi, hz0, hz1, hz2⟩ := info_parts info_u8
  have hP0 := hideT' (AtPart.start hF.up ha0 hl0)
  have hj0 : Hid (jnK l (TX l) a0 u = []) := by unfold Hid jnK; rw [kid_low l u a0 (by omega)]; rfl
  have hblt : b < w.heap.size := by omega
  have HA0 := hideT' ha0
  clear hF ih hD ha0
  go_enter Tryz.func32, Tryz.ntmps32
  go_wp2_with fail
  go_loopg [0, 2] (l.length - a0) (fun g x i wr => ∃ (a : Nat) (T : List UInt8), g = l.length - a ∧ i = .int .i64 (a : Int) ∧ a0 ≤ a ∧ Hid (AtPart l u a) ∧ Hid (T = t ++ jnK l (TX l) a u) ∧ Hid (T.length ≤ t.length + 2200000 * (a - a0)) ∧ BytesAt wr B x T ∧ Below B w wr)
  case atStart =>
    refine ⟨a0, t, rfl, rfl, Nat.le_refl _, hP0, ?_, ?_, hv, Below.refl _ _⟩
    · unfold Hid; rw [hj0.out, List.append_nil]
    · unfold Hid; omega
  case round =>
    obtain ⟨a, T, hg, rfl, haa, HP, HTE, HTL, hx, hW⟩ := hrel
    clear hv hP0 hj0
    have hWs := hW.size
    have hal := HP.out.hi
    have hDr : DatAt wr b l := RowAt.below HD.out hW hb
    have DONE : Hid ((a < l.length → du l a ≠ u) → IsNx l u a ∧ (jnK l (TX l) l.length u).length ≤ 2200000 * (a - a0) ∧ T = t ++ jnK l (TX l) l.length u) := fun hne => by
      obtain ⟨h1, h2⟩ := HP.out.done HF.out.up hne
      have h3 : jnK l (TX l) l.length u = jnK l (TX l) a u := by unfold jnK; rw [h2]
      refine ⟨h1, ?_, by rw [h3]; exact HTE.out⟩
      have h4 := HTL.out
      rw [HTE.out, List.length_append] at h4
      rw [h3]; omega
    by_cases hlt : (a : Int) < (l.length : Int)
    · have ha' : a < l.length := by omega
      have hcu := dat_u hDr ha'
      obtain ⟨y, hy⟩ : ∃ y, y = du l a := ⟨_, rfl⟩
      rw [← hy] at hcu
      have HY := hideT' hy
      clear hy
      by_cases hyu : y = u
      · subst hyu
        have HUR : Hid (-1 ≤ du l a ∧ du l a < (a : Int)) := HF.out.up.up l.length (Nat.le_refl _) a ha'
        have HBE := hideT' (beh_eq HF.out.up HF.out.dot HP.out ha' HY.out.symm)
        have HSP := hideT' HP.out.some
        have STEP : Hid (∀ e, IsNx l (a : Int) e → AtPart l y e ∧ jnK l (TX l) e y = jnK l (TX l) a y ++ ((if 0 < (kid l a y).length then [32] else []) ++ ((if behB l a then [46, 32] else []) ++ TX l a))) := fun e he => by
          obtain ⟨h1, h2⟩ := HP.out.step HF.out.up ha' HY.out.symm he
          exact ⟨h1, by rw [jnK_snoc (TX l) h2, HBE.out]⟩
        have HTB : Hid (T.length + 10 + 2200000 * (l.length - a) ≤ 900000000) := by
          have := HTL.out
          unfold Hid; omega
        by_cases hsep : (a0 : Int) < (a : Int)
        · go_wp2_with (first | (at_builtin; refine wpList_append_own _ rfl _ _ 49 rfl B 5 i0 (.int .u8 0) 1 1 Tryz.underlying49 hi hz0 hz1 hz2 rfl (by decide) _ _ _ rfl (hx.alloc _) ⟨wr.heap.size, 0, none⟩ 1 1 [.int .u8 32] rfl rfl (cell_one_new _ _ _) (one_byte _) (by have := HTB.out; unfold maxLen; omega) (by have := HTB.out; omega) (by simp; omega) ?_; intro v1 w1 hv1 hg1 _))
          have hW1 : Below B w w1 := (hW.alloc (by omega) _).grown hg1 (by simp; omega) (fun k hk => own_ge hx hk)
          have hx1 : BytesAt w1 B v1 (T ++ [32]) := by unfold BytesAt; rw [← bytes_snoc, List.length_append]; exact hv1
          have hs1 := hW1.size
          refine (behindDot_any b l a _ w1 rfl ha' hn3 (RowAt.below HD.out hW1 hb) HUR.out).mono ?_
          rintro e w' ⟨rfl, rfl⟩
          cases hbd : behB l a with
          | true =>
            have HBD := hideT' hbd
            clear hbd
            go_wp2_with (first | (at_builtin; refine Lib.wpList_append_own_string _ rfl _ _ 49 9 rfl B 5 i0 Tryz.underlying49 Tryz.underlying9 hi hz0 hz1 hz2 _ _ _ rfl hx1 ⟨#[46, 32]⟩ rfl (show (T ++ [32]).length + 2 ≤ maxLen by have := HTB.out; unfold maxLen; (try simp only [List.length_append, List.length_cons, List.length_nil]); omega) (show (T ++ [32]).length + 2 ≤ _ by have := HTB.out; (try simp only [List.length_append, List.length_cons, List.length_nil]); omega) (by omega) ?_; intro v2 w2 hv2 hg2 _))
            have hW2 : Below B w w2 := hW1.grown hg2 (by omega) (fun k hk => own_ge hx1 hk)
            have hx2 : BytesAt w2 B v2 (T ++ ([32] ++ [46, 32])) := by
              rw [bytes_app] at hv2
              have h3 : T ++ ([32] ++ [46, 32]) = (T ++ [32]) ++ (⟨#[46, 32]⟩ : ByteArray).data.toList := by simp
              unfold BytesAt; rw [h3, List.length_append]; exact hv2
            have hs2 := hW2.size
            refine (HI.out a haa ha' b B v2 (T ++ (([32] : List UInt8) ++ ([46, 32] : List UInt8))) w2 (by omega) hb (RowAt.below HD.out hW2 hb) hx2 (by have := HTB.out; have h0 : (T ++ (([32] : List UInt8) ++ ([46, 32] : List UInt8))).length = T.length + 3 := (by simp); omega)).mono ?_
            rintro e w4 ⟨v4, e4, rfl, hNx, hL4, hv4, hW4⟩
            obtain ⟨hPn, hJn⟩ := STEP.out e4 hNx
            have HPN := hideT' hPn
            have HJN := hideT' hJn
            have hNlo := hNx.lo
            have hNhi := hNx.hi
            have HL4 := hideT' hL4
            clear hPn hJn hNx hL4
            go_wp2
            go_roundg (l.length - e4)
            case measure => omega
            case rel =>
              refine ⟨e4, T ++ (([32] : List UInt8) ++ ([46, 32] : List UInt8)) ++ TX l a, rfl, rfl, by omega, HPN, ?_, ?_, hv4, hW2.trans hW4⟩
              · unfold Hid; rw [HJN.out, HTE.out, if_pos (HSP.out.2 (by have := HA0.out; omega)), if_pos (by exact HBD.out)]; simp only [List.append_assoc]
              · unfold Hid; have h1 := HTL.out; have h2 := HL4.out; simp only [List.length_append]; simp only [List.length_cons, List.length_nil]; omega
          | false =>
            have HBD := hideT' hbd
            clear hbd
            go_wp2_with fail
            have hW2 := hW1
            have hx2 := hx1
            rw [show T ++ [32] = T ++ (([32] : List UInt8) ++ []) by simp] at hx2
            have hs2 := hW2.size
            refine (HI.out a haa ha' b B _ (T ++ (([32] : List UInt8) ++ ([] : List UInt8))) w' (by omega) hb (RowAt.below HD.out hW2 hb) hx2 (by have := HTB.out; have h0 : (T ++ (([32] : List UInt8) ++ ([] : List UInt8))).length = T.length + 1 := (by simp); omega)).mono ?_
            rintro e w4 ⟨v4, e4, rfl, hNx, hL4, hv4, hW4⟩
            obtain ⟨hPn, hJn⟩ := STEP.out e4 hNx
            have HPN := hideT' hPn
            have HJN := hideT' hJn
            have hNlo := hNx.lo
            have hNhi := hNx.hi
            have HL4 := hideT' hL4
            clear hPn hJn hNx hL4
            go_wp2
            go_roundg (l.length - e4)
            case measure => omega
            case rel =>
              refine ⟨e4, T ++ (([32] : List UInt8) ++ ([] : List UInt8)) ++ TX l a, rfl, rfl, by omega, HPN, ?_, ?_, hv4, hW2.trans hW4⟩
              · unfold Hid; rw [HJN.out, HTE.out, if_pos (HSP.out.2 (by have := HA0.out; omega)), if_neg (by rw [HBD.out]; decide)]; simp only [List.append_assoc]
              · unfold Hid; have h1 := HTL.out; have h2 := HL4.out; simp only [List.length_append]; simp only [List.length_cons, List.length_nil]; omega
        · have hsep' : ¬ (a0 : Int) < (a : Int) := hsep
          go_wp2_with fail
          have hs1 := hW.size
          refine (behindDot_any b l a _ wr rfl ha' hn3 (RowAt.below HD.out hW hb) HUR.out).mono ?_
          rintro e w' ⟨rfl, rfl⟩
          cases hbd : behB l a with
          | true =>
            have HBD := hideT' hbd
            clear hbd
            go_wp2_with (first | (at_builtin; refine Lib.wpList_append_own_string _ rfl _ _ 49 9 rfl B 5 i0 Tryz.underlying49 Tryz.underlying9 hi hz0 hz1 hz2 _ _ _ rfl hx ⟨#[46, 32]⟩ rfl (show T.length + 2 ≤ maxLen by have := HTB.out; unfold maxLen; (try simp only [List.length_append, List.length_cons, List.length_nil]); omega) (show T.length + 2 ≤ _ by have := HTB.out; (try simp only [List.length_append, List.length_cons, List.length_nil]); omega) (by omega) ?_; intro v2 w2 hv2 hg2 _))
            have hW2 : Below B w w2 := hW.grown hg2 (by omega) (fun k hk => own_ge hx hk)
            have hx2 : BytesAt w2 B v2 (T ++ ([] ++ [46, 32])) := by
              rw [bytes_app] at hv2
              have h3 : T ++ ([] ++ [46, 32]) = T ++ (⟨#[46, 32]⟩ : ByteArray).data.toList := by simp
              unfold BytesAt; rw [h3, List.length_append]; exact hv2
            have hs2 := hW2.size
            refine (HI.out a haa ha' b B v2 (T ++ (([] : List UInt8) ++ ([46, 32] : List UInt8))) w2 (by omega) hb (RowAt.below HD.out hW2 hb) hx2 (by have := HTB.out; have h0 : (T ++ (([] : List UInt8) ++ ([46, 32] : List UInt8))).length = T.length + 2 := (by simp); omega)).mono ?_
            rintro e w4 ⟨v4, e4, rfl, hNx, hL4, hv4, hW4⟩
            obtain ⟨hPn, hJn⟩ := STEP.out e4 hNx
            have HPN := hideT' hPn
            have HJN := hideT' hJn
            have hNlo := hNx.lo
            have hNhi := hNx.hi
            have HL4 := hideT' hL4
            clear hPn hJn hNx hL4
            go_wp2
            go_roundg (l.length - e4)
            case measure => omega
            case rel =>
              refine ⟨e4, T ++ (([] : List UInt8) ++ ([46, 32] : List UInt8)) ++ TX l a, rfl, rfl, by omega, HPN, ?_, ?_, hv4, hW2.trans hW4⟩
              · unfold Hid; rw [HJN.out, HTE.out, if_neg (fun h => absurd (HSP.out.1 h) (by have := HA0.out; omega)), if_pos (by exact HBD.out)]; simp only [List.append_assoc]
              · unfold Hid; have h1 := HTL.out; have h2 := HL4.out; simp only [List.length_append]; simp only [List.length_cons, List.length_nil]; omega
          | false =>
            have HBD := hideT' hbd
            clear hbd
            go_wp2_with fail
            have hW2 := hW
            have hx2 := hx
            rw [show T = T ++ (([] : List UInt8) ++ []) by simp] at hx2
            have hs2 := hW2.size
            refine (HI.out a haa ha' b B _ (T ++ (([] : List UInt8) ++ ([] : List UInt8))) w' (by omega) hb (RowAt.below HD.out hW2 hb) hx2 (by have := HTB.out; have h0 : (T ++ (([] : List UInt8) ++ ([] : List UInt8))).length = T.length + 0 := (by simp); omega)).mono ?_
            rintro e w4 ⟨v4, e4, rfl, hNx, hL4, hv4, hW4⟩
            obtain ⟨hPn, hJn⟩ := STEP.out e4 hNx
            have HPN := hideT' hPn
            have HJN := hideT' hJn
            have hNlo := hNx.lo
            have hNhi := hNx.hi
            have HL4 := hideT' hL4
            clear hPn hJn hNx hL4
            go_wp2
            go_roundg (l.length - e4)
            case measure => omega
            case rel =>
              refine ⟨e4, T ++ (([] : List UInt8) ++ ([] : List UInt8)) ++ TX l a, rfl, rfl, by omega, HPN, ?_, ?_, hv4, hW2.trans hW4⟩
              · unfold Hid; rw [HJN.out, HTE.out, if_neg (fun h => absurd (HSP.out.1 h) (by have := HA0.out; omega)), if_neg (by rw [HBD.out]; decide)]; simp only [List.append_assoc]
              · unfold Hid; have h1 := HTL.out; have h2 := HL4.out; simp only [List.length_append]; simp only [List.length_nil]; omega
      · have hyu' : (y == u) = false := beq_eq_false_iff_ne.2 hyu
        have HDN := hideT' (DONE.out (fun _ => by rw [← HY.out]; exact hyu))
        clear hyu
        go_wp2
        go_ret2
        exact ⟨_, a, rfl, HDN.out.1, HDN.out.2.1, by rw [← HDN.out.2.2]; exact hx, hW⟩
    · have HDN := hideT' (DONE.out (fun h => by omega))
      go_wp2
      go_ret2
      exact ⟨_, a, rfl, HDN.out.1, HDN.out.2.1, by rw [← HDN.out.2.2]; exact hx, hW⟩
end Go.Proofs.YtjgpjafndaikcaaGreatDoor

/-
  What appendDatum of impl answers, by appendParts; and so both.
-/
namespace Go.Proofs.YtjgpjafndaikcaaGreatDoor
open Go.RowKit
set_option linter.unusedVariables false

theorem own_grown {w w' : World} {B n : Nat} {v : Value} {xs : List Value} {o : Obj} (h : w.ownsRow B 5 1 v n xs) (hg : (w.alloc o).grownBy w' (some w.heap.size)) : w'.ownsRow B 5 1 v n xs := by
  refine ⟨h.1, ?_⟩
  rcases h.2 with h1 | ⟨g, cap, cur, h1, h2, h3, h4⟩
  · exact .inl h1
  · have hlt : g < w.heap.size := (Array.getElem?_eq_some_iff.1 h3).1
    refine .inr ⟨g, cap, cur, h1, h2, ?_, h4⟩
    rw [hg.block g (by simp; omega) (by intro e; injection e; omega), Below.heap_alloc _ _ _ hlt]
    exact h3
theorem own_block {w : World} {B n : Nat} {v : Value} {xs : List Value} (h : w.ownsRow B 5 1 v n xs) (k : Nat) (hk : w.heap.size ≤ k) : some k ≠ v.ownBlock := by
  rcases h.2 with ⟨rfl, _⟩ | ⟨g, cap, cur, rfl, _, h3, _⟩
  · simp [Value.ownBlock]
  · have hlt : g < w.heap.size := (Array.getElem?_eq_some_iff.1 h3).1
    simp [Value.ownBlock]; omega

theorem own_ne {w : World} {B n k : Nat} {v : Value} {xs : List Value} {t : TypeId} {cs : Array Value} (h : w.ownsRow B 5 1 v n xs) (hR : RowAt w k t cs) (ht : t ≠ 5) : some k ≠ v.ownBlock := by
  rcases h.2 with ⟨rfl, _⟩ | ⟨g, cap, cur, rfl, _, h3, _⟩
  · simp [Value.ownBlock]
  · intro e
    simp [Value.ownBlock] at e
    subst e
    unfold RowAt at hR
    rw [h3] at hR
    injection hR with hR
    injection hR with _ h2 _
    exact ht h2.symm

section
variable {ops : Array Oper} {Q : Exit → Act → World → Prop} {md : Region.Mode} {S : World → Prop} {o : Oper} {fuel : Nat} {listed : Array Bool} {a : Act} {w : World}
/-- Bytes are appended, as the one operation of a drawn region that may come up. -/
theorem held_append (i : Nat) (d : Option Tmp) (hr : Region.ready md ops listed = [i]) (hi : ops[i]? = some o) (hw : Region.wanted o (yielded ops a.tmps) = true) (s x : Operand)
    (ho : o.op = .call { callee := .builtin .append, args := #[s, x], argTypes := #[49, 49] }) (hd : o.dst = d) (B : Nat) (v : Value) (n : Nat) (xs : List Value) (hs : a.eval s = v) (hown : w.ownsRow B 5 1 v n xs)
    (ad : Addr) (m c : Nat) (news : List Value) (hx : a.eval x = .slice (some ad) m c) (hl : news.length = m * 1) (hnews : ∀ j u, news[j]? = some u → w.cell? (ad.add j) = some u) (h1 : ∀ u ∈ news, u.oneCell' = true)
    (h63 : n + m ≤ maxLen) (hbytes : (n + m) * 1 ≤ 140737488355328) (hbase : B ≤ w.heap.size)
    (h : ∀ v' w', w'.ownsRow B 5 1 v' (n + m) (xs ++ news) → w.grownBy w' v.ownBlock → S w' ∧ wpAnyH Tryz.prog md ops Q S fuel (listed.setIfInBounds i true) (a.put d v') w') : wpAnyH Tryz.prog md ops Q S (fuel + 1) listed a w := by
  subst hd
  obtain ⟨i0, hi0, hz0, hz1, hz2⟩ := info_parts info_u8
  refine wpAnyH_ready hr (by simp) (AllReadyH.cons hi (fun K hK => ?_) AllReadyH.nil)
  rw [if_pos hw]
  exact wp_append_own w s x 49 ho B 5 i0 (.int .u8 0) 1 1 Tryz.underlying49 hi0 hz0 hz1 hz2 rfl (by decide) v n xs hs hown ad m c news hx hl hnews h1 h63 hbytes hbase (fun v' w' h2 h3 _ => hK.out _ _ (h v' w' h2 h3).1 (fun _ => (h v' w' h2 h3).2))
/-- A string's bytes are appended, likewise. -/
theorem held_append_str (i : Nat) (d : Option Tmp) (hr : Region.ready md ops listed = [i]) (hi : ops[i]? = some o) (hw : Region.wanted o (yielded ops a.tmps) = true) (s x : Operand)
    (ho : o.op = .call { callee := .builtin .append, args := #[s, x], argTypes := #[49, 9] }) (hd : o.dst = d) (B : Nat) (v : Value) (n : Nat) (xs : List Value) (hs : a.eval s = v) (hown : w.ownsRow B 5 1 v n xs)
    (t : ByteArray) (hx : a.eval x = .string t) (h63 : n + t.size ≤ maxLen) (hbytes : n + t.size ≤ 140737488355328) (hbase : B ≤ w.heap.size)
    (h : ∀ v' w', w'.ownsRow B 5 1 v' (n + t.size) (xs ++ Lib.strCells t) → w.grownBy w' v.ownBlock → S w' ∧ wpAnyH Tryz.prog md ops Q S fuel (listed.setIfInBounds i true) (a.put d v') w') : wpAnyH Tryz.prog md ops Q S (fuel + 1) listed a w := by
  subst hd
  obtain ⟨i0, hi0, hz0, hz1, hz2⟩ := info_parts info_u8
  refine wpAnyH_ready hr (by simp) (AllReadyH.cons hi (fun K hK => ?_) AllReadyH.nil)
  rw [if_pos hw]
  obtain ⟨v', w', hrn, h2, h3, _⟩ := Lib.run_append_own_string (P := Tryz.prog) w B 49 9 o.type 5 i0 Tryz.underlying49 Tryz.underlying9 hi0 hz0 hz1 hz2 v n xs hown t h63 hbytes hbase
  unfold Oper.wp execOp
  simp only [ho, resolve, invoke, builtin, Sem.run_bind, Sem.run_pure, Result.andThen_ok, List.map_toArray, List.map_cons, List.map_nil, hs, hx, hrn]
  exact hK.out _ _ (h v' w' h2 h3).1 (fun _ => (h v' w' h2 h3).2)
end

theorem tx_leaf {l : List Dm} {a : Nat} (ha : a < l.length) (t : ByteArray) (ht : t = dt l a) (hq : dk l a = 1 ∨ dk l a = 2) : TX l a = t.data.toList := by
  rw [TX_eq ha, if_neg (by omega), if_neg (by omega), if_pos hq, ht]
theorem tx_str {l : List Dm} {a : Nat} (ha : a < l.length) (t : ByteArray) (ht : t = dt l a) (hq : dk l a = 3) : TX l a = quo t.data.toList := by
  rw [TX_eq ha, if_pos hq, ht]
theorem tx_bool {l : List Dm} {a : Nat} (ha : a < l.length) (t : ByteArray) (ht : t = dt l a) (hq : dk l a = 4) : TX l a = 35 :: t.data.toList := by
  rw [TX_eq ha, if_neg (by omega), if_pos hq, ht]
theorem tx_list {l : List Dm} {a : Nat} (ha : a < l.length) (hq : dk l a = 5 ∨ dk l a = 6) : TX l a = 40 :: (jnK l (TX l) l.length (a : Int) ++ [41]) := by
  rw [TX_eq ha, if_neg (by omega), if_neg (by omega), if_neg (by omega)]
theorem not_list {q : Int} (h : q ≠ 5) (h' : q ≠ 6) : isL q = false := by unfold isL; rw [decide_eq_false h, decide_eq_false h']; rfl

set_option maxHeartbeats 4000000 in
set_option maxRecDepth 100000 in
theorem datum_of {l : List Dm} (hF : Fine l) (a : Nat) (ha : a < l.length) (ih : PartsOk l (a : Int) (a + 1)) : DatumOk l a := by
  intro b B v t w hB hb hD hv hlen
  have HI := hideT' ih
  have hz := zero_dm.1
  have hn3 := hF.few
  have HD := hideT' hD
  obtain ⟨i0, hi, hz0, hz1, hz2⟩ := info_parts info_u8
  obtain ⟨q, s, y, hd, hq, hs, hy⟩ := dm_parts l a
  have hss : s.size ≤ 1048576 := by rw [hs]; exact hF.size a ha
  have HDM := hideT' hd
  have HQ := hideT' hq
  have HTX := hideT' hs
  have hkd := kind_of (hF.txt a ha)
  rw [← hq] at hkd
  have HUP := hideT' hF.up
  have A : DmAt (w.alloc (.cells (dmC default) 38)) w.heap.size default := RowAt.new w _ _
  unfold BytesAt at hv
  obtain ⟨n, hn⟩ : ∃ n, n = t.length := ⟨_, rfl⟩
  rw [← hn] at hv hlen
  have HN := hideT' hn
  have LEAF : Hid (q ≠ 5 → q ≠ 6 → IsNx l (a : Int) (a + 1)) := fun h5 h6 => nx_leaf HUP.out ha (by rw [← HQ.out]; exact not_list h5 h6)
  have hBn : ∀ w1, (w.alloc (.cells (dmC default) 38)).grownBy w1 (some w.heap.size) → Below B w w1 := fun w1 hg => ((Below.refl B w).alloc hB _).grown hg (by simp; omega) (by intro k hk; injection hk; omega)
  have HBn := hideT' hBn
  clear ih hd hq hs hy hF hn hBn
  rcases hkd with rfl | rfl | rfl | rfl | rfl | rfl
  · have HX := hideT' (tx_leaf ha s HTX.out (by rw [← HQ.out]; simp))
    have HNX := hideT' (LEAF.out (by decide) (by decide))
    go_enter Tryz.func45, Tryz.ntmps45
    go_wp2_with (first | (refine load_dm rfl _ rfl b a rfl l hD ha ⟨1, s, y⟩ HDM.out ?_) | (refine store_dv rfl _ _ rfl rfl w.heap.size ⟨1, s, y⟩ rfl rfl default A ?_; intro w1 hN1 hg1 hs1; have c0 : w1.cell? ⟨w.heap.size, 0, none⟩ = some (.int .i64 1) := dm_c0 hN1; have c1 : w1.cell? ⟨w.heap.size, 1, none⟩ = some (.string s) := dm_c1 hN1; have hv1 : w1.ownsRow B 5 1 v n (Lib.byteCells t) := own_grown hv hg1; have hs1' : w.heap.size + 1 ≤ w1.heap.size := (by rw [hs1]; simp); clear hs1) | (at_builtin; refine Lib.wpList_append_own_string _ rfl _ _ 49 9 rfl B 5 i0 Tryz.underlying49 Tryz.underlying9 hi hz0 hz1 hz2 _ _ _ rfl hv1 s rfl (by unfold maxLen; omega) (by omega) (by omega) ?_; intro v2 w2 hv2 hg2 _))
    have hW1 := HBn.out w1 hg1
    have hW2 : Below B w w2 := hW1.grown hg2 (by omega) (fun k hk => own_ge hv1 hk)
    go_ret2
    refine ⟨v2, a + 1, rfl, HNX.out, ?_, ?_, hW2⟩
    · have hl : s.data.toList.length = s.size := by simp
      rw [HX.out, hl]; omega
    · have hl : s.data.toList.length = s.size := by simp
      rw [bytes_app] at hv2
      unfold BytesAt
      rw [HX.out, List.length_append, ← HN.out, hl]
      exact hv2
  · have HX := hideT' (tx_leaf ha s HTX.out (by rw [← HQ.out]; simp))
    have HNX := hideT' (LEAF.out (by decide) (by decide))
    go_enter Tryz.func45, Tryz.ntmps45
    go_wp2_with (first | (refine load_dm rfl _ rfl b a rfl l hD ha ⟨2, s, y⟩ HDM.out ?_) | (refine store_dv rfl _ _ rfl rfl w.heap.size ⟨2, s, y⟩ rfl rfl default A ?_; intro w1 hN1 hg1 hs1; have c0 : w1.cell? ⟨w.heap.size, 0, none⟩ = some (.int .i64 2) := dm_c0 hN1; have c1 : w1.cell? ⟨w.heap.size, 1, none⟩ = some (.string s) := dm_c1 hN1; have hv1 : w1.ownsRow B 5 1 v n (Lib.byteCells t) := own_grown hv hg1; have hs1' : w.heap.size + 1 ≤ w1.heap.size := (by rw [hs1]; simp); clear hs1) | (at_builtin; refine Lib.wpList_append_own_string _ rfl _ _ 49 9 rfl B 5 i0 Tryz.underlying49 Tryz.underlying9 hi hz0 hz1 hz2 _ _ _ rfl hv1 s rfl (by unfold maxLen; omega) (by omega) (by omega) ?_; intro v2 w2 hv2 hg2 _))
    have hW1 := HBn.out w1 hg1
    have hW2 : Below B w w2 := hW1.grown hg2 (by omega) (fun k hk => own_ge hv1 hk)
    go_ret2
    refine ⟨v2, a + 1, rfl, HNX.out, ?_, ?_, hW2⟩
    · have hl : s.data.toList.length = s.size := by simp
      rw [HX.out, hl]; omega
    · have hl : s.data.toList.length = s.size := by simp
      rw [bytes_app] at hv2
      unfold BytesAt
      rw [HX.out, List.length_append, ← HN.out, hl]
      exact hv2
  · have HX := hideT' (tx_str ha s HTX.out HQ.out.symm)
    have HNX := hideT' (LEAF.out (by decide) (by decide))
    go_enter Tryz.func45, Tryz.ntmps45
    go_wp2_with (first | (refine load_dm rfl _ rfl b a rfl l hD ha ⟨3, s, y⟩ HDM.out ?_) | (refine store_dv rfl _ _ rfl rfl w.heap.size ⟨3, s, y⟩ rfl rfl default A ?_; intro w1 hN1 hg1 hs1; have c0 : w1.cell? ⟨w.heap.size, 0, none⟩ = some (.int .i64 3) := dm_c0 hN1; have c1 : w1.cell? ⟨w.heap.size, 1, none⟩ = some (.string s) := dm_c1 hN1; have hv1 : w1.ownsRow B 5 1 v n (Lib.byteCells t) := own_grown hv hg1; have hs1' : w.heap.size + 1 ≤ w1.heap.size := (by rw [hs1]; simp); clear hs1))
    have hW1 := HBn.out w1 hg1
    have hb1 : BytesAt w1 B v t := by unfold BytesAt; rw [← HN.out]; exact hv1
    refine (appendString_any B v t s w1 (by omega) hb1 (by rw [← HN.out]; omega) hss).mono ?_
    rintro e w2 ⟨v2, rfl, hv2, hW2⟩
    go_wp2
    go_ret2
    refine ⟨v2, a + 1, rfl, HNX.out, ?_, by rw [HX.out]; exact hv2, hW1.trans hW2⟩
    have hl : s.data.toList.length = s.size := by simp
    have hf := esc_flat s.data.toList
    rw [HX.out]
    unfold quo
    simp only [List.length_cons, List.length_append, List.length_nil]
    omega
  · have HX := hideT' (tx_bool ha s HTX.out HQ.out.symm)
    have HNX := hideT' (LEAF.out (by decide) (by decide))
    go_enter Tryz.func45, Tryz.ntmps45
    go_wp2_with (first | (refine load_dm rfl _ rfl b a rfl l hD ha ⟨4, s, y⟩ HDM.out ?_) | (refine store_dv rfl _ _ rfl rfl w.heap.size ⟨4, s, y⟩ rfl rfl default A ?_; intro w1 hN1 hg1 hs1; have c0 : w1.cell? ⟨w.heap.size, 0, none⟩ = some (.int .i64 4) := dm_c0 hN1; have c1 : w1.cell? ⟨w.heap.size, 1, none⟩ = some (.string s) := dm_c1 hN1; have hv1 : w1.ownsRow B 5 1 v n (Lib.byteCells t) := own_grown hv hg1; have hs1' : w.heap.size + 1 ≤ w1.heap.size := (by rw [hs1]; simp); clear hs1))
    have hW1 := HBn.out w1 hg1
    refine held_begin (fun w' => w'.cell? ⟨w.heap.size, 1, none⟩ = some (.string s)) (by kernel_rfl) ?_
    have hS : w1.drew.cell? ⟨w.heap.size, 1, none⟩ = some (.string s) := c1
    have hvd : w1.drew.ownsRow B 5 1 v n (Lib.byteCells t) := hv1
    refine held_val 0 (some 45) rfl rfl (by kernel_rfl) (by kernel_rfl) (by kernel_rfl) noPanic_put rfl v (fun _ => rfl) hS ?_
    simp only [Act.put, List.setIfInBounds_toArray, List.set_cons_zero, List.set_cons_succ]
    refine held_val 3 (some 48) rfl rfl (by kernel_rfl) (by kernel_rfl) (by kernel_rfl) noPanic_put rfl (.pointer (some ⟨w.heap.size, 1, none⟩)) (fun _ => by go_simp) hS ?_
    simp only [Act.put, List.setIfInBounds_toArray, List.set_cons_zero, List.set_cons_succ]
    refine held_valS 4 (some 49) rfl rfl (by kernel_rfl) (by kernel_rfl) (by kernel_rfl) noPanic_put rfl (.string s) (fun _ hw' => by have h1 := hw'; go_simp) hS ?_
    simp only [Act.put, List.setIfInBounds_toArray, List.set_cons_zero, List.set_cons_succ]
    refine wpAnyH_ready (rs := [1]) (by kernel_rfl) (by simp) ?_
    have hN2 : DmAt (w1.drew.alloc (.cells #[.int .u8 35] 5)) w.heap.size ⟨4, s, y⟩ := RowAt.old (show DmAt w1.drew w.heap.size ⟨4, s, y⟩ from hN1) _
    refine ready_val 1 (some 46) rfl rfl rfl (.slice (some ⟨w1.heap.size, 0, none⟩) 1 1) (w1.drew.alloc (.cells #[.int .u8 35] 5)) (by go_simp) (dm_c1 hN2) ?_ AllReadyH.nil
    simp only [Act.put, List.setIfInBounds_toArray, List.set_cons_zero, List.set_cons_succ]
    refine held_append 2 (some 47) (by kernel_rfl) rfl rfl _ _ rfl rfl B v n (Lib.byteCells t) rfl (hvd.alloc _) ⟨w1.heap.size, 0, none⟩ 1 1 [.int .u8 35] rfl rfl (cell_one_new w1.drew _ _) (one_byte _) (by unfold maxLen; omega) (by omega) (by simp; omega) ?_
    intro v2 w2 hv2 hg2
    have hN3 : DmAt w2 w.heap.size ⟨4, s, y⟩ := RowAt.grown hN2 hg2 (own_block hv w.heap.size (Nat.le_refl _))
    have hW2 : Below B w w2 := (((Below.drew hW1).alloc (by show B ≤ w1.heap.size; omega) _).grown hg2 (by simp; omega) (fun k hk => own_ge hv1 hk))
    have hs2 := hg2.size
    refine ⟨dm_c1 hN3, ?_⟩
    simp only [Act.put, List.setIfInBounds_toArray, List.set_cons_zero, List.set_cons_succ]
    refine held_append_str 5 (some 50) (by kernel_rfl) rfl rfl _ _ rfl rfl B v2 (n + 1) _ rfl hv2 s rfl (by unfold maxLen; omega) (by omega) (by have := hW2.size; omega) ?_
    intro v3 w3 hv3 hg3
    have hW3 : Below B w w3 := hW2.grown hg3 (by have := hW2.size; omega) (fun k hk => own_ge hv2 hk)
    have hN4 : w3.cell? ⟨w.heap.size, 1, none⟩ = some (.string s) := dm_c1 (RowAt.grown hN3 hg3 (own_ne hv2 hN3 (by decide)))
    refine ⟨hN4, ?_⟩
    simp only [Act.put, List.setIfInBounds_toArray, List.set_cons_zero, List.set_cons_succ]
    refine held_assign 6 (some 0) (by kernel_rfl) rfl rfl _ rfl rfl v3 rfl hN4 ?_
    simp only [Act.put, List.setIfInBounds_toArray, List.set_cons_zero]
    refine wpAnyH_done (by kernel_rfl) ?_ _
    refine NoPanic.normal ?_
    go_wp2
    go_ret2
    refine ⟨v3, a + 1, rfl, HNX.out, ?_, ?_, hW3⟩
    · have hl : s.data.toList.length = s.size := by simp
      rw [HX.out, List.length_cons, hl]; omega
    · have hl : s.data.toList.length = s.size := by simp
      have h4 : Lib.byteCells t ++ [Value.int .u8 35] ++ Lib.strCells s = Lib.byteCells (t ++ 35 :: s.data.toList) := by simp [Lib.byteCells, Lib.strCells]
      unfold BytesAt
      rw [HX.out, List.length_append, List.length_cons, ← HN.out, hl, ← h4, show n + (s.size + 1) = n + 1 + s.size by omega]
      exact hv3
  · have HX := hideT' (tx_list ha (by rw [← HQ.out]; simp))
    go_enter Tryz.func45, Tryz.ntmps45
    go_wp2_with (first | (refine load_dm rfl _ rfl b a rfl l hD ha ⟨5, s, y⟩ HDM.out ?_) | (refine store_dv rfl _ _ rfl rfl w.heap.size ⟨5, s, y⟩ rfl rfl default A ?_; intro w1 hN1 hg1 hs1; have c0 : w1.cell? ⟨w.heap.size, 0, none⟩ = some (.int .i64 5) := dm_c0 hN1; have c1 : w1.cell? ⟨w.heap.size, 1, none⟩ = some (.string s) := dm_c1 hN1; have hv1 : w1.ownsRow B 5 1 v n (Lib.byteCells t) := own_grown hv hg1; have hs1' : w.heap.size + 1 ≤ w1.heap.size := (by rw [hs1]; simp); clear hs1) | (at_builtin; refine wpList_append_own _ rfl _ _ 49 rfl B 5 i0 (.int .u8 0) 1 1 Tryz.underlying49 hi hz0 hz1 hz2 rfl (by decide) _ _ _ rfl (hv1.alloc _) ⟨w1.heap.size, 0, none⟩ 1 1 [.int .u8 40] rfl rfl (cell_one_new _ _ _) (one_byte _) (by unfold maxLen; omega) (by omega) (by simp; omega) ?_; intro v2 w2 hv2 hg2 _))
    have hW1 := HBn.out w1 hg1
    have hW2 : Below B w w2 := (hW1.alloc (by omega) _).grown hg2 (by simp; omega) (fun k hk => own_ge hv1 hk)
    have hs2 := hg2.size
    simp only [World.size_alloc] at hs2
    have hb2 : BytesAt w2 B v2 (t ++ [40]) := by unfold BytesAt; rw [← bytes_snoc, List.length_append, ← HN.out]; exact hv2
    have hlt2 : (t ++ [40]).length = n + 1 := by rw [List.length_append, ← HN.out]; rfl
    obtain ⟨a1, ha1⟩ : ∃ a1, a1 = a + 1 := ⟨_, rfl⟩
    have HI2 := HI.out
    rw [← ha1] at HI2
    have hcast : (a : Int) + 1 = (a1 : Int) := by omega
    rw [hcast]
    have HA1 := hideT' ha1
    clear ha1 hcast
    refine (HI2 b B v2 (t ++ [40]) w2 (by omega) hb (RowAt.below HD.out hW2 hb) hb2 (by have := HA1.out; rw [hlt2]; omega)).mono ?_
    rintro e w3 ⟨v3, e3, rfl, hNx, hJL, hv3, hW3⟩
    have hW23 := hW2.trans hW3
    have hs3 := hW3.size
    have hNl := hNx.lo
    have hNh := hNx.hi
    have HNx := hideT' hNx
    have hl3 : (t ++ [40] ++ jnK l (TX l) l.length (a : Int)).length ≤ 900000000 := by rw [List.length_append, hlt2]; have := HA1.out; omega
    unfold BytesAt at hv3
    obtain ⟨n3, hn3'⟩ : ∃ n3, n3 = (t ++ [40] ++ jnK l (TX l) l.length (a : Int)).length := ⟨_, rfl⟩
    rw [← hn3'] at hv3 hl3
    have HN3 := hideT' hn3'
    have HJL := hideT' hJL
    clear hNx hn3' hJL hlt2 hb2
    go_wp2_with (first | (at_builtin; refine wpList_append_own _ rfl _ _ 49 rfl B 5 i0 (.int .u8 0) 1 1 Tryz.underlying49 hi hz0 hz1 hz2 rfl (by decide) _ _ _ rfl (hv3.alloc _) ⟨w3.heap.size, 0, none⟩ 1 1 [.int .u8 41] rfl rfl (cell_one_new _ _ _) (one_byte _) (by unfold maxLen; omega) (by omega) (by simp; omega) ?_; intro v4 w4 hv4 hg4 _))
    have hW4 : Below B w w4 := (hW23.alloc (by omega) _).grown hg4 (by simp; omega) (fun k hk => own_ge hv3 hk)
    go_ret2
    refine ⟨v4, e3, rfl, HNx.out, ?_, ?_, hW4⟩
    · have h1 := HJL.out
      have h2 := HA1.out
      rw [HX.out]
      simp only [List.length_cons, List.length_append, List.length_nil]
      omega
    · have h4 : t ++ TX l a = t ++ [40] ++ jnK l (TX l) l.length (a : Int) ++ [41] := by rw [HX.out]; simp
      unfold BytesAt
      rw [h4, ← bytes_snoc, List.length_append, ← HN3.out]
      exact hv4
  · have HX := hideT' (tx_list ha (by rw [← HQ.out]; simp))
    go_enter Tryz.func45, Tryz.ntmps45
    go_wp2_with (first | (refine load_dm rfl _ rfl b a rfl l hD ha ⟨6, s, y⟩ HDM.out ?_) | (refine store_dv rfl _ _ rfl rfl w.heap.size ⟨6, s, y⟩ rfl rfl default A ?_; intro w1 hN1 hg1 hs1; have c0 : w1.cell? ⟨w.heap.size, 0, none⟩ = some (.int .i64 6) := dm_c0 hN1; have c1 : w1.cell? ⟨w.heap.size, 1, none⟩ = some (.string s) := dm_c1 hN1; have hv1 : w1.ownsRow B 5 1 v n (Lib.byteCells t) := own_grown hv hg1; have hs1' : w.heap.size + 1 ≤ w1.heap.size := (by rw [hs1]; simp); clear hs1) | (at_builtin; refine wpList_append_own _ rfl _ _ 49 rfl B 5 i0 (.int .u8 0) 1 1 Tryz.underlying49 hi hz0 hz1 hz2 rfl (by decide) _ _ _ rfl (hv1.alloc _) ⟨w1.heap.size, 0, none⟩ 1 1 [.int .u8 40] rfl rfl (cell_one_new _ _ _) (one_byte _) (by unfold maxLen; omega) (by omega) (by simp; omega) ?_; intro v2 w2 hv2 hg2 _))
    have hW1 := HBn.out w1 hg1
    have hW2 : Below B w w2 := (hW1.alloc (by omega) _).grown hg2 (by simp; omega) (fun k hk => own_ge hv1 hk)
    have hs2 := hg2.size
    simp only [World.size_alloc] at hs2
    have hb2 : BytesAt w2 B v2 (t ++ [40]) := by unfold BytesAt; rw [← bytes_snoc, List.length_append, ← HN.out]; exact hv2
    have hlt2 : (t ++ [40]).length = n + 1 := by rw [List.length_append, ← HN.out]; rfl
    obtain ⟨a1, ha1⟩ : ∃ a1, a1 = a + 1 := ⟨_, rfl⟩
    have HI2 := HI.out
    rw [← ha1] at HI2
    have hcast : (a : Int) + 1 = (a1 : Int) := by omega
    rw [hcast]
    have HA1 := hideT' ha1
    clear ha1 hcast
    refine (HI2 b B v2 (t ++ [40]) w2 (by omega) hb (RowAt.below HD.out hW2 hb) hb2 (by have := HA1.out; rw [hlt2]; omega)).mono ?_
    rintro e w3 ⟨v3, e3, rfl, hNx, hJL, hv3, hW3⟩
    have hW23 := hW2.trans hW3
    have hs3 := hW3.size
    have hNl := hNx.lo
    have hNh := hNx.hi
    have HNx := hideT' hNx
    have hl3 : (t ++ [40] ++ jnK l (TX l) l.length (a : Int)).length ≤ 900000000 := by rw [List.length_append, hlt2]; have := HA1.out; omega
    unfold BytesAt at hv3
    obtain ⟨n3, hn3'⟩ : ∃ n3, n3 = (t ++ [40] ++ jnK l (TX l) l.length (a : Int)).length := ⟨_, rfl⟩
    rw [← hn3'] at hv3 hl3
    have HN3 := hideT' hn3'
    have HJL := hideT' hJL
    clear hNx hn3' hJL hlt2 hb2
    go_wp2_with (first | (at_builtin; refine wpList_append_own _ rfl _ _ 49 rfl B 5 i0 (.int .u8 0) 1 1 Tryz.underlying49 hi hz0 hz1 hz2 rfl (by decide) _ _ _ rfl (hv3.alloc _) ⟨w3.heap.size, 0, none⟩ 1 1 [.int .u8 41] rfl rfl (cell_one_new _ _ _) (one_byte _) (by unfold maxLen; omega) (by omega) (by simp; omega) ?_; intro v4 w4 hv4 hg4 _))
    have hW4 : Below B w w4 := (hW23.alloc (by omega) _).grown hg4 (by simp; omega) (fun k hk => own_ge hv3 hk)
    go_ret2
    refine ⟨v4, e3, rfl, HNx.out, ?_, ?_, hW4⟩
    · have h1 := HJL.out
      have h2 := HA1.out
      rw [HX.out]
      simp only [List.length_cons, List.length_append, List.length_nil]
      omega
    · have h4 : t ++ TX l a = t ++ [40] ++ jnK l (TX l) l.length (a : Int) ++ [41] := by rw [HX.out]; simp
      unfold BytesAt
      rw [h4, ← bytes_snoc, List.length_append, ← HN3.out]
      exact hv4
end Go.Proofs.YtjgpjafndaikcaaGreatDoor

/-
  The seats that impl.GoodData keeps beside the nodes.
-/
namespace Go.Proofs.YtjgpjafndaikcaaGreatDoor
open Go.RowKit
set_option linter.unusedVariables false

section
variable {P : Program}
theorem run_storeVar_cell (w : World) (b o : Nat) (ty : TypeId) (v : Value) (hc : (w.cell? ⟨b, o, none⟩).isSome = true) (hf : w.frozen? ⟨b, o, none⟩ = false) (hi : (P.info? ty).map (·.size) = some 1) (h1 : v.oneCell' = true) :
    (storeVar ty ⟨b, o, none⟩ v).run P w = .ok () (w.setCell ⟨b, o, none⟩ v) := by
  have := run_storeCells_cells (P := P) b o [v] 0 w (fun j hj => by simp at hj; subst hj; simpa using hc) (fun j hj => by simp at hj; subst hj; simpa using hf) (fun x hx => by simp at hx; subst hx; exact h1)
  have hcl : v.cells = #[v] := by cases v <;> first | rfl | cases h1
  cases hq : P.info? ty with
  | none => simp [hq] at hi
  | some i =>
    have hs : i.size = 1 := by simpa [hq] using hi
    simp only [Nat.add_zero] at this
    simp [storeVar, sizeOf, typeInfo, hq, hcl, hs, this, World.setCells]
end
theorem grown_set (w : World) (b o : Nat) (v : Value) : w.grownBy (w.setCell ⟨b, o, none⟩ v) (some b) :=
  ⟨rfl, rfl, rfl, by simp, fun k _ hne => Deep.blk_setCell_other _ _ _ _ (by intro e; exact hne (by rw [e]))⟩
/-- One cell of a row is written. -/
theorem store_cell {ops : Array Oper} {rest : List Oper} {op : Oper} {a : Act} {w : World} {Q : Exit → Act → World → Prop} (hgd : op.guard = none) (ty : TypeId) (x y : Operand) (ho : op.op = .store ty x y) (hd : op.dst = none)
    (b o : Nat) (v : Value) (hx : a.eval x = .pointer (some ⟨b, o, none⟩)) (hy : a.eval y = v) (hi : (Tryz.prog.info? ty).map (·.size) = some 1) (h1 : v.oneCell' = true) (t : TypeId) (n : Nat) (f : Nat → Value) (hR : w.rowIs b t n f) (hon : o < n)
    (h : ∀ w', w'.rowIs b t n (fun j => if j = o then v else f j) → w.grownBy w' (some b) → w'.heap.size = w.heap.size → wpList Tryz.prog ops Q rest a w') : wpList Tryz.prog ops Q (op :: rest) a w :=
  wpList_plain hgd fun _ hK => by
    unfold Oper.wp execOp
    simp only [ho, hx, hy, Instr.storeAt, Instr.sureAddr, Sem.run_bind, Sem.run_pure, Result.andThen_ok, run_storeVar_cell w b o ty v (by rw [hR.cell hon]; rfl) (hR.frozen o) hi h1]
    have := h _ (hR.set o v) (grown_set w b o v) (by simp)
    have e : a.put op.dst undef = a := by rw [hd]; rfl
    refine hK _ _ ?_
    rw [e]
    exact this
/-- The same, as the one operation of a drawn region that may come up. -/
theorem held_store_cell {ops : Array Oper} {Q : Exit → Act → World → Prop} {md : Region.Mode} {S : World → Prop} {op : Oper} {fuel : Nat} {listed : Array Bool} {a : Act} {w : World} (i : Nat) (hr : Region.ready md ops listed = [i]) (hi : ops[i]? = some op) (hw : Region.wanted op (yielded ops a.tmps) = true) (ty : TypeId) (x y : Operand) (ho : op.op = .store ty x y) (hd : op.dst = none)
    (b o : Nat) (v : Value) (hx : a.eval x = .pointer (some ⟨b, o, none⟩)) (hy : a.eval y = v) (hin : (Tryz.prog.info? ty).map (·.size) = some 1) (h1 : v.oneCell' = true) (t : TypeId) (n : Nat) (f : Nat → Value) (hR : w.rowIs b t n f) (hon : o < n)
    (h : ∀ w', w'.rowIs b t n (fun j => if j = o then v else f j) → w.grownBy w' (some b) → w'.heap.size = w.heap.size → S w' ∧ wpAnyH Tryz.prog md ops Q S fuel (listed.setIfInBounds i true) a w') : wpAnyH Tryz.prog md ops Q S (fuel + 1) listed a w := by
  refine wpAnyH_ready hr (by simp) (AllReadyH.cons hi (fun K hK => ?_) AllReadyH.nil)
  rw [if_pos hw]
  unfold Oper.wp execOp
  simp only [ho, hx, hy, Instr.storeAt, Instr.sureAddr, Sem.run_bind, Sem.run_pure, Result.andThen_ok, run_storeVar_cell w b o ty v (by rw [hR.cell hon]; rfl) (hR.frozen o) hin h1]
  have := h _ (hR.set o v) (grown_set w b o v) (by simp)
  have e : a.put op.dst undef = a := by rw [hd]; rfl
  refine hK.out _ _ this.1 (fun _ => ?_)
  rw [e]
  exact this.2

/-- What the seats hold when k nodes are looked at. -/
def seatF (l : List Dm) (k i : Nat) : Value :=
  if i % 3 = 0 then .int .i64 ((if i / 3 < k then arnd l (i / 3) else 0 : Nat) : Int) else if i % 3 = 1 then .int .i64 ((prt l k (i / 3)).length : Int) else .bool (lastL l (prt l k (i / 3)))
def SeatAt (w : World) (sb : Nat) (l : List Dm) (k : Nat) : Prop := w.rowIs sb 66 (3 * l.length) (seatF l k)
theorem seatF0 (l : List Dm) (k j : Nat) : seatF l k (j * 3) = .int .i64 ((if j < k then arnd l j else 0 : Nat) : Int) := by
  unfold seatF; rw [if_pos (by omega), show j * 3 / 3 = j by omega]
theorem seatF1 (l : List Dm) (k j : Nat) : seatF l k (j * 3 + 1) = .int .i64 ((prt l k j).length : Int) := by
  unfold seatF; rw [if_neg (by omega), if_pos (by omega), show (j * 3 + 1) / 3 = j by omega]
theorem seatF2 (l : List Dm) (k j : Nat) : seatF l k (j * 3 + 2) = .bool (lastL l (prt l k j)) := by
  unfold seatF; rw [if_neg (by omega), if_neg (by omega), show (j * 3 + 2) / 3 = j by omega]
theorem seat_row {w : World} {sb : Nat} {l : List Dm} {k : Nat} {f : Nat → Value} (h : w.rowIs sb 66 (3 * l.length) f) (h0 : ∀ j, j < l.length → f (j * 3) = seatF l k (j * 3)) (h1 : ∀ j, j < l.length → f (j * 3 + 1) = seatF l k (j * 3 + 1)) (h2 : ∀ j, j < l.length → f (j * 3 + 2) = seatF l k (j * 3 + 2)) : SeatAt w sb l k :=
  h.congr (fun i hi => by
    rcases (by omega : i % 3 = 0 ∨ i % 3 = 1 ∨ i % 3 = 2) with e | e | e
    · have := h0 (i / 3) (by omega); rwa [show i / 3 * 3 = i by omega] at this
    · have := h1 (i / 3) (by omega); rwa [show i / 3 * 3 + 1 = i by omega] at this
    · have := h2 (i / 3) (by omega); rwa [show i / 3 * 3 + 2 = i by omega] at this)
theorem SeatAt.below {w w' : World} {sb B : Nat} {l : List Dm} {k : Nat} (h : SeatAt w sb l k) (hg : Below B w w') (hb : sb < B) : SeatAt w' sb l k := World.rowIs.of_block h (hg.block sb hb)
theorem SeatAt.grown {w w' : World} {sb : Nat} {l : List Dm} {k : Nat} {r : Option Nat} (h : SeatAt w sb l k) (hg : w.grownBy w' r) (hr : some sb ≠ r) : SeatAt w' sb l k := World.rowIs.of_block h (hg.block sb (World.rowIs.lt h) hr)

/-- A node that is in no list. -/
theorem seat_none {w : World} {sb : Nat} {l : List Dm} {k : Nat} (h : SeatAt w sb l k) (hu : du l k < 0) : SeatAt w sb l (k + 1) := by
  have hp : ∀ j, prt l (k + 1) j = prt l k j := fun j => by rw [prt_snoc, if_neg (by omega), List.append_nil]
  refine seat_row h (fun j _ => ?_) (fun j _ => ?_) (fun j _ => ?_)
  · rw [seatF0, seatF0]
    by_cases e : j = k
    · subst e; rw [if_neg (by omega), if_pos (by omega), arnd_none hu]
    · by_cases e2 : j < k
      · rw [if_pos e2, if_pos (by omega)]
      · rw [if_neg e2, if_neg (by omega)]
  · rw [seatF1, seatF1, hp]
  · rw [seatF2, seatF2, hp]
/-- A node that is in the list j. -/
theorem seat_some {w : World} {sb : Nat} {l : List Dm} {k j : Nat} (hU : Up l k) (hj : du l k = (j : Int)) (hjk : j < k) (hl : isL (dk l j) = true)
    (h : w.rowIs sb 66 (3 * l.length) (fun i => if i = j * 3 + 2 then .bool (isL (dk l k)) else (fun i => if i = j * 3 + 1 then .int .i64 (((prt l k j).length : Int) + 1) else (fun i => if i = k * 3 then .int .i64 ((arnd l j : Int) + 1) else seatF l k i) i) i)) : SeatAt w sb l (k + 1) := by
  refine seat_row h (fun m _ => ?_) (fun m _ => ?_) (fun m _ => ?_)
  · show (if m * 3 = j * 3 + 2 then _ else if m * 3 = j * 3 + 1 then _ else if m * 3 = k * 3 then _ else _) = _
    rw [if_neg (by omega), if_neg (by omega), seatF0, seatF0]
    by_cases e : m = k
    · subst e; rw [if_pos rfl, if_pos (by omega), arnd_some hU hj hjk hl]; rfl
    · rw [if_neg (by omega)]
      by_cases e2 : m < k
      · rw [if_pos e2, if_pos (by omega)]
      · rw [if_neg e2, if_neg (by omega)]
  · show (if m * 3 + 1 = j * 3 + 2 then _ else if m * 3 + 1 = j * 3 + 1 then _ else if m * 3 + 1 = k * 3 then _ else _) = _
    rw [if_neg (by omega), seatF1, seatF1, prt_snoc]
    by_cases e : m = j
    · subst e; rw [if_pos rfl, if_pos ⟨hjk, hj⟩]; simp
    · rw [if_neg (by omega), if_neg (by omega), if_neg (by omega), List.append_nil]
  · show (if m * 3 + 2 = j * 3 + 2 then _ else if m * 3 + 2 = j * 3 + 1 then _ else if m * 3 + 2 = k * 3 then _ else _) = _
    rw [seatF2, seatF2, prt_snoc]
    by_cases e : m = j
    · subst e; rw [if_pos rfl, if_pos ⟨hjk, hj⟩, lastL_snoc]
    · rw [if_neg (by omega), if_neg (by omega), if_neg (by omega), if_neg (by omega), List.append_nil]

/-- The seats as make lays them. -/
theorem info_seat : (Tryz.prog.info? 66).map (fun i => (i.zero, i.size, i.bytes)) = some (some (.agg #[.int .i64 0, .int .i64 0, .bool false]), 3, 24) := by kernel_rfl
theorem run_make_seats (n : Nat) (hn : n ≤ 300) (w : World) : (Instr.makeSlice 64 (.int .i64 (n : Int)) (.int .i64 (n : Int))).run Tryz.prog w = .ok (.slice (some ⟨w.heap.size, 0, none⟩) n n) (w.alloc (.cells (madeCells #[.int .i64 0, .int .i64 0, .bool false] (n * 3)) 66)) := by
  obtain ⟨i, hi, hzz⟩ := Option.map_eq_some_iff.1 info_seat
  simp only [Prod.mk.injEq] at hzz
  obtain ⟨hz, hs, hb⟩ := hzz
  have hr := run_make (P := Tryz.prog) w 64 66 i _ Tryz.underlying64 hi hz .i64 .i64 n n (by omega) (Int.le_refl _) (by rw [hb]; omega) (by omega)
  simp only [Int.toNat_natCast, hs] at hr
  exact hr
theorem seats_new (w : World) (l : List Dm) : SeatAt (w.alloc (.cells (madeCells #[.int .i64 0, .int .i64 0, .bool false] (l.length * 3)) 66)) w.heap.size l 0 := by
  refine ⟨_, Deep.blk_alloc_new _ _, by rw [size_madeCells]; omega, fun i hi => ?_⟩
  have hp : prt l 0 (i / 3) = [] := rfl
  simp only [madeCells, Array.getElem?_map]
  have hr : (Array.range (l.length * 3))[i]? = some i := by rw [Array.getElem?_eq_getElem (by rw [Array.size_range]; omega), Array.getElem_range]
  rw [hr, Option.map_some]
  unfold seatF
  rcases (by omega : i % 3 = 0 ∨ i % 3 = 1 ∨ i % 3 = 2) with e | e | e
  · rw [if_pos e]; simp [e]
  · rw [if_neg (by omega), if_pos e, hp]; simp [e]
  · rw [if_neg (by omega), if_neg (by omega), hp]; simp [e, lastL]
end Go.Proofs.YtjgpjafndaikcaaGreatDoor

/-
  What impl.GoodData answers.
-/
namespace Go.Proofs.YtjgpjafndaikcaaGreatDoor
open Go.RowKit
set_option linter.unusedVariables false

theorem one_int : (Tryz.prog.info? 3).map (·.size) = some 1 := by kernel_rfl
theorem one_bool : (Tryz.prog.info? 4).map (·.size) = some 1 := by kernel_rfl
theorem seat_a {w : World} {sb : Nat} {l : List Dm} {k j : Nat} (h : SeatAt w sb l k) (hj : j < l.length) (r : Int) (hr : r = ((if j < k then arnd l j else 0 : Nat) : Int)) : w.cell? ⟨sb, j * 3, none⟩ = some (.int .i64 r) := by
  rw [World.rowIs.cell h (by omega), seatF0, hr]
theorem seat_p {w : World} {sb : Nat} {l : List Dm} {k j : Nat} (h : SeatAt w sb l k) (hj : j < l.length) (r : Int) (hr : r = ((prt l k j).length : Int)) : w.cell? ⟨sb, j * 3 + 1, none⟩ = some (.int .i64 r) := by
  rw [World.rowIs.cell h (by omega), seatF1, hr]
theorem seat_e {w : World} {sb : Nat} {l : List Dm} {k j : Nat} (h : SeatAt w sb l k) (hj : j < l.length) (r : Bool) (hr : r = lastL l (prt l k j)) : w.cell? ⟨sb, j * 3 + 2, none⟩ = some (.bool r) := by
  rw [World.rowIs.cell h (by omega), seatF2, hr]
theorem arnd_le {l : List Dm} {j : Nat} (h : deepOk l j = true) : arnd l j ≤ 25 := by
  unfold deepOk at h
  rw [deep_arnd] at h
  have := of_decide_eq_true h
  omega
theorem deep_of {l : List Dm} {k : Nat} (hl : isL (dk l k) = true) : deepOk l k = decide (arnd l k < 25) := by
  unfold deepOk
  rw [deep_arnd, if_pos hl]
  exact decide_eq_decide.2 (by omega)
theorem deep_ofn {l : List Dm} {k : Nat} (hl : isL (dk l k) = false) (h : arnd l k ≤ 25) : deepOk l k = true := by
  unfold deepOk
  rw [deep_arnd, hl]
  exact decide_eq_true (by simpa using h)

def OkTo (l : List Dm) (k : Nat) : Prop := ∀ j, j < k → upOk l j = true ∧ txtOk (dk l j) (dt l j).data.toList = true ∧ deepOk l j = true
theorem OkTo.succ {l : List Dm} {k : Nat} (h : OkTo l k) (h1 : upOk l k = true) (h2 : txtOk (dk l k) (dt l k).data.toList = true) (h3 : deepOk l k = true) : OkTo l (k + 1) := fun j hj => by
  by_cases e : j = k
  · subst e; exact ⟨h1, h2, h3⟩
  · exact h j (by omega)

set_option maxHeartbeats 4000000 in
set_option maxRecDepth 100000 in
/-- Lists around each other, and dotted ones, where all nodes stand in good places and have good texts. -/
theorem goodLists_any (b : Nat) (l : List Dm) (w : World) (hn3 : l.length ≤ 300) (hA : ∀ j, j < l.length → upOk l j = true ∧ txtOk (dk l j) (dt l j).data.toList = true) (hD : DatAt w b l) :
    Calls Tryz.prog 29 #[slV b l] w fun e w' => e = .returned (.bool (goodAll l)) ∧ Below w.heap.size w w' := by
  have hz := zero_dm.1
  have HD := hideT' hD
  have HA := hideT' hA
  have hb := RowAt.lt hD
  clear hD hA
  · have hmk := run_make_seats l.length hn3
    go_enter Tryz.func29, Tryz.ntmps29
    go_wp2_with fail
    clear hmk
    go_loopg [13] l.length (fun g i wr => ∃ k : Nat, g = l.length - k ∧ k ≤ l.length ∧ i = .int .i64 (k : Int) ∧ Hid (OkTo l k) ∧ Hid (Up l k) ∧ SeatAt wr w.heap.size l k ∧ Below w.heap.size w wr)
    case atStart => exact ⟨0, rfl, by omega, rfl, fun j hj => by omega, fun j hj => by omega, seats_new w l, (Below.refl _ _).alloc (Nat.le_refl _) _⟩
    case round =>
      obtain ⟨k, hg, hk, rfl, HK, HU, hSt, hW⟩ := hrel
      have hWs := hW.size
      by_cases hlt : (k : Int) < (l.length : Int)
      · have hk' : k < l.length := by omega
        have hDr : DatAt wr b l := RowAt.below HD.out hW hb
        have hsl : w.heap.size < wr.heap.size := World.rowIs.lt hSt
        have A : DmAt (wr.alloc (.cells (dmC default) 38)) wr.heap.size default := RowAt.new wr _ _
        obtain ⟨q, t, y, hd, hq, ht, hy⟩ := dm_parts l k
        have HDM := hideT' hd
        have HQ := hideT' hq
        have HTX := hideT' ht
        have HY := hideT' hy
        clear hd hq ht hy
        have NO : Hid (nodeOk l k = false → goodAll l = false) := fun h => node_bad hk' h
        have HOK : Hid (upOk l k = true) := (HA.out k hk').1
        have HTO : Hid (txtOk (dk l k) (dt l k).data.toList = true) := (HA.out k hk').2
        have HU2 : Hid (Up l (k + 1)) := HU.out.succ HOK.out
        have hyr := upOk_up HU.out HOK.out
        rw [← HY.out] at hyr
        have WALK : ∀ (w2 : World), DmAt w2 wr.heap.size ⟨q, t, y⟩ → (wr.alloc (.cells (dmC default) 38)).grownBy w2 (some wr.heap.size) → w2.cell? ⟨wr.heap.size, 0, none⟩ = some (.int .i64 q) ∧ w2.cell? ⟨wr.heap.size, 2, none⟩ = some (.int .i64 y) ∧ SeatAt w2 w.heap.size l k ∧ Below w.heap.size w w2 := by
          intro w2 hN2 hg2
          exact ⟨dm_c0 hN2, dm_c2 hN2, SeatAt.grown (World.rowIs.alloc hSt _) hg2 (by intro e; injection e; omega), (hW.alloc hWs _).grown hg2 (by simp; omega) (by intro k hk; injection hk; omega)⟩
        have WK := hideT' WALK
        clear WALK
        clear hW hSt
        · · by_cases hy0 : 0 ≤ y
            · obtain ⟨j, rfl⟩ : ∃ j : Nat, y = (j : Int) := ⟨y.toNat, by omega⟩
              have hjk : j < k := by omega
              have hjl : isL (dk l j) = true := by
                have := upOk_list HOK.out (by rw [← HY.out]; exact hy0)
                rwa [← HY.out, Int.toNat_natCast] at this
              have HJL := hideT' hjl
              have haj := arnd_le (HK.out j hjk).2.2
              obtain ⟨r, hr⟩ : ∃ r : Int, r = (arnd l j : Int) := ⟨_, rfl⟩
              obtain ⟨p, hp⟩ : ∃ p : Int, p = ((prt l k j).length : Int) := ⟨_, rfl⟩
              have hr0 : 0 ≤ r := by omega
              have hr1 : r ≤ 25 := by omega
              have hp0 : 0 ≤ p := by omega
              have hp1 : p ≤ 300 := by have := prt_len l k j; omega
              have HR := hideT' hr
              have HP := hideT' hp
              clear hjl haj hr hp
              go_wp2_with (first | (refine load_dm rfl _ rfl b k rfl l hDr hk' ⟨q, t, (j : Int)⟩ HDM.out ?_) | (refine store_dv rfl _ _ rfl rfl wr.heap.size ⟨q, t, (j : Int)⟩ rfl rfl default A ?_; intro w2 hN2 hg2 hs2; have hK2 := WK.out w2 hN2 hg2; have d0 := hK2.1; have d2 := hK2.2.1; have hSt2 := hK2.2.2.1; have hWw2 := hK2.2.2.2; have hs2' : w2.heap.size = wr.heap.size + 1 := (by rw [hs2]; simp); have ca := seat_a hSt2 (show j < l.length by omega) r (by rw [if_pos hjk]; exact HR.out); clear hK2 hg2 hs2) | (refine store_cell rfl 3 _ _ rfl rfl w.heap.size (k * 3) (.int .i64 (r + 1)) rfl rfl one_int rfl 66 (3 * l.length) (seatF l k) hSt2 (by omega) ?_; intro w3 hR3 hg3 hs3; have cp : w3.cell? ⟨w.heap.size, j * 3 + 1, none⟩ = some (.int .i64 p) := (by rw [World.rowIs.cell hR3 (by omega), if_neg (by omega), seatF1, HP.out]); have d2' : w3.cell? ⟨wr.heap.size, 2, none⟩ = some (.int .i64 (j : Int)) := dm_c2 (RowAt.grown hN2 hg3 (by intro e; injection e; omega))) | (refine store_cell rfl 3 _ _ rfl rfl w.heap.size (j * 3 + 1) (.int .i64 (p + 1)) rfl rfl one_int rfl 66 (3 * l.length) _ hR3 (by omega) ?_; intro w4 hR4 hg4 hs4))
              have hN4 : DmAt w4 wr.heap.size ⟨q, t, (j : Int)⟩ := RowAt.grown (RowAt.grown hN2 hg3 (by intro e; injection e; omega)) hg4 (by intro e; injection e; omega)
              have hW4 : Below w.heap.size w w4 := (hWw2.grown hg3 (by omega) (by intro k hk; injection hk; omega)).grown hg4 (by omega) (by intro k hk; injection hk; omega)
              have hj3 : (j : Int) < (l.length : Int) := by omega
              clear hSt2 hR3 cp d2' ca d0 d2 hN2 hWw2 hg3 hg4
              refine held_begin (fun w' => w'.cell? ⟨wr.heap.size, 2, none⟩ = some (.int .i64 (j : Int)) ∧ w'.cell? ⟨wr.heap.size, 0, none⟩ = some (.int .i64 q)) (by kernel_rfl) ?_
              have hS : w4.drew.cell? ⟨wr.heap.size, 2, none⟩ = some (.int .i64 (j : Int)) ∧ w4.drew.cell? ⟨wr.heap.size, 0, none⟩ = some (.int .i64 q) := ⟨dm_c2 hN4, dm_c0 hN4⟩
              refine held_val 0 (some 41) rfl rfl (by kernel_rfl) (by kernel_rfl) (by kernel_rfl) noPanic_put rfl (.slice (some ⟨w.heap.size, 0, none⟩) l.length l.length) (fun _ => rfl) hS ?_
              simp only [Act.put, List.setIfInBounds_toArray, List.set_cons_zero, List.set_cons_succ]
              refine held_val 1 (some 42) rfl rfl (by kernel_rfl) (by kernel_rfl) (by kernel_rfl) noPanic_put rfl (.pointer (some ⟨wr.heap.size, 2, none⟩)) (fun _ => by go_simp) hS ?_
              simp only [Act.put, List.setIfInBounds_toArray, List.set_cons_zero, List.set_cons_succ]
              refine held_valS 2 (some 43) rfl rfl (by kernel_rfl) (by kernel_rfl) (by kernel_rfl) noPanic_put rfl (.int .i64 (j : Int)) (fun _ hw' => by have h1 := hw'.1; go_simp) hS ?_
              simp only [Act.put, List.setIfInBounds_toArray, List.set_cons_zero, List.set_cons_succ]
              refine held_val 3 (some 44) rfl rfl (by kernel_rfl) (by kernel_rfl) (by kernel_rfl) noPanic_put rfl (.pointer (some ⟨wr.heap.size, 0, none⟩)) (fun _ => by go_simp) hS ?_
              simp only [Act.put, List.setIfInBounds_toArray, List.set_cons_zero, List.set_cons_succ]
              refine held_valS 4 (some 45) rfl rfl (by kernel_rfl) (by kernel_rfl) (by kernel_rfl) noPanic_put rfl (.int .i64 q) (fun _ hw' => by have h1 := hw'.2; go_simp) hS ?_
              simp only [Act.put, List.setIfInBounds_toArray, List.set_cons_zero, List.set_cons_succ]
              refine held_call 5 (some 46) (by kernel_rfl) rfl rfl rfl 39 #[.int .i64 q] (by go_simp) _ (isList_any q w4.drew) ?_
              rintro e w4' ⟨rfl, rfl⟩
              refine ⟨_, rfl, hS, ?_⟩
              simp only [Act.put, List.setIfInBounds_toArray, List.set_cons_zero, List.set_cons_succ]
              refine held_val 6 (some 47) rfl rfl (by kernel_rfl) (by kernel_rfl) (by kernel_rfl) noPanic_put rfl (.pointer (some ⟨w.heap.size, j * 3, none⟩)) (fun _ => by go_simp) hS ?_
              simp only [Act.put, List.setIfInBounds_toArray, List.set_cons_zero, List.set_cons_succ]
              refine held_val 7 (some 48) rfl rfl (by kernel_rfl) (by kernel_rfl) (by kernel_rfl) noPanic_put rfl (.pointer (some ⟨w.heap.size, j * 3 + 2, none⟩)) (fun _ => by go_simp) hS ?_
              simp only [Act.put, List.setIfInBounds_toArray, List.set_cons_zero, List.set_cons_succ]
              refine held_store_cell 8 (by kernel_rfl) rfl rfl 4 _ _ rfl rfl w.heap.size (j * 3 + 2) (.bool (isL q)) rfl rfl one_bool rfl 66 (3 * l.length) _ (World.rowIs.drew hR4) (by omega) ?_
              intro w5 hR5 hg5 hs5
              have hN5 : DmAt w5 wr.heap.size ⟨q, t, (j : Int)⟩ := RowAt.grown (show DmAt w4.drew wr.heap.size ⟨q, t, (j : Int)⟩ from hN4) hg5 (by intro e; injection e; omega)
              have hW5 : Below w.heap.size w w5 := (Below.drew hW4).grown hg5 (by have := hW4.size; exact this) (by intro k hk; injection hk; omega)
              refine ⟨⟨dm_c2 hN5, dm_c0 hN5⟩, ?_⟩
              refine wpAnyH_done (by kernel_rfl) ?_ _
              refine NoPanic.normal ?_
              have hSt5 : SeatAt w5 w.heap.size l (k + 1) := seat_some HU.out HY.out.symm hjk HJL.out (by have h := hR5; rw [HQ.out, HP.out, HR.out] at h; exact h)
              have d0 : w5.cell? ⟨wr.heap.size, 0, none⟩ = some (.int .i64 q) := dm_c0 hN5
              have hak : arnd l k ≤ 25 := by
                rw [arnd_some HU.out HY.out.symm hjk HJL.out]
                have h1 := (HK.out j hjk).2.2
                rw [deep_of HJL.out] at h1
                have := of_decide_eq_true h1
                omega
              clear hR4 hR5 hS hg5 hN4 hN5 hW4
              obtain ⟨z, hz'⟩ : ∃ z : Int, z = (arnd l k : Int) := ⟨_, rfl⟩
              have cz := seat_a hSt5 hk' z (by rw [if_pos (by omega)]; exact hz')
              have HZ := hideT' hz'
              have HAK := hideT' hak
              clear hz' hak
              go_wp2_with fail
              refine (isList_any _ _).mono ?_
              rintro e w6 ⟨rfl, rfl⟩
              cases hil : isL q with
              | false =>
                have HOK2 : Hid (OkTo l (k + 1)) := HK.out.succ HOK.out HTO.out (deep_ofn (by rw [← HQ.out]; exact hil) HAK.out)
                clear hil
                go_wp2
                go_roundg (l.length - (k + 1))
                case measure => omega
                case rel => exact ⟨k + 1, rfl, by omega, by go_num, HOK2, HU2, hSt5, hW5⟩
              | true =>
                have HDE := hideT' (deep_of (l := l) (k := k) (by rw [← HQ.out]; exact hil))
                clear hil
                by_cases h25 : 25 ≤ z
                · have HF := hideT' (NO.out (node_deepBad (by rw [HDE.out]; exact decide_eq_false (by have := HZ.out; omega))))
                  go_wp2
                  go_ret
                  exact ⟨by rw [HF.out]; rfl, hW5⟩
                · have HOK2 : Hid (OkTo l (k + 1)) := HK.out.succ HOK.out HTO.out (by rw [HDE.out]; exact decide_eq_true (by have := HZ.out; omega))
                  go_wp2
                  go_roundg (l.length - (k + 1))
                  case measure => omega
                  case rel => exact ⟨k + 1, rfl, by omega, by go_num, HOK2, HU2, hSt5, hW5⟩
            · go_wp2_with (first | (refine load_dm rfl _ rfl b k rfl l hDr hk' ⟨q, t, y⟩ HDM.out ?_) | (refine store_dv rfl _ _ rfl rfl wr.heap.size ⟨q, t, y⟩ rfl rfl default A ?_; intro w2 hN2 hg2 hs2; have hK2 := WK.out w2 hN2 hg2; have d0 := hK2.1; have d2 := hK2.2.1; have hSt2 := hK2.2.2.1; have hWw2 := hK2.2.2.2; have hs2' : w2.heap.size = wr.heap.size + 1 := (by rw [hs2]; simp); clear hK2 hg2 hs2))
              have hSt5 : SeatAt w2 w.heap.size l (k + 1) := seat_none hSt2 (by rw [← HY.out]; omega)
              have hak : arnd l k ≤ 25 := by rw [arnd_none (by rw [← HY.out]; omega)]; omega
              clear hSt2
              obtain ⟨z, hz'⟩ : ∃ z : Int, z = (arnd l k : Int) := ⟨_, rfl⟩
              have cz := seat_a hSt5 hk' z (by rw [if_pos (by omega)]; exact hz')
              have HZ := hideT' hz'
              have HAK := hideT' hak
              clear hz' hak
              refine (isList_any _ _).mono ?_
              rintro e w6 ⟨rfl, rfl⟩
              cases hil : isL q with
              | false =>
                have HOK2 : Hid (OkTo l (k + 1)) := HK.out.succ HOK.out HTO.out (deep_ofn (by rw [← HQ.out]; exact hil) HAK.out)
                clear hil
                go_wp2
                go_roundg (l.length - (k + 1))
                case measure => omega
                case rel => exact ⟨k + 1, rfl, by omega, by go_num, HOK2, HU2, hSt5, hWw2⟩
              | true =>
                have HDE := hideT' (deep_of (l := l) (k := k) (by rw [← HQ.out]; exact hil))
                clear hil
                by_cases h25 : 25 ≤ z
                · have HF := hideT' (NO.out (node_deepBad (by rw [HDE.out]; exact decide_eq_false (by have := HZ.out; omega))))
                  go_wp2
                  go_ret
                  exact ⟨by rw [HF.out]; rfl, hWw2⟩
                · have HOK2 : Hid (OkTo l (k + 1)) := HK.out.succ HOK.out HTO.out (by rw [HDE.out]; exact decide_eq_true (by have := HZ.out; omega))
                  go_wp2
                  go_roundg (l.length - (k + 1))
                  case measure => omega
                  case rel => exact ⟨k + 1, rfl, by omega, by go_num, HOK2, HU2, hSt5, hWw2⟩
      · have hkn : k = l.length := by omega
        subst hkn
        clear hk hlt hg
        have hsl : w.heap.size < wr.heap.size := World.rowIs.lt hSt
        go_wp2_with fail
        go_loopg [63] l.length (fun g i wq => ∃ k : Nat, g = l.length - k ∧ k ≤ l.length ∧ i = .int .i64 (k : Int) ∧ Hid (∀ j, j < k → nodeOk l j = true) ∧ SeatAt wq w.heap.size l l.length ∧ Below w.heap.size w wq)
        case atStart => exact ⟨0, rfl, by omega, rfl, fun j hj => by omega, hSt, hW⟩
        case round =>
          clear hSt hW hWs hsl
          obtain ⟨k, hg, hk, rfl, HN, hSt, hW⟩ := hrel
          have hWs := hW.size
          have hsl : w.heap.size < wr.heap.size := World.rowIs.lt hSt
          by_cases hlt : (k : Int) < (l.length : Int)
          · have hk' : k < l.length := by omega
            have hDr : DatAt wr b l := RowAt.below HD.out hW hb
            have A : DmAt (wr.alloc (.cells (dmC default) 38)) wr.heap.size default := RowAt.new wr _ _
            obtain ⟨q, t, y, hd, hq, ht, hy⟩ := dm_parts l k
            have HDM := hideT' hd
            have HQ := hideT' hq
            obtain ⟨p, hp⟩ : ∃ p : Int, p = ((prt l l.length k).length : Int) := ⟨_, rfl⟩
            obtain ⟨z, hz'⟩ : ∃ z : Bool, z = lastL l (prt l l.length k) := ⟨_, rfl⟩
            have HP := hideT' hp
            have HZ := hideT' hz'
            have HND : Hid (nodeOk l k = dotOk l k) := by
              obtain ⟨h1, h2, h3⟩ := HK.out k hk'
              unfold Hid nodeOk
              rw [h1, h2, h3]; rfl
            have NO : Hid (nodeOk l k = false → goodAll l = false) := fun h => node_bad hk' h
            have GO : Hid (nodeOk l k = true → ∀ j, j < k + 1 → nodeOk l j = true) := fun h j hj => by
              by_cases e : j = k
              · subst e; exact h
              · exact HN.out j (by omega)
            clear hd hq ht hy hp hz'
            have WALK : ∀ (w1 : World), DmAt w1 wr.heap.size ⟨q, t, y⟩ → (wr.alloc (.cells (dmC default) 38)).grownBy w1 (some wr.heap.size) → w1.cell? ⟨wr.heap.size, 0, none⟩ = some (.int .i64 q) ∧ w1.cell? ⟨w.heap.size, k * 3 + 1, none⟩ = some (.int .i64 p) ∧ w1.cell? ⟨w.heap.size, k * 3 + 2, none⟩ = some (.bool z) ∧ SeatAt w1 w.heap.size l l.length ∧ Below w.heap.size w w1 := fun w1 hN1 hg1 => by
              have hSt1 : SeatAt w1 w.heap.size l l.length := SeatAt.grown (World.rowIs.alloc hSt _) hg1 (by intro e; injection e; omega)
              exact ⟨dm_c0 hN1, seat_p hSt1 hk' p HP.out, seat_e hSt1 hk' z HZ.out, hSt1, (hW.alloc hWs _).grown hg1 (by simp; omega) (by intro k hk; injection hk; omega)⟩
            have WK := hideT' WALK
            clear WALK
            by_cases h6 : q = 6
            · have h6' : (q == 6) = true := by rw [h6]; rfl
              have HDT : Hid (nodeOk l k = (decide (2 ≤ (prt l l.length k).length) && !lastL l (prt l l.length k))) := by
                unfold Hid; rw [HND.out]; unfold dotOk; rw [← HQ.out, decide_eq_true h6]; rfl
              clear h6
              by_cases hp2 : p < 2
              · have HF := hideT' (NO.out (by rw [HDT.out, decide_eq_false (by have := HP.out; omega)]; rfl))
                go_wp2_with (first | (refine load_dm rfl _ rfl b k rfl l hDr hk' ⟨q, t, y⟩ HDM.out ?_) | (refine store_dv rfl _ _ rfl rfl wr.heap.size ⟨q, t, y⟩ rfl rfl default A ?_; intro w1 hN1 hg1 hs1; have hK1 := WK.out w1 hN1 hg1; have k0 := hK1.1; have k1 := hK1.2.1; have k2 := hK1.2.2.1))
                go_ret
                exact ⟨by rw [HF.out]; rfl, hK1.2.2.2.2⟩
              · cases z with
                | true =>
                  have HF := hideT' (NO.out (by rw [HDT.out, ← HZ.out]; simp))
                  go_wp2_with (first | (refine load_dm rfl _ rfl b k rfl l hDr hk' ⟨q, t, y⟩ HDM.out ?_) | (refine store_dv rfl _ _ rfl rfl wr.heap.size ⟨q, t, y⟩ rfl rfl default A ?_; intro w1 hN1 hg1 hs1; have hK1 := WK.out w1 hN1 hg1; have k0 := hK1.1; have k1 := hK1.2.1; have k2 := hK1.2.2.1))
                  go_ret
                  exact ⟨by rw [HF.out]; rfl, hK1.2.2.2.2⟩
                | false =>
                  have HK2 := hideT' (GO.out (by rw [HDT.out, ← HZ.out, decide_eq_true (by have := HP.out; omega)]; rfl))
                  go_wp2_with (first | (refine load_dm rfl _ rfl b k rfl l hDr hk' ⟨q, t, y⟩ HDM.out ?_) | (refine store_dv rfl _ _ rfl rfl wr.heap.size ⟨q, t, y⟩ rfl rfl default A ?_; intro w1 hN1 hg1 hs1; have hK1 := WK.out w1 hN1 hg1; have k0 := hK1.1; have k1 := hK1.2.1; have k2 := hK1.2.2.1))
                  go_roundg (l.length - (k + 1))
                  case measure => omega
                  case rel => exact ⟨k + 1, rfl, by omega, by go_num, HK2, hK1.2.2.2.1, hK1.2.2.2.2⟩
            · have h6' : (q == 6) = false := beq_eq_false_iff_ne.2 h6
              have HK2 := hideT' (GO.out (by rw [HND.out]; unfold dotOk; rw [← HQ.out, decide_eq_false h6]; rfl))
              clear h6
              go_wp2_with (first | (refine load_dm rfl _ rfl b k rfl l hDr hk' ⟨q, t, y⟩ HDM.out ?_) | (refine store_dv rfl _ _ rfl rfl wr.heap.size ⟨q, t, y⟩ rfl rfl default A ?_; intro w1 hN1 hg1 hs1; have hK1 := WK.out w1 hN1 hg1; have k0 := hK1.1; have k1 := hK1.2.1; have k2 := hK1.2.2.1))
              go_roundg (l.length - (k + 1))
              case measure => omega
              case rel => exact ⟨k + 1, rfl, by omega, by go_num, HK2, hK1.2.2.2.1, hK1.2.2.2.2⟩
          · have HG := hideT' (node_all hn3 (fun j hj => HN.out j (by omega)))
            go_wp2
            go_ret
            exact ⟨by rw [HG.out]; rfl, hW⟩

set_option maxHeartbeats 4000000 in
set_option maxRecDepth 100000 in
theorem implGoodData_any (b : Nat) (l : List Dm) (w : World) (hs : ∀ i, i < l.length → (dt l i).size ≤ maxLen) (hD : DatAt w b l) (hT : Tab w.heap.size w) :
    Calls Tryz.prog 10 #[slV b l] w fun e w' => e = .returned (.bool (goodAll l)) ∧ Below w.heap.size w w' := by
  have hz := zero_dm.1
  have HD := hideT' hD
  have HS := hideT' hs
  have HT := hideT' hT
  have hb := RowAt.lt hD
  clear hD hs hT
  by_cases hn : (300 : Int) < (l.length : Int)
  · have HN : Hid (goodAll l = false) := by unfold Hid goodAll; rw [decide_eq_false (by omega)]; rfl
    go_enter Tryz.func10, Tryz.ntmps10
    go_wp2
    go_ret
    exact ⟨by rw [HN.out]; rfl, Below.refl _ _⟩
  · have hn3 : l.length ≤ 300 := by omega
    go_enter Tryz.func10, Tryz.ntmps10
    go_wp2_with fail
    go_loopg [10] l.length (fun g i wr => ∃ k : Nat, g = l.length - k ∧ k ≤ l.length ∧ i = .int .i64 (k : Int) ∧ Hid (∀ j, j < k → upOk l j = true ∧ txtOk (dk l j) (dt l j).data.toList = true) ∧ Hid (Up l k) ∧ Below w.heap.size w wr)
    case atStart => exact ⟨0, rfl, by omega, rfl, fun j hj => by omega, fun j hj => by omega, Below.refl _ _⟩
    case round =>
      obtain ⟨k, hg, hk, rfl, HK, HU, hW⟩ := hrel
      have hWs := hW.size
      by_cases hlt : (k : Int) < (l.length : Int)
      · have hk' : k < l.length := by omega
        have hDr : DatAt wr b l := RowAt.below HD.out hW hb
        have A : DmAt (wr.alloc (.cells (dmC default) 38)) wr.heap.size default := RowAt.new wr _ _
        obtain ⟨q, t, y, hd, hq, ht, hy⟩ := dm_parts l k
        have HDM := hideT' hd
        have HQ := hideT' hq
        have HTX := hideT' ht
        have HY := hideT' hy
        have hts : t.size ≤ maxLen := by rw [ht]; exact HS.out k hk'
        clear hd hq ht hy
        go_wp2_with (first | (refine load_dm rfl _ rfl b k rfl l hDr hk' ⟨q, t, y⟩ HDM.out ?_) | (refine store_dv rfl _ _ rfl rfl wr.heap.size ⟨q, t, y⟩ rfl rfl default A ?_; intro w1 hN1 hg1 hs1; have c0 : w1.cell? ⟨wr.heap.size, 0, none⟩ = some (.int .i64 q) := dm_c0 hN1; have c1 : w1.cell? ⟨wr.heap.size, 1, none⟩ = some (.string t) := dm_c1 hN1; have c2 : w1.cell? ⟨wr.heap.size, 2, none⟩ = some (.int .i64 y) := dm_c2 hN1))
        have hW1 : Below w.heap.size w w1 := (hW.alloc hWs _).grown hg1 (by simp; omega) (by intro k hk; cases hk; omega)
        have hD1 : DatAt w1 b l := RowAt.below HD.out hW1 hb
        have hs1' : w1.heap.size = wr.heap.size + 1 := by rw [hs1]; simp
        have HT1 : Hid (Tab w1.heap.size w1) := (HT.out.on hW1).up hW1.size
        clear A hg1 hs1 hDr hW
        have NO : Hid (nodeOk l k = false → goodAll l = false) := fun h => node_bad hk' h
        refine (goodUp_any b l k _ _ rfl hk' hn3 hD1 HU.out).mono ?_
        rintro e w' ⟨rfl, rfl⟩
        cases hu : upOk l k with
        | false =>
          have HF := hideT' (NO.out (node_upBad hu))
          clear hu
          go_wp2
          go_ret
          exact ⟨by rw [HF.out]; rfl, hW1⟩
        | true =>
          have HOK := hideT' hu
          have HU2 : Hid (Up l (k + 1)) := HU.out.succ hu
          clear hu
          go_wp2_with fail
          refine (goodText_any ⟨q, t, y⟩ _ hts HT1.out).mono ?_
          rintro e w2 ⟨rfl, hW2⟩
          have hWw2 : Below w.heap.size w w2 := hW1.trans (hW2.mono hW1.size)
          clear hN1 hD1 HT1 c0 c1 c2 hW2
          cases htx : txtOk q t.data.toList with
          | false =>
            have HF := hideT' (NO.out (node_txtBad (by rw [← HQ.out, ← HTX.out]; exact htx)))
            clear htx
            go_wp2
            go_ret
            exact ⟨by rw [HF.out]; rfl, hWw2⟩
          | true =>
            have HTO : Hid (txtOk (dk l k) (dt l k).data.toList = true) := by unfold Hid; rw [← HQ.out, ← HTX.out]; exact htx
            have HK2 : Hid (∀ j, j < k + 1 → upOk l j = true ∧ txtOk (dk l j) (dt l j).data.toList = true) := fun j hj => by
              by_cases e : j = k
              · subst e; exact ⟨HOK.out, HTO.out⟩
              · exact HK.out j (by omega)
            clear htx
            go_wp2
            go_roundg (l.length - (k + 1))
            case measure => omega
            case rel => exact ⟨k + 1, rfl, by omega, by go_num, HK2, HU2, hWw2⟩
      · have HAll : Hid (∀ j, j < l.length → upOk l j = true ∧ txtOk (dk l j) (dt l j).data.toList = true) := fun j hj => HK.out j (by omega)
        have hDr : DatAt wr b l := RowAt.below HD.out hW hb
        go_wp2_with fail
        refine (goodLists_any b l _ hn3 HAll.out hDr).mono ?_
        rintro e w2 ⟨rfl, hW2⟩
        obtain ⟨o, ho⟩ : ∃ o, o = goodAll l := ⟨_, rfl⟩
        rw [← ho]
        have HO := hideT' ho
        clear ho
        go_wp2
        go_ret
        exact ⟨by rw [← HO.out]; rfl, hW.trans (hW2.mono hWs)⟩
end Go.Proofs.YtjgpjafndaikcaaGreatDoor

/-
  What impl.DataText answers.
-/
namespace Go.Proofs.YtjgpjafndaikcaaGreatDoor
open Go.RowKit
set_option linter.unusedVariables false

theorem datums {l : List Dm} (hF : Fine l) : ∀ (f a : Nat), a < l.length → l.length - a ≤ f → DatumOk l a
  | 0, a, h1, h2 => by omega
  | f + 1, a, h1, h2 => datum_of hF a h1 (parts_of hF (a : Int) (a + 1) (by omega) (by omega) (fun c hc1 hc2 => datums hF f c hc2 (by omega)))
theorem parts_top {l : List Dm} (hF : Fine l) : PartsOk l (-1) 0 := parts_of hF (-1) 0 (by omega) (by omega) (fun c _ hc => datums hF (l.length - c) c hc (Nat.le_refl _))
def txtAll (l : List Dm) : List UInt8 := jnK l (TX l) l.length (-1)
/-- What DataText should answer. -/
def DtAns (l : List Dm) (e : Ending) : Prop :=
  ((goodAll l && decide ((txtAll l).length ≤ 1500)) = true ∧ ∃ s : ByteArray, e = .returned (.tuple #[.string s, .bool true]) ∧ s.data.toList = txtAll l) ∨ ((goodAll l && decide ((txtAll l).length ≤ 1500)) = false ∧ e = .returned (.tuple #[.string ⟨#[]⟩, .bool false]))
theorem DtAns.same {l : List Dm} {e e' : Ending} (h : DtAns l e) (h' : DtAns l e') : ∃ (s : ByteArray) (o : Bool), e = .returned (.tuple #[.string s, .bool o]) ∧ e' = .returned (.tuple #[.string s, .bool o]) := by
  rcases h with ⟨g1, s, rfl, h⟩ | ⟨g1, rfl⟩ <;> rcases h' with ⟨g2, t, rfl, h'⟩ | ⟨g2, rfl⟩
  · have : s = t := by
      have h3 : s.data = t.data := Array.ext' (by rw [h, h'])
      cases s; cases t; simp at h3; rw [h3]
    subst this
    exact ⟨s, true, rfl, rfl⟩
  · rw [g1] at g2; cases g2
  · rw [g1] at g2; cases g2
  · exact ⟨_, _, rfl, rfl⟩

theorem fine_of {l : List Dm} (hg : goodAll l = true) (hs : ∀ k, k < l.length → (dt l k).size ≤ 1048576) : Fine l := by
  unfold goodAll at hg
  rw [Bool.and_eq_true] at hg
  have hn := of_decide_eq_true hg.1
  have hall : ∀ k, k < l.length → nodeOk l k = true := fun k hk => List.all_eq_true.1 hg.2 k (List.mem_range.2 hk)
  have h1 : ∀ k, k < l.length → (upOk l k = true ∧ txtOk (dk l k) (dt l k).data.toList = true ∧ deepOk l k = true) ∧ dotOk l k = true := fun k hk => by
    have := hall k hk
    unfold nodeOk at this
    simp only [Bool.and_eq_true] at this
    exact this
  exact ⟨hn, fun k hk => (h1 k hk).1.1, fun k hk => (h1 k hk).2, fun k hk => (h1 k hk).1.2.1, hs⟩

theorem conv_nil (w : World) : (convert 49 9 (.slice none 0 0)).run Tryz.prog w = .ok (.string ⟨#[]⟩) w := by
  simp [convert, run_underlying Tryz.underlying49, run_underlying Tryz.underlying9, run_underlying Tryz.underlying5, Conv.bytesToString]
  rfl
theorem own_conv' {w : World} {B n : Nat} {v : Value} {l : List UInt8} (h : w.ownsRow B 5 1 v n (Lib.byteCells l)) (hn : n = l.length) : (convert 49 9 v).run Tryz.prog w = .ok (.string ⟨l.toArray⟩) w := by
  by_cases h0 : n = 0
  · rcases h.2 with ⟨rfl, _⟩ | ⟨g, cap, cur, rfl, hg, hh, hc, _, hsz, ht⟩
    · have hl : l = [] := List.length_eq_zero_iff.1 (by omega)
      subst hl
      exact conv_nil w
    · have hl : l = [] := List.length_eq_zero_iff.1 (by omega)
      subst hl
      subst hn
      exact run_convert_bytes_back (P := Tryz.prog) w 49 9 5 ⟨g, 0, none⟩ cap [] Tryz.underlying49 Tryz.underlying5 Tryz.underlying9 (fun j hj => by simp at hj)
  · exact own_conv h hn h0

set_option maxHeartbeats 2000000 in
set_option maxRecDepth 100000 in
theorem implDataText_any (b : Nat) (l : List Dm) (w : World) (hs : ∀ i, i < l.length → (dt l i).size ≤ 1048576) (hD : DatAt w b l) (hT : Tab w.heap.size w) :
    Calls Tryz.prog 13 #[slV b l] w fun e w' => DtAns l e ∧ Below w.heap.size w w' := by
  have HS := hideT' hs
  have HT := hideT' hT
  have hb := RowAt.lt hD
  clear hs hT
  go_enter Tryz.func13, Tryz.ntmps13
  go_wp2_with fail
  refine (implGoodData_any b l w (fun i hi => Nat.le_trans (HS.out i hi) (by unfold maxLen; omega)) hD HT.out).mono ?_
  rintro e w1 ⟨rfl, hW1⟩
  cases hg : goodAll l with
  | false =>
    have HA : Hid (DtAns l (.returned (.tuple #[.string ⟨#[]⟩, .bool false]))) := .inr ⟨by rw [hg]; rfl, rfl⟩
    clear hg
    go_wp2
    go_ret2
    exact ⟨HA.out, hW1⟩
  | true =>
    have HF := hideT' (fine_of hg HS.out)
    have HG := hideT' hg
    clear hg
    have hn3 := HF.out.few
    go_wp2_with fail
    refine (parts_top HF.out b w1.heap.size (.slice none 0 0) [] w1 (Nat.le_refl _) (by have := hW1.size; omega) (RowAt.below hD hW1 hb) (BytesAt.nil _ _) (by simp; omega)).mono ?_
    rintro e w2 ⟨v2, e2, rfl, _, _, hv2, hW2⟩
    have hW12 := hW1.trans (hW2.mono hW1.size)
    rw [List.nil_append] at hv2
    have hv3 : w2.ownsRow w1.heap.size 5 1 v2 (txtAll l).length (Lib.byteCells (txtAll l)) := hv2
    obtain ⟨o, cap, rfl⟩ := own_form8 hv3
    have hcv := own_conv' hv3 rfl
    obtain ⟨n, hn⟩ : ∃ n, n = (txtAll l).length := ⟨_, rfl⟩
    have HN := hideT' hn
    rw [← hn] at hcv ⊢
    clear hv2 hv3 hn
    by_cases h15 : (1500 : Int) < (n : Int)
    · have HA : Hid (DtAns l (.returned (.tuple #[.string ⟨#[]⟩, .bool false]))) := .inr ⟨by rw [HG.out, decide_eq_false (by have := HN.out; omega)]; rfl, rfl⟩
      clear hcv
      go_wp2
      go_ret2
      exact ⟨HA.out, hW12⟩
    · have HA : Hid (DtAns l (.returned (.tuple #[.string ⟨(txtAll l).toArray⟩, .bool true]))) := .inl ⟨by rw [HG.out, decide_eq_true (by have := HN.out; omega)]; rfl, _, rfl, rfl⟩
      go_wp2
      go_ret2
      exact ⟨HA.out, hW12⟩
end Go.Proofs.YtjgpjafndaikcaaGreatDoor
