/-
  The texts CbSpecRd, CbSpecRdB, ShelfTrim, ReadIdx, RdNew, HeldTxt, ImplRd, CbImplRd, CbSpecTxt, CbReadT, one behind the other, as one.
-/
import Derived.Test.YtgolfbjfopoeeaaDoorTailReadCombC
import Derived.Shelf.Strings.Trim
import Derived.Shelf.Small.Utf8
import Derived.Shelf.Small.Strs
import Derived.Shelf.Strconv.Atoi
import Derived.Shelf.Strconv.Itoa0
import Derived.Shelf.Strconv.Itoa1
import Derived.Shelf.LaysM
import Derived.Shelf.Strconv.Itoa2
import Derived.Shelf.Strconv.Itoa3
import Derived.Shelf.Strconv.AtoiErrFast
import Derived.Shelf.Strconv.ParseIntEmpty
import Derived.Shelf.Strconv.AtoiFail
import Derived.Shelf.Strconv.Clone
import Derived.Shelf.Strconv.SyntaxError
import Derived.Shelf.LaysC
import Derived.Shelf.Strconv.ToError
import Derived.Shelf.Strconv.Lower
import Derived.Shelf.Strconv.ParseUint10
import Derived.Shelf.Strconv.ParseUint10Empty
import Derived.Shelf.Strconv.ParseUint10Any
import Derived.Shelf.Strconv.ParseInt10
import Derived.Shelf.Strconv.AtoiLong
import Derived.Shelf.Strconv.AtoiInnerAll
import Derived.Shelf.Strconv.RangeError
import Derived.Shelf.Strconv.ToErrorRange
import Derived.Shelf.Strconv.AtoiAll
import Derived.Shelf.Strconv.ErrVarAll
import Derived.Shelf.Strings.Search1
import Derived.Shelf.Strconv.AppendUint10
import Derived.Shelf.Strconv.AppendInt10
import Derived.Shelf.Strconv.AppendIntPublic10
import Derived.Shelf.Strings.Prefix
import Derived.Shelf.Unicode.Decode
import Derived.Shelf.Strings.Runes
import Derived.Shelf.Strings.AsciiSet
import Derived.Shelf.Unicode.DecodeSlow
import Derived.Shelf.Unicode.DecodeAny
import Derived.Test.YtgolfbjfopoeeaaDoorProg
import Derived.Test.YtgolfbjfopoeeaaDoorHeapTab
import Derived.Shelf.Strings.SlTrimAscii
import Derived.Sort.Grow
import Derived.OwnWalk
import Derived.Test.YtgolfbjfopoeeaaDoorTreeMem
import Derived.Test.YtgolfbjfopoeeaaDoorBaseLate
import Derived.Test.YtgolfbjfopoeeaaDoorPkGood
import Derived.Deep.QuietTactic
import Derived.BigQuiet
import Derived.Test.YtgolfbjfopoeeaaDoorTailReadCombA

/-
  What ldRead of the model answers: a combinator off the front of a text; all but variables.
-/
namespace Go.Proofs.YtgolfbjfopoeeaaDoor.CB
open Go.RowKit BL
set_option linter.unusedVariables false

/-- What the model's reader answers. -/
def RdM (w : World) (o : Option (Lm × Nat)) (e : Ending) (w' : World) : Prop :=
  (o = none ∧ ∃ k n q m c, e = .returned (.tuple #[.agg (lcC k n (.slice q m c)), .int .i64 0])) ∨
  ∃ (t : Lm) (n : Nat) (z : Value), o = some (t, n) ∧ e = .returned (.tuple #[.agg (lcC t.kd t.nm z), .int .i64 (n : Int)]) ∧ LcIn w' (fun x => w.heap.size ≤ x) t z
def LcRd (d : Nat) : Prop := ∀ (s : ByteArray) (D : Int) (w : World), d ≤ 1000 → s.size ≤ 1048576 → D = 61 - (d : Int) →
    Calls Tryd.prog 43 #[.string s, .int .i64 D] w fun e w' => RdM w (rdM d s.data.toList) e w' ∧ Below w.heap.size w w'
theorem rdM_no0 (s : List UInt8) : rdM 0 s = none := by rw [rdM]
theorem rdM_nil (d : Nat) : rdM d [] = none := by cases d <;> rw [rdM]
theorem rdM_app1 {d : Nat} {r : List UInt8} (h : rdM d r = none) : rdM (d + 1) (40 :: r) = none := by rw [rdM, if_neg (by decide), if_neg (by decide), if_neg (by decide), if_neg (by decide), if_pos rfl, h]
theorem rdM_app2 {d : Nat} {r : List UInt8} {a : Lm} {n : Nat} (h : rdM d r = some (a, n)) (hn : ¬ (40 :: r)[n + 1]? = some 32) : rdM (d + 1) (40 :: r) = none := by rw [rdM, if_neg (by decide), if_neg (by decide), if_neg (by decide), if_neg (by decide), if_pos rfl, h]; simp only; rw [if_neg hn]
theorem rdM_app3 {d : Nat} {r : List UInt8} {a : Lm} {n : Nat} (h : rdM d r = some (a, n)) (hn : (40 :: r)[n + 1]? = some 32) (h2 : rdM d ((40 :: r).drop (n + 2)) = none) : rdM (d + 1) (40 :: r) = none := by rw [rdM, if_neg (by decide), if_neg (by decide), if_neg (by decide), if_neg (by decide), if_pos rfl, h]; simp only; rw [if_pos hn, h2]
theorem rdM_app4 {d : Nat} {r : List UInt8} {a b : Lm} {n m : Nat} (h : rdM d r = some (a, n)) (hn : (40 :: r)[n + 1]? = some 32) (h2 : rdM d ((40 :: r).drop (n + 2)) = some (b, m)) (hm : ¬ (40 :: r)[n + 2 + m]? = some 41) : rdM (d + 1) (40 :: r) = none := by rw [rdM, if_neg (by decide), if_neg (by decide), if_neg (by decide), if_neg (by decide), if_pos rfl, h]; simp only; rw [if_pos hn, h2]; simp only; rw [if_neg hm]
theorem rdM_app5 {d : Nat} {r : List UInt8} {a b : Lm} {n m : Nat} (h : rdM d r = some (a, n)) (hn : (40 :: r)[n + 1]? = some 32) (h2 : rdM d ((40 :: r).drop (n + 2)) = some (b, m)) (hm : (40 :: r)[n + 2 + m]? = some 41) : rdM (d + 1) (40 :: r) = some (.app a b, n + 2 + m + 1) := by rw [rdM, if_neg (by decide), if_neg (by decide), if_neg (by decide), if_neg (by decide), if_pos rfl, h]; simp only; rw [if_pos hn, h2]; simp only; rw [if_pos hm]

set_option maxHeartbeats 8000000 in
set_option maxRecDepth 100000 in
theorem ldRead_none (d : Nat) (s : ByteArray) (D : Int) (w : World) (hD : D = 61 - (d : Int)) (h : d = 0 ∨ s.data.toList = []) :
    Calls Tryd.prog 43 #[.string s, .int .i64 D] w fun e w' => RdM w (rdM d s.data.toList) e w' ∧ Below w.heap.size w w' := by
  have hz := zero_lcT.1
  have HN : Hid (rdM d s.data.toList = none) := by
    unfold Hid
    rcases h with h | h
    · rw [h]; exact rdM_no0 _
    · rw [h]; exact rdM_nil _
  have HRZ := hideT' (RowAt.new w 70 (lcC 0 0 (.slice none 0 0)))
  have HB : Hid (Below w.heap.size w (w.alloc (.cells (lcC 0 0 (.slice none 0 0)) 70))) := (Below.refl _ _).alloc (Nat.le_refl _) _
  by_cases hD40 : (60 : Int) < D
  · clear h hD
    go_enter Tryd.func43, Tryd.ntmps43
    go_wp2
    exact bodyPost_ret (v := .tuple #[.agg (lcC 0 0 (.slice none 0 0)), .int .i64 0]) (res_lc_tmp Tryd.results43 _ _ w.heap.size 0 0 (.slice none 0 0) (.int .i64 0) rfl rfl HRZ.out) rfl ⟨.inl ⟨HN.out, _, _, _, _, _, rfl⟩, HB.out⟩
  · have hs : s.data.toList = [] := by rcases h with h | h; omega; exact h
    have he' : (s.toList == []) = true := str_eq hs
    clear h hD hs
    go_enter Tryd.func43, Tryd.ntmps43
    go_wp2
    exact bodyPost_ret (v := .tuple #[.agg (lcC 0 0 (.slice none 0 0)), .int .i64 0]) (res_lc_tmp Tryd.results43 _ _ w.heap.size 0 0 (.slice none 0 0) (.int .i64 0) rfl rfl HRZ.out) rfl ⟨.inl ⟨HN.out, _, _, _, _, _, rfl⟩, HB.out⟩

set_option maxHeartbeats 8000000 in
set_option maxRecDepth 100000 in
theorem ldRead_leaf (x : Leaf) (hx : x.nm = 0) (d : Nat) (s : ByteArray) (D : Int) (w : World) (c : UInt8) (r : List UInt8) (hD : D = 61 - ((d + 1 : Nat) : Int)) (hl : s.data.toList = c :: r) (hc : (x = .s ∧ c = 83) ∨ (x = .k ∧ c = 75) ∨ (x = .i ∧ c = 73)) :
    Calls Tryd.prog 43 #[.string s, .int .i64 D] w fun e w' => RdM w (rdM (d + 1) s.data.toList) e w' ∧ Below w.heap.size w w' := by
  have hz := zero_lcT.1
  have he' : (s.toList == []) = false := str_ne (by rw [hl]; simp)
  have e2 : s.data.toList.length = s.size := by simp
  have hp : 0 < s.size := by rw [← e2, hl]; simp
  have hc0 : s[0] = c := by have := get_at hp; rw [hl] at this; injection this with this; exact this.symm
  have hD40 : ¬ (60 : Int) < D := by omega
  obtain ⟨W, hW⟩ : ∃ W, W = w.alloc (.cells #[.int .i64 0, .int .i64 0, .slice none 0 0] 70) := ⟨_, rfl⟩
  have hBW : Below w.heap.size w W := by rw [hW]; exact (Below.refl _ _).alloc (Nat.le_refl _) _
  have hWs : W.heap.size = w.heap.size + 1 := by rw [hW]; simp
  have HRW : Hid (RowAt W w.heap.size 70 #[.int .i64 0, .int .i64 0, .slice none 0 0]) := by rw [hW]; exact RowAt.new _ _ _
  have HR : Hid (rdM (d + 1) s.data.toList = some (.var x, 1)) := by
    unfold Hid
    rw [hl]
    rcases hc with ⟨h1, h2⟩ | ⟨h1, h2⟩ | ⟨h1, h2⟩ <;> (subst h1 h2; rfl)
  have HC := hideT' (ldOne_any x.kd W)
  have HB := hideT' hBW
  have fin : Hid (∀ w3, Below W.heap.size W w3 → ∀ w9, RowAt w9 w.heap.size 70 (lcC x.kd 0 (.slice none 0 0)) → w3.grownBy w9 (some w.heap.size) → RdM w (rdM (d + 1) s.data.toList) (.returned (.tuple #[.agg (lcC x.kd 0 (.slice none 0 0)), .int .i64 1])) w9 ∧ Below w.heap.size w w9) := fun w3 hB3 w9 hR9 hg9 =>
    ⟨.inr ⟨.var x, 1, .slice none 0 0, HR.out, by show _ = Ending.returned (.tuple #[.agg (lcC x.kd x.nm _), _]); rw [hx]; rfl, none, 0, rfl⟩, (HB.out.trans (hB3.mono HB.out.size)).grown hg9 (by have := HB.out.size; have := hB3.size; omega) (fun k e => by cases e; omega)⟩
  clear hD hl e2 hBW HR
  rcases hc with ⟨h1, h2⟩ | ⟨h1, h2⟩ | ⟨h1, h2⟩
  · subst h1 h2
    simp only [Leaf.kd] at HC fin
    have hbb : ((s[0].toNat : Int) == 83) = true := by rw [hc0]; rfl
    unfold lcC at HC
    clear hc0
    go_enter Tryd.func43, Tryd.ntmps43
    go_wp2_with fail
    rw [← hW]
    refine HC.out.mono ?_
    rintro e w3 ⟨rfl, hB3⟩
    have HR3 : Hid (RowAt w3 w.heap.size 70 #[.int .i64 0, .int .i64 0, .slice none 0 0]) := HRW.out.below hB3 (by omega)
    have HB3 := hideT' hB3
    clear hB3 hW
    go_wp2_with (refine store_3 rfl 70 _ _ rfl rfl zero_lcT.2 w.heap.size (lcC 3 0 (.slice none 0 0)) rfl (lcC_one _ _ _ rfl) rfl rfl _ rfl HR3.out ?_; intro w9 hR9 hg9 hs9)
    exact bodyPost_ret (v := .tuple #[.agg (lcC 3 0 (.slice none 0 0)), .int .i64 1]) (res_lc_tmp Tryd.results43 _ _ w.heap.size 3 0 (.slice none 0 0) (.int .i64 1) rfl rfl hR9) rfl (fin.out _ HB3.out _ hR9 hg9)
  · subst h1 h2
    simp only [Leaf.kd] at HC fin
    have hb83 : ((s[0].toNat : Int) == 83) = false := by rw [hc0]; rfl
    have hbb : ((s[0].toNat : Int) == 75) = true := by rw [hc0]; rfl
    unfold lcC at HC
    clear hc0
    go_enter Tryd.func43, Tryd.ntmps43
    go_wp2_with fail
    rw [← hW]
    refine HC.out.mono ?_
    rintro e w3 ⟨rfl, hB3⟩
    have HR3 : Hid (RowAt w3 w.heap.size 70 #[.int .i64 0, .int .i64 0, .slice none 0 0]) := HRW.out.below hB3 (by omega)
    have HB3 := hideT' hB3
    clear hB3 hW
    go_wp2_with (refine store_3 rfl 70 _ _ rfl rfl zero_lcT.2 w.heap.size (lcC 4 0 (.slice none 0 0)) rfl (lcC_one _ _ _ rfl) rfl rfl _ rfl HR3.out ?_; intro w9 hR9 hg9 hs9)
    exact bodyPost_ret (v := .tuple #[.agg (lcC 4 0 (.slice none 0 0)), .int .i64 1]) (res_lc_tmp Tryd.results43 _ _ w.heap.size 4 0 (.slice none 0 0) (.int .i64 1) rfl rfl hR9) rfl (fin.out _ HB3.out _ hR9 hg9)
  · subst h1 h2
    simp only [Leaf.kd] at HC fin
    have hb83 : ((s[0].toNat : Int) == 83) = false := by rw [hc0]; rfl
    have hb75 : ((s[0].toNat : Int) == 75) = false := by rw [hc0]; rfl
    have hbb : ((s[0].toNat : Int) == 73) = true := by rw [hc0]; rfl
    unfold lcC at HC
    clear hc0
    go_enter Tryd.func43, Tryd.ntmps43
    go_wp2_with fail
    rw [← hW]
    refine HC.out.mono ?_
    rintro e w3 ⟨rfl, hB3⟩
    have HR3 : Hid (RowAt w3 w.heap.size 70 #[.int .i64 0, .int .i64 0, .slice none 0 0]) := HRW.out.below hB3 (by omega)
    have HB3 := hideT' hB3
    clear hB3 hW
    go_wp2_with (refine store_3 rfl 70 _ _ rfl rfl zero_lcT.2 w.heap.size (lcC 5 0 (.slice none 0 0)) rfl (lcC_one _ _ _ rfl) rfl rfl _ rfl HR3.out ?_; intro w9 hR9 hg9 hs9)
    exact bodyPost_ret (v := .tuple #[.agg (lcC 5 0 (.slice none 0 0)), .int .i64 1]) (res_lc_tmp Tryd.results43 _ _ w.heap.size 5 0 (.slice none 0 0) (.int .i64 1) rfl rfl hR9) rfl (fin.out _ HB3.out _ hR9 hg9)
set_option maxHeartbeats 8000000 in
set_option maxRecDepth 100000 in
theorem ldRead_else (d : Nat) (s : ByteArray) (D : Int) (w : World) (c : UInt8) (r : List UInt8) (hD : D = 61 - ((d + 1 : Nat) : Int)) (hl : s.data.toList = c :: r) (h83 : c ≠ 83) (h75 : c ≠ 75) (h73 : c ≠ 73) (h120 : c ≠ 120) (h40 : c ≠ 40) :
    Calls Tryd.prog 43 #[.string s, .int .i64 D] w fun e w' => RdM w (rdM (d + 1) s.data.toList) e w' ∧ Below w.heap.size w w' := by
  have hz := zero_lcT.1
  have he' : (s.toList == []) = false := str_ne (by rw [hl]; simp)
  have e2 : s.data.toList.length = s.size := by simp
  have hp : 0 < s.size := by rw [← e2, hl]; simp
  have hc0 : s[0] = c := by have := get_at hp; rw [hl] at this; injection this with this; exact this.symm
  have hb83 : ((s[0].toNat : Int) == 83) = false := by rw [hc0]; exact toInt_neS (d := 83) h83
  have hb75 : ((s[0].toNat : Int) == 75) = false := by rw [hc0]; exact toInt_neS (d := 75) h75
  have hb73 : ((s[0].toNat : Int) == 73) = false := by rw [hc0]; exact toInt_neS (d := 73) h73
  have hb120 : ((s[0].toNat : Int) == 120) = false := by rw [hc0]; exact toInt_neS (d := 120) h120
  have hb40 : ((s[0].toNat : Int) == 40) = false := by rw [hc0]; exact toInt_neS (d := 40) h40
  have hD40 : ¬ (60 : Int) < D := by omega
  have HN : Hid (rdM (d + 1) s.data.toList = none) := by unfold Hid; rw [hl, rdM, if_neg h83, if_neg h75, if_neg h73, if_neg h120, if_neg h40]
  have HRZ := hideT' (RowAt.new w 70 (lcC 0 0 (.slice none 0 0)))
  have HB : Hid (Below w.heap.size w (w.alloc (.cells (lcC 0 0 (.slice none 0 0)) 70))) := (Below.refl _ _).alloc (Nat.le_refl _) _
  clear hD hl e2 hc0 h83 h75 h73 h120 h40
  go_enter Tryd.func43, Tryd.ntmps43
  go_wp2
  exact bodyPost_ret (v := .tuple #[.agg (lcC 0 0 (.slice none 0 0)), .int .i64 0]) (res_lc_tmp Tryd.results43 _ _ w.heap.size 0 0 (.slice none 0 0) (.int .i64 0) rfl rfl HRZ.out) rfl ⟨.inl ⟨HN.out, _, _, _, _, _, rfl⟩, HB.out⟩
set_option maxHeartbeats 16000000 in
set_option maxRecDepth 100000 in
theorem ldRead_app (d : Nat) (hd1000 : d ≤ 1000) (IH : LcRd d) (s : ByteArray) (D : Int) (w : World) (r : List UInt8) (hs : s.size ≤ 1048576) (hD : D = 61 - ((d + 1 : Nat) : Int)) (hl : s.data.toList = 40 :: r) :
    Calls Tryd.prog 43 #[.string s, .int .i64 D] w fun e w' => RdM w (rdM (d + 1) s.data.toList) e w' ∧ Below w.heap.size w w' := by
  have hz := zero_lcT.1
  have he' : (s.toList == []) = false := str_ne (by rw [hl]; simp)
  have e2 : s.data.toList.length = s.size := by simp
  have hp : 0 < s.size := by rw [← e2, hl]; simp
  have hc0 : s[0] = 40 := by have := get_at hp; rw [hl] at this; injection this with this; exact this.symm
  have hb83 : ((s[0].toNat : Int) == 83) = false := by rw [hc0]; rfl
  have hb75 : ((s[0].toNat : Int) == 75) = false := by rw [hc0]; rfl
  have hb73 : ((s[0].toNat : Int) == 73) = false := by rw [hc0]; rfl
  have hb120 : ((s[0].toNat : Int) == 120) = false := by rw [hc0]; rfl
  have hb40 : ((s[0].toNat : Int) == 40) = true := by rw [hc0]; rfl
  have hyi : (1 : Int) ≤ (s.size : Int) := by omega
  have hye : (s.extract 1 s.size).data.toList = r := by rw [ext_drop, hl]; rfl
  have hyes := ext_drop_size s 1
  have hD40 : ¬ (60 : Int) < D := by omega
  obtain ⟨D1, hD1⟩ : ∃ D1, D1 = D + 1 := ⟨_, rfl⟩
  have hwD : IntKind.i64.wrap (D + 1) = D1 := by rw [IntKind.wrap_i64]; omega
  obtain ⟨W, hW⟩ : ∃ W, W = w.alloc (.cells #[.int .i64 0, .int .i64 0, .slice none 0 0] 70) := ⟨_, rfl⟩
  have hBW : Below w.heap.size w W := by rw [hW]; exact (Below.refl _ _).alloc (Nat.le_refl _) _
  have hWs : W.heap.size = w.heap.size + 1 := by rw [hW]; simp
  have HRW : Hid (RowAt W w.heap.size 70 #[.int .i64 0, .int .i64 0, .slice none 0 0]) := by rw [hW]; exact RowAt.new _ _ _
  have HC := hideT' (IH (s.extract 1 s.size) D1 W hd1000 (by omega) (by omega))
  rw [hye] at HC
  have HIH : Hid (∀ (x : ByteArray) (w' : World), x.size ≤ 1048576 → Calls Tryd.prog 43 #[.string x, .int .i64 D1] w' fun e w'' => RdM w' (rdM d x.data.toList) e w'' ∧ Below w'.heap.size w' w'') := fun x w' hx => IH x D1 w' hd1000 hx (by omega)
  have HLEN : Hid (∀ l t n, rdM d l = some (t, n) → 0 < n ∧ n ≤ l.length) := fun l t n h => by have := rdM_len d l t n h; omega
  have HL := hideT' hl
  have HE2 := hideT' e2
  have hrl : r.length + 1 = s.size := by rw [← e2, hl]; rfl
  have HRL := hideT' hrl
  have HSS := hideT' hs
  have HB := hideT' hBW
  clear IH hD hD1 hl e2 hc0 hye hyes hBW hrl hs
  go_enter Tryd.func43, Tryd.ntmps43
  go_wp2_with fail
  rw [← hW]
  refine HC.out.mono ?_
  rintro e w1 ⟨hans, hB1⟩
  have hs1 := hB1.size
  have HB1 : Hid (Below w.heap.size w w1) := HB.out.trans (hB1.mono (by omega))
  have HR1 : Hid (RowAt w1 w.heap.size 70 #[.int .i64 0, .int .i64 0, .slice none 0 0]) := HRW.out.below hB1 (by omega)
  clear hB1 hW
  rcases hans with ⟨hn, k, x, q, m, c, rfl⟩ | ⟨a, n, z, ho, rfl, hz1⟩
  · have HN : Hid (rdM (d + 1) s.data.toList = none) := by unfold Hid; rw [HL.out]; exact rdM_app1 hn
    have HB2 : Hid (Below w.heap.size w (w1.alloc (.cells (lcC k x (.slice q m c)) 70))) := HB1.out.alloc HB1.out.size _
    unfold lcC at HB2
    clear hn
    unfold lcC
    go_wp2_with (refine store_3 rfl 70 _ _ rfl rfl zero_lcT.2 w.heap.size (lcC 0 0 (.slice none 0 0)) rfl (lcC_one _ _ _ rfl) rfl rfl _ rfl (RowAt.old HR1.out _) ?_; intro w9 hR9 hg9 hs9)
    exact bodyPost_ret (v := .tuple #[.agg (lcC 0 0 (.slice none 0 0)), .int .i64 0]) (res_lc_tmp Tryd.results43 _ _ w.heap.size 0 0 (.slice none 0 0) (.int .i64 0) rfl rfl hR9) rfl ⟨.inl ⟨HN.out, _, _, _, _, _, rfl⟩, HB2.out.grown hg9 HB2.out.size (fun k e => by cases e; omega)⟩
  · have hnn := HLEN.out r a n ho
    obtain ⟨hn0, hn1⟩ := hnn
    have hns : n + 1 ≤ s.size := by have := HRL.out; omega
    have hnb : n ≤ 1048576 := by have := HSS.out; omega
    have HO := hideT' ho
    obtain ⟨oz, cz, hzz⟩ := hz1.form
    subst hzz
    have HZ1 := hideT' hz1
    obtain ⟨kd, hkd⟩ : ∃ kd, kd = a.kd := ⟨_, rfl⟩
    obtain ⟨nm, hnm⟩ : ∃ nm, nm = a.nm := ⟨_, rfl⟩
    obtain ⟨q, hq⟩ : ∃ q, q = a.kids.length := ⟨_, rfl⟩
    rw [← hkd, ← hnm, ← hq]
    have HA := hideT' (And.intro hkd (And.intro hnm hq))
    obtain ⟨W2, hW2⟩ : ∃ W2, W2 = w1.alloc (.cells #[.int .i64 kd, .int .i64 nm, .slice oz q cz] 70) := ⟨_, rfl⟩
    have hB2 : Below w1.heap.size w1 W2 := by rw [hW2]; exact (Below.refl _ _).alloc (Nat.le_refl _) _
    have HRA : Hid (RowAt W2 w1.heap.size 70 #[.int .i64 kd, .int .i64 nm, .slice oz q cz]) := by rw [hW2]; exact RowAt.new _ _ _
    have HR2 : Hid (RowAt W2 w.heap.size 70 #[.int .i64 0, .int .i64 0, .slice none 0 0]) := HR1.out.below hB2 (by omega)
    have HBL2 := hideT' hB2
    have HB2 : Hid (Below w.heap.size w W2) := HB1.out.trans (hB2.mono HB1.out.size)
    have hs2 : W2.heap.size = w1.heap.size + 1 := by rw [hW2]; simp
    have hn0b : ((n : Int) == 0) = false := by rw [beq_eq_false_iff_ne]; omega
    obtain ⟨m1, hm1⟩ : ∃ m1 : Nat, m1 = n + 1 := ⟨_, rfl⟩
    have hwm1 : IntKind.i64.wrap ((n : Int) + 1) = (m1 : Int) := by rw [IntKind.wrap_i64]; omega
    have HM1 := hideT' hm1
    clear ho hz1 hkd hnm hq hB2
    have no : ∀ (w2 : World), Hid (rdM (d + 1) s.data.toList = none) → Below w.heap.size w w2 → ∀ w9, RowAt w9 w.heap.size 70 (lcC 0 0 (.slice none 0 0)) → w2.grownBy w9 (some w.heap.size) → RdM w (rdM (d + 1) s.data.toList) (.returned (.tuple #[.agg (lcC 0 0 (.slice none 0 0)), .int .i64 0])) w9 ∧ Below w.heap.size w w9 := fun w2 hN hB w9 hR9 hg9 =>
      ⟨.inl ⟨hN.out, _, _, _, _, _, rfl⟩, hB.grown hg9 hB.size (fun k e => by cases e; omega)⟩
    have NO := hideT' no
    clear no
    by_cases hb1 : m1 < s.size
    · by_cases h32 : (s[m1].toNat : Int) = 32
      · have hb32 : ((s[m1].toNat : Int) == 32) = true := by rw [h32]; rfl
        have hn32 : ((s[m1].toNat : Int) != 32) = false := by rw [bne, hb32]; rfl
        have hm1i : ¬ (s.size : Int) ≤ (m1 : Int) := by omega
        have HG1 : Hid ((40 :: r)[n + 1]? = some 32) := by
          unfold Hid
          rw [← HL.out, ← hm1, get_at hb1]
          congr 1
          exact toInt_eq (k := 32) h32 (by decide)
        obtain ⟨m2, hm2⟩ : ∃ m2 : Nat, m2 = n + 2 := ⟨_, rfl⟩
        have hwm2 : IntKind.i64.wrap ((n : Int) + 2) = (m2 : Int) := by rw [IntKind.wrap_i64]; omega
        have hm2s : (m2 : Int) ≤ (s.size : Int) := by omega
        have hye : (s.extract m2 s.size).data.toList = (40 :: r).drop (n + 2) := by rw [ext_drop, HL.out, hm2]
        have hyes := ext_drop_size s m2
        have HC2 := hideT' (HIH.out (s.extract m2 s.size) W2 (by have := HSS.out; omega))
        rw [hye] at HC2
        have hdl : ((40 :: r).drop (n + 2)).length = s.size - m2 := by rw [List.length_drop, List.length_cons, HRL.out, hm2]
        have HDL := hideT' hdl
        have HM2 := hideT' hm2
        have hm2b : m2 ≤ 1048578 := by omega
        clear hye hyes h32 hdl
        have HLN2 : Hid (∀ t x, rdM d ((40 :: r).drop (n + 2)) = some (t, x) → 0 < x ∧ x ≤ s.size - m2) := fun t x h => by have := HLEN.out _ t x h; rw [HDL.out] at this; exact this
        clear hm1 hm2
        unfold lcC
        go_wp2_with fail
        rw [← hW2]
        refine HC2.out.mono ?_
        rintro e w3 ⟨hans, hB3⟩
        have hs3 := hB3.size
        have HR3 : Hid (RowAt w3 w.heap.size 70 #[.int .i64 0, .int .i64 0, .slice none 0 0]) := HR2.out.below hB3 (by omega)
        have HRA3 : Hid (RowAt w3 w1.heap.size 70 #[.int .i64 kd, .int .i64 nm, .slice oz q cz]) := HRA.out.below hB3 (by omega)
        have HBL3 := hideT' hB3
        have HB3 : Hid (Below w.heap.size w w3) := HB2.out.trans (hB3.mono HB2.out.size)
        clear hB3 hW2
        rcases hans with ⟨hn, k, x, q', m', c', rfl⟩ | ⟨b, x, zb, ho2, rfl, hz3⟩
        · have HN : Hid (rdM (d + 1) s.data.toList = none) := by unfold Hid; rw [HL.out]; exact rdM_app3 HO.out HG1.out hn
          have HB4 : Hid (Below w.heap.size w (w3.alloc (.cells (lcC k x (.slice q' m' c')) 70))) := HB3.out.alloc HB3.out.size _
          unfold lcC at HB4
          have hw0 : IntKind.i64.wrap ((m2 : Int) + 0) = (m2 : Int) := by rw [IntKind.wrap_i64]; omega
          clear hn
          unfold lcC
          go_wp2_with (refine store_3 rfl 70 _ _ rfl rfl zero_lcT.2 w.heap.size (lcC 0 0 (.slice none 0 0)) rfl (lcC_one _ _ _ rfl) rfl rfl _ rfl (RowAt.old HR3.out _) ?_; intro w9 hR9 hg9 hs9)
          exact bodyPost_ret (v := .tuple #[.agg (lcC 0 0 (.slice none 0 0)), .int .i64 0]) (res_lc_tmp Tryd.results43 _ _ w.heap.size 0 0 (.slice none 0 0) (.int .i64 0) rfl rfl hR9) rfl (NO.out _ HN HB4.out _ hR9 hg9)
        · have hxx := HLN2.out b x ho2
          obtain ⟨hx0, hx1⟩ := hxx
          have HO2 := hideT' ho2
          obtain ⟨ob, cb, hzz⟩ := hz3.form
          subst hzz
          have HZ3 := hideT' hz3
          obtain ⟨kb, hkb⟩ : ∃ kb, kb = b.kd := ⟨_, rfl⟩
          obtain ⟨nb, hnb'⟩ : ∃ nb, nb = b.nm := ⟨_, rfl⟩
          obtain ⟨qb, hqb⟩ : ∃ qb, qb = b.kids.length := ⟨_, rfl⟩
          rw [← hkb, ← hnb', ← hqb]
          have HBB := hideT' (And.intro hkb (And.intro hnb' hqb))
          have hx0b : ((x : Int) == 0) = false := by rw [beq_eq_false_iff_ne]; omega
          obtain ⟨E, hE⟩ : ∃ E : Nat, E = m2 + x := ⟨_, rfl⟩
          have hss2 := HSS.out
          have hwE : IntKind.i64.wrap ((m2 : Int) + (x : Int)) = (E : Int) := by rw [IntKind.wrap_i64]; omega
          obtain ⟨E1, hE1⟩ : ∃ E1 : Nat, E1 = E + 1 := ⟨_, rfl⟩
          have hwE1 : IntKind.i64.wrap ((E : Int) + 1) = (E1 : Int) := by rw [IntKind.wrap_i64]; omega
          have HEE : Hid (E = n + 2 + x ∧ E1 = n + 2 + x + 1) := by have := HM2.out; exact ⟨by omega, by omega⟩
          obtain ⟨W4, hW4⟩ : ∃ W4, W4 = w3.alloc (.cells #[.int .i64 kb, .int .i64 nb, .slice ob qb cb] 70) := ⟨_, rfl⟩
          have hB4 : Below w3.heap.size w3 W4 := by rw [hW4]; exact (Below.refl _ _).alloc (Nat.le_refl _) _
          have HR4 : Hid (RowAt W4 w.heap.size 70 #[.int .i64 0, .int .i64 0, .slice none 0 0]) := HR3.out.below hB4 (by omega)
          have HRA4 : Hid (RowAt W4 w1.heap.size 70 #[.int .i64 kd, .int .i64 nm, .slice oz q cz]) := HRA3.out.below hB4 (by omega)
          have HRB4 : Hid (RowAt W4 w3.heap.size 70 #[.int .i64 kb, .int .i64 nb, .slice ob qb cb]) := by rw [hW4]; exact RowAt.new _ _ _
          have HB4 : Hid (Below w.heap.size w W4) := HB3.out.trans (hB4.mono HB3.out.size)
          have HZA : Hid (LcIn W4 (fun y => W.heap.size ≤ y) a (.slice oz a.kids.length cz)) := by
            have k1 := HBL2.out
            have k2 := HBL3.out
            have hall : Below w1.heap.size w1 W4 := (k1.trans (k2.mono k1.size)).trans (hB4.mono (by have := k1.size; omega))
            exact LcIn.keep (w := w1) hall.size (fun y _ hy => hall.block y hy) (fun y hy _ => hy) HZ1.out
          have HZB : Hid (LcIn W4 (fun y => W.heap.size ≤ y) b (.slice ob b.kids.length cb)) := LcIn.keep (w := w3) hB4.size (fun y _ hy => hB4.block y hy) (fun y hy _ => by have hy : W2.heap.size ≤ y := hy; omega) HZ3.out
          clear ho2 hz3 hkb hnb' hqb hB4
          by_cases hbE : E < s.size
          · by_cases h41 : (s[E].toNat : Int) = 41
            · have hb41 : ((s[E].toNat : Int) == 41) = true := by rw [h41]; rfl
              have hn41 : ((s[E].toNat : Int) != 41) = false := by rw [bne, hb41]; rfl
              have hEi : ¬ (s.size : Int) ≤ (E : Int) := by omega
              have HRES : Hid (rdM (d + 1) s.data.toList = some (.app a b, E1)) := by
                unfold Hid
                rw [HL.out, HEE.out.2]
                refine rdM_app5 HO.out HG1.out HO2.out ?_
                rw [← HL.out, ← HEE.out.1, get_at hbE]
                congr 1
                exact toInt_eq (k := 41) h41 (by decide)
              have HC4 := hideT' (lcApp_any a b _ _ _ W4 HZA.out HZB.out)
              rw [← HA.out.1, ← HA.out.2.1, ← HA.out.2.2, ← HBB.out.1, ← HBB.out.2.1, ← HBB.out.2.2] at HC4
              have a0 : W4.cell? ⟨w1.heap.size, 0, none⟩ = some (.int .i64 kd) := by rw [cell_of_row _ _ _ _ _ _ HRA4.out]; rfl
              have a1 : W4.cell? ⟨w1.heap.size, 1, none⟩ = some (.int .i64 nm) := by rw [cell_of_row _ _ _ _ _ _ HRA4.out]; rfl
              have a2 : W4.cell? ⟨w1.heap.size, 2, none⟩ = some (.slice oz q cz) := by rw [cell_of_row _ _ _ _ _ _ HRA4.out]; rfl
              have hal : W4 = w3.alloc (.cells #[.int .i64 kb, .int .i64 nb, .slice ob qb cb] 70) := hW4
              unfold lcC at HC4 ⊢
              clear h41 hE hE1 hW4
              rw [hal] at a0 a1 a2
              go_wp2_with fail
              rw [← hal]
              refine HC4.out.mono ?_
              rintro e w5 ⟨⟨z5, rfl, hz5⟩, hB5⟩
              obtain ⟨o5, c5, hzz5⟩ := hz5.form
              subst hzz5
              have HR5 : Hid (RowAt w5 w.heap.size 70 #[.int .i64 0, .int .i64 0, .slice none 0 0]) := HR4.out.below hB5 (by have := HB4.out.size; have := HBL3.out.size; have := HBL2.out.size; have := HB1.out.size; have h9 := HR4.out.lt; exact h9)
              have HB5 : Hid (Below w.heap.size w w5) := HB4.out.trans (hB5.mono HB4.out.size)
              have HZ5 := hideT' hz5
              clear hz5 hB5 hal a0 a1 a2
              simp only [Lm.kids, List.length_cons, List.length_nil] at HZ5 ⊢
              go_wp2_with (refine store_3 rfl 70 _ _ rfl rfl zero_lcT.2 w.heap.size (lcC 2 0 (.slice o5 2 c5)) rfl (lcC_one _ _ _ rfl) rfl rfl _ rfl HR5.out ?_; intro w9 hR9 hg9 hs9)
              refine bodyPost_ret (v := .tuple #[.agg (lcC 2 0 (.slice o5 2 c5)), .int .i64 (E1 : Int)]) (res_lc_tmp Tryd.results43 _ _ w.heap.size 2 0 (.slice o5 2 c5) (.int .i64 (E1 : Int)) rfl rfl hR9) rfl ⟨.inr ⟨.app a b, E1, .slice o5 2 c5, HRES.out, rfl, ?_⟩, HB5.out.grown hg9 HB5.out.size (fun k e => by cases e; omega)⟩
              have h4s := HR4.out.lt
              have h5s := HB5.out.size
              exact LcIn.keep (w := w5) (by omega) (fun y hy hl => hg9.block y hl (by intro e; injection e with e; rcases hy with hy | hy <;> omega)) (fun y hy _ => by rcases hy with hy | hy <;> omega) HZ5.out
            · have hb41 : ((s[E].toNat : Int) == 41) = false := by rw [beq_eq_false_iff_ne]; exact h41
              have hn41 : ((s[E].toNat : Int) != 41) = true := by rw [bne, hb41]; rfl
              have hEi : ¬ (s.size : Int) ≤ (E : Int) := by omega
              have HN : Hid (rdM (d + 1) s.data.toList = none) := by
                unfold Hid
                rw [HL.out]
                refine rdM_app4 HO.out HG1.out HO2.out ?_
                rw [← HL.out, ← HEE.out.1, get_at hbE]
                intro e
                injection e with e
                apply h41
                rw [e]; rfl
              unfold lcC
              clear hE hE1
              go_wp2_with (refine store_3 rfl 70 _ _ rfl rfl zero_lcT.2 w.heap.size (lcC 0 0 (.slice none 0 0)) rfl (lcC_one _ _ _ rfl) rfl rfl _ rfl (RowAt.old HR3.out _) ?_; intro w9 hR9 hg9 hs9)
              rw [← hW4] at hg9
              exact bodyPost_ret (v := .tuple #[.agg (lcC 0 0 (.slice none 0 0)), .int .i64 0]) (res_lc_tmp Tryd.results43 _ _ w.heap.size 0 0 (.slice none 0 0) (.int .i64 0) rfl rfl hR9) rfl (NO.out _ HN HB4.out _ hR9 hg9)
          · have hEi : (s.size : Int) ≤ (E : Int) := by omega
            have hEn : s.size ≤ E := by omega
            have hEb : decide ((s.size : Int) ≤ (E : Int)) = true := decide_eq_true hEi
            have HN : Hid (rdM (d + 1) s.data.toList = none) := by
              unfold Hid
              rw [HL.out]
              refine rdM_app4 HO.out HG1.out HO2.out ?_
              rw [← HL.out, ← HEE.out.1, get_no (by omega)]
              simp
            unfold lcC
            clear hE hE1 hbE
            go_wp2_with (refine store_3 rfl 70 _ _ rfl rfl zero_lcT.2 w.heap.size (lcC 0 0 (.slice none 0 0)) rfl (lcC_one _ _ _ rfl) rfl rfl _ rfl (RowAt.old HR3.out _) ?_; intro w9 hR9 hg9 hs9)
            rw [← hW4] at hg9
            exact bodyPost_ret (v := .tuple #[.agg (lcC 0 0 (.slice none 0 0)), .int .i64 0]) (res_lc_tmp Tryd.results43 _ _ w.heap.size 0 0 (.slice none 0 0) (.int .i64 0) rfl rfl hR9) rfl (NO.out _ HN HB4.out _ hR9 hg9)
      · have hb32 : ((s[m1].toNat : Int) == 32) = false := by rw [beq_eq_false_iff_ne]; exact h32
        have hn32 : ((s[m1].toNat : Int) != 32) = true := by rw [bne, hb32]; rfl
        have hm1i : ¬ (s.size : Int) ≤ (m1 : Int) := by omega
        have HN : Hid (rdM (d + 1) s.data.toList = none) := by
          unfold Hid
          rw [HL.out]
          refine rdM_app2 HO.out ?_
          rw [← HL.out, ← hm1, get_at hb1]
          intro e
          injection e with e
          apply h32
          rw [e]; rfl
        unfold lcC
        clear hm1
        go_wp2_with (refine store_3 rfl 70 _ _ rfl rfl zero_lcT.2 w.heap.size (lcC 0 0 (.slice none 0 0)) rfl (lcC_one _ _ _ rfl) rfl rfl _ rfl (RowAt.old HR1.out _) ?_; intro w9 hR9 hg9 hs9)
        rw [← hW2] at hg9
        exact bodyPost_ret (v := .tuple #[.agg (lcC 0 0 (.slice none 0 0)), .int .i64 0]) (res_lc_tmp Tryd.results43 _ _ w.heap.size 0 0 (.slice none 0 0) (.int .i64 0) rfl rfl hR9) rfl (NO.out _ HN HB2.out _ hR9 hg9)
    · have hm1i : (s.size : Int) ≤ (m1 : Int) := by omega
      have hm1n : s.size ≤ m1 := by omega
      have hm1b : decide ((s.size : Int) ≤ (m1 : Int)) = true := decide_eq_true hm1i
      have HN : Hid (rdM (d + 1) s.data.toList = none) := by
        unfold Hid
        rw [HL.out]
        refine rdM_app2 HO.out ?_
        rw [← HL.out, ← hm1, get_no (by omega)]
        simp
      unfold lcC
      clear hm1 hb1
      go_wp2_with (refine store_3 rfl 70 _ _ rfl rfl zero_lcT.2 w.heap.size (lcC 0 0 (.slice none 0 0)) rfl (lcC_one _ _ _ rfl) rfl rfl _ rfl (RowAt.old HR1.out _) ?_; intro w9 hR9 hg9 hs9)
      rw [← hW2] at hg9
      exact bodyPost_ret (v := .tuple #[.agg (lcC 0 0 (.slice none 0 0)), .int .i64 0]) (res_lc_tmp Tryd.results43 _ _ w.heap.size 0 0 (.slice none 0 0) (.int .i64 0) rfl rfl hR9) rfl (NO.out _ HN HB2.out _ hR9 hg9)
end Go.Proofs.YtgolfbjfopoeeaaDoor.CB

/-
  ldRead of the model: variables, and all together; ReadComb of both sides.
-/
namespace Go.Proofs.YtgolfbjfopoeeaaDoor.CB
open Go.RowKit BL
set_option linter.unusedVariables false

theorem lead3 (r : List UInt8) : xD r = r.take (xD r).length := by
  have h2 : xD r <+: r := (List.take_prefix 3 _).trans (List.takeWhile_prefix isDig)
  exact List.prefix_iff_eq_take.1 h2
theorem at_succ {s : ByteArray} {c : UInt8} {r : List UInt8} (hl : s.data.toList = c :: r) {n : Nat} (h1 : 1 ≤ n) (h : n < s.size) : r[n - 1]? = some s[n] := by
  have h2 := get_at h
  cases n with
  | zero => omega
  | succ m => rw [hl, List.getElem?_cons_succ] at h2; exact h2
set_option maxHeartbeats 8000000 in
set_option maxRecDepth 100000 in
theorem ldRead_var (d : Nat) (s : ByteArray) (D : Int) (w : World) (r : List UInt8) (hs : s.size ≤ 1048576) (hD : D = 61 - ((d + 1 : Nat) : Int)) (hl : s.data.toList = 120 :: r) :
    Calls Tryd.prog 43 #[.string s, .int .i64 D] w fun e w' => RdM w (rdM (d + 1) s.data.toList) e w' ∧ Below w.heap.size w w' := by
  have hz := zero_lcT.1
  have he' : (s.toList == []) = false := str_ne (by rw [hl]; simp)
  have e2 : s.data.toList.length = s.size := by simp
  have hp : 0 < s.size := by rw [← e2, hl]; simp
  have hc0 : s[0] = 120 := by have := get_at hp; rw [hl] at this; injection this with this; exact this.symm
  have hb83 : ((s[0].toNat : Int) == 83) = false := by rw [hc0]; rfl
  have hb75 : ((s[0].toNat : Int) == 75) = false := by rw [hc0]; rfl
  have hb73 : ((s[0].toNat : Int) == 73) = false := by rw [hc0]; rfl
  have hb120 : ((s[0].toNat : Int) == 120) = true := by rw [hc0]; rfl
  have hD40 : ¬ (60 : Int) < D := by omega
  obtain ⟨W, hW⟩ : ∃ W, W = w.alloc (.cells #[.int .i64 0, .int .i64 0, .slice none 0 0] 70) := ⟨_, rfl⟩
  have hBW : Below w.heap.size w W := by rw [hW]; exact (Below.refl _ _).alloc (Nat.le_refl _) _
  have hWs : W.heap.size = w.heap.size + 1 := by rw [hW]; simp
  have HRW : Hid (RowAt W w.heap.size 70 #[.int .i64 0, .int .i64 0, .slice none 0 0]) := by rw [hW]; exact RowAt.new _ _ _
  obtain ⟨N, hN⟩ : ∃ N, N = (xD r).length + 1 := ⟨_, rfl⟩
  have hKt : (xD r).length = min 3 (r.takeWhile isDig).length := by unfold xD; rw [List.length_take]
  have htl : (r.takeWhile isDig).length ≤ r.length := by
    conv => rhs; rw [← take_drop_dig r, List.length_append]
    omega
  have hrs : r.length + 1 = s.size := by rw [← e2, hl]; rfl
  have hNs : N ≤ s.size := by omega
  have hN4 : N ≤ 4 := by omega
  have hN1 : 1 ≤ N := by omega
  have HIN : Hid (∀ n (h : n < s.size), 1 ≤ n → n < N → isDig s[n] = true) := fun n h h1 hn => by
    obtain ⟨x, hx, hd⟩ := tw_get r (n - 1) (by omega)
    rw [at_succ hl h1 h] at hx
    injection hx with hx
    rw [hx]; exact hd
  have HOUT : Hid (∀ (h : N < s.size), N < 4 → isDig s[N] = false) := fun h hn => by
    refine tw_end r _ ?_
    rw [show (r.takeWhile isDig).length = N - 1 by omega]
    exact at_succ hl hN1 h
  have HDS : Hid ((s.extract 1 N).data.toList = xD r) := by
    unfold Hid
    rw [ByteArray.data_extract, Array.toList_extract, List.extract_eq_take_drop, hl, List.drop_succ_cons, List.drop_zero, lead3 r]
    congr 1
    first | omega | (rw [← lead3 r]; omega)
  have HDA : Hid ((xD r).all isDig = true) := by
    unfold Hid
    rw [List.all_eq_true]
    intro z hz
    have h2 := take_all_dig r
    rw [List.all_eq_true] at h2
    exact h2 z (List.mem_of_mem_take hz)
  have HR : Hid (rdM (d + 1) s.data.toList = if xD r = [] then none else some (.var (.v (dval (xD r) : Int)), N)) := by
    unfold Hid
    rw [hl, rdM, if_neg (by decide), if_neg (by decide), if_neg (by decide), if_pos rfl, ← hN]
  have HK := hideT' hN
  have HB := hideT' hBW
  clear hD hl e2 hc0 hBW hKt htl hN hrs
  go_enter Tryd.func43, Tryd.ntmps43
  go_wp2_with fail
  rw [← hW]
  clear hW
  go_loopg [6] N (fun g i wr => ∃ (n : Nat), g = N + 1 - n ∧ 1 ≤ n ∧ n ≤ N ∧ i = .int .i64 (n : Int) ∧ W = wr)
  case atStart => exact ⟨1, by omega, by omega, by omega, by go_num, rfl⟩
  case round =>
    obtain ⟨n, hg, h1n, hn, rfl, rfl⟩ := hrel
    by_cases hlt : n < N
    · have hks : n < s.size := by omega
      have hki : (n : Int) < (s.size : Int) := by omega
      have hk2 : (n : Int) < 4 := by omega
      have hr := dig_range.1 (HIN.out n hks h1n hlt)
      obtain ⟨hr1, hr2⟩ := hr
      go_wp2
      go_roundg (N - n)
      case measure => omega
      case rel => exact ⟨n + 1, by omega, by omega, by omega, by go_num, rfl⟩
    · have hkK : n = N := by omega
      subst hkK
      by_cases hK0 : n = 1
      · have HN : Hid (rdM (d + 1) s.data.toList = none) := by
          unfold Hid
          have h0 : xD r = [] := List.length_eq_zero_iff.1 (by have := HK.out; omega)
          rw [HR.out, if_pos h0]
        have ZE : Hid (∀ w9, RowAt w9 w.heap.size 70 (lcC 0 0 (.slice none 0 0)) → W.grownBy w9 (some w.heap.size) → RdM w (rdM (d + 1) s.data.toList) (.returned (.tuple #[.agg (lcC 0 0 (.slice none 0 0)), .int .i64 0])) w9 ∧ Below w.heap.size w w9) := fun w9 hR9 hg9 => ⟨.inl ⟨HN.out, _, _, _, _, _, rfl⟩, HB.out.grown hg9 HB.out.size (fun k e => by cases e; omega)⟩
        subst hK0
        by_cases h1 : (1 : Int) < (s.size : Int)
        · have h1s : 1 < s.size := by omega
          have hdg := HOUT.out h1s (by omega)
          have hn2 : ¬ ((48 : Int) ≤ (s[1].toNat : Int) ∧ (s[1].toNat : Int) ≤ 57) := fun h => by rw [dig_range.2 h] at hdg; cases hdg
          have h14 : (1 : Int) < 4 := by omega
          clear hdg
          by_cases h48 : (48 : Int) ≤ (s[1].toNat : Int)
          · have h57 : ¬ (s[1].toNat : Int) ≤ 57 := fun h => hn2 ⟨h48, h⟩
            clear hn2
            go_wp2_with (refine store_3 rfl 70 _ _ rfl rfl zero_lcT.2 w.heap.size (lcC 0 0 (.slice none 0 0)) rfl (lcC_one _ _ _ rfl) rfl rfl _ rfl HRW.out ?_; intro w9 hR9 hg9 hs9)
            exact bodyPost_ret (v := .tuple #[.agg (lcC 0 0 (.slice none 0 0)), .int .i64 0]) (res_lc_tmp Tryd.results43 _ _ w.heap.size 0 0 (.slice none 0 0) (.int .i64 0) rfl rfl hR9) rfl (ZE.out _ hR9 hg9)
          · clear hn2
            go_wp2_with (refine store_3 rfl 70 _ _ rfl rfl zero_lcT.2 w.heap.size (lcC 0 0 (.slice none 0 0)) rfl (lcC_one _ _ _ rfl) rfl rfl _ rfl HRW.out ?_; intro w9 hR9 hg9 hs9)
            exact bodyPost_ret (v := .tuple #[.agg (lcC 0 0 (.slice none 0 0)), .int .i64 0]) (res_lc_tmp Tryd.results43 _ _ w.heap.size 0 0 (.slice none 0 0) (.int .i64 0) rfl rfl hR9) rfl (ZE.out _ hR9 hg9)
        · go_wp2_with (refine store_3 rfl 70 _ _ rfl rfl zero_lcT.2 w.heap.size (lcC 0 0 (.slice none 0 0)) rfl (lcC_one _ _ _ rfl) rfl rfl _ rfl HRW.out ?_; intro w9 hR9 hg9 hs9)
          exact bodyPost_ret (v := .tuple #[.agg (lcC 0 0 (.slice none 0 0)), .int .i64 0]) (res_lc_tmp Tryd.results43 _ _ w.heap.size 0 0 (.slice none 0 0) (.int .i64 0) rfl rfl hR9) rfl (ZE.out _ hR9 hg9)
      · have hne : xD r ≠ [] := fun e => hK0 (by have := HK.out; rw [e] at this; simpa using this)
        have hxs : (s.extract 1 n).size ≤ 9 := by
          have h1 := (fun (y : ByteArray) => show y.data.toList.length = y.size by simp) (s.extract 1 n)
          rw [HDS.out] at h1
          have := HK.out
          omega
        have HC1 := hideT' (laSmallT_any (s.extract 1 n) W hxs (by rw [HDS.out]; exact HDA.out))
        rw [HDS.out] at HC1
        obtain ⟨v, hv⟩ : ∃ v : Int, v = (dval (xD r) : Int) := ⟨_, rfl⟩
        rw [← hv] at HC1
        have HRES : Hid (rdM (d + 1) s.data.toList = some (.var (.v v), n)) := by unfold Hid; rw [HR.out, if_neg hne, hv]
        have hk0i : ¬ (n : Int) = 1 := by omega
        have hk0b : ((n : Int) == 1) = false := by rw [beq_eq_false_iff_ne]; exact hk0i
        have hksi : (n : Int) ≤ (s.size : Int) := by omega
        have h1ni : (1 : Int) ≤ (n : Int) := by omega
        have YE : Hid (∀ w9, RowAt w9 w.heap.size 70 (lcC 1 v (.slice none 0 0)) → W.grownBy w9 (some w.heap.size) → RdM w (rdM (d + 1) s.data.toList) (.returned (.tuple #[.agg (lcC 1 v (.slice none 0 0)), .int .i64 (n : Int)])) w9 ∧ Below w.heap.size w w9) := fun w9 hR9 hg9 =>
          ⟨.inr ⟨.var (.v v), n, .slice none 0 0, HRES.out, rfl, none, 0, rfl⟩, HB.out.grown hg9 HB.out.size (fun k e => by cases e; omega)⟩
        clear hne hv hxs hlt hK0
        by_cases h1 : (n : Int) < (s.size : Int)
        · by_cases h2 : (n : Int) < 4
          · have hks : n < s.size := by omega
            have hdg := HOUT.out hks (by omega)
            have hn2 : ¬ ((48 : Int) ≤ (s[n].toNat : Int) ∧ (s[n].toNat : Int) ≤ 57) := fun h => by rw [dig_range.2 h] at hdg; cases hdg
            clear hdg
            by_cases h48 : (48 : Int) ≤ (s[n].toNat : Int)
            · have h57 : ¬ (s[n].toNat : Int) ≤ 57 := fun h => hn2 ⟨h48, h⟩
              clear hn2
              go_wp2_with fail
              refine HC1.out.mono ?_
              rintro e w2 ⟨rfl, hw2⟩
              obtain rfl := hw2.symm
              go_wp2_with (refine store_3 rfl 70 _ _ rfl rfl zero_lcT.2 w.heap.size (lcC 1 v (.slice none 0 0)) rfl (lcC_one _ _ _ rfl) rfl rfl _ rfl HRW.out ?_; intro w9 hR9 hg9 hs9)
              exact bodyPost_ret (v := .tuple #[.agg (lcC 1 v (.slice none 0 0)), .int .i64 (n : Int)]) (res_lc_tmp Tryd.results43 _ _ w.heap.size 1 v (.slice none 0 0) (.int .i64 (n : Int)) rfl rfl hR9) rfl (YE.out _ hR9 hg9)
            · clear hn2
              go_wp2_with fail
              refine HC1.out.mono ?_
              rintro e w2 ⟨rfl, hw2⟩
              obtain rfl := hw2.symm
              go_wp2_with (refine store_3 rfl 70 _ _ rfl rfl zero_lcT.2 w.heap.size (lcC 1 v (.slice none 0 0)) rfl (lcC_one _ _ _ rfl) rfl rfl _ rfl HRW.out ?_; intro w9 hR9 hg9 hs9)
              exact bodyPost_ret (v := .tuple #[.agg (lcC 1 v (.slice none 0 0)), .int .i64 (n : Int)]) (res_lc_tmp Tryd.results43 _ _ w.heap.size 1 v (.slice none 0 0) (.int .i64 (n : Int)) rfl rfl hR9) rfl (YE.out _ hR9 hg9)
          · go_wp2_with fail
            refine HC1.out.mono ?_
            rintro e w2 ⟨rfl, hw2⟩
            obtain rfl := hw2.symm
            go_wp2_with (refine store_3 rfl 70 _ _ rfl rfl zero_lcT.2 w.heap.size (lcC 1 v (.slice none 0 0)) rfl (lcC_one _ _ _ rfl) rfl rfl _ rfl HRW.out ?_; intro w9 hR9 hg9 hs9)
            exact bodyPost_ret (v := .tuple #[.agg (lcC 1 v (.slice none 0 0)), .int .i64 (n : Int)]) (res_lc_tmp Tryd.results43 _ _ w.heap.size 1 v (.slice none 0 0) (.int .i64 (n : Int)) rfl rfl hR9) rfl (YE.out _ hR9 hg9)
        · go_wp2_with fail
          refine HC1.out.mono ?_
          rintro e w2 ⟨rfl, hw2⟩
          obtain rfl := hw2.symm
          go_wp2_with (refine store_3 rfl 70 _ _ rfl rfl zero_lcT.2 w.heap.size (lcC 1 v (.slice none 0 0)) rfl (lcC_one _ _ _ rfl) rfl rfl _ rfl HRW.out ?_; intro w9 hR9 hg9 hs9)
          exact bodyPost_ret (v := .tuple #[.agg (lcC 1 v (.slice none 0 0)), .int .i64 (n : Int)]) (res_lc_tmp Tryd.results43 _ _ w.heap.size 1 v (.slice none 0 0) (.int .i64 (n : Int)) rfl rfl hR9) rfl (YE.out _ hR9 hg9)
theorem ldRead_all : ∀ d, LcRd d := by
  intro d
  induction d with
  | zero => intro s D w _ _ hD; exact ldRead_none 0 s D w hD (.inl rfl)
  | succ d ih =>
    intro s D w hd hs hD
    cases hl : s.data.toList with
    | nil => have := ldRead_none (d + 1) s D w hD (.inr hl); rw [hl] at this; exact this
    | cons c r =>
      rw [← hl]
      by_cases h83 : c = 83
      · exact ldRead_leaf .s rfl d s D w c r hD hl (.inl ⟨rfl, h83⟩)
      · by_cases h75 : c = 75
        · exact ldRead_leaf .k rfl d s D w c r hD hl (.inr (.inl ⟨rfl, h75⟩))
        · by_cases h73 : c = 73
          · exact ldRead_leaf .i rfl d s D w c r hD hl (.inr (.inr ⟨rfl, h73⟩))
          · by_cases h120 : c = 120
            · subst h120; exact ldRead_var d s D w r hs hD hl
            · by_cases h40 : c = 40
              · subst h40; exact ldRead_app d (by omega) ih s D w r hs hD hl
              · exact ldRead_else d s D w c r hD hl h83 h75 h73 h120 h40
end Go.Proofs.YtgolfbjfopoeeaaDoor.CB

/-
  The contracts of strconv's functions that this program calls, laid at this translation: each is the library's own, at the numbers of this translation.
-/
namespace Go.Proofs
open Go.Shelf
def Tryd.lays161_ren : Go.Shelf.Ren := ⟨fun | 161 => 76 | 231 => 86 | 227 => 87 | 233 => 88 | 235 => 89 | 228 => 99 | 197 => 100 | 151 => 101 | 260 => 113 | 152 => 114 | 137 => 120 | 119 => 121 | 224 => 122 | 225 => 123 | 217 => 126 | 266 => 127 | n => n, fun | 9 => 9 | 4 => 4 | 3 => 3 | 5 => 5 | 117 => 147 | 116 => 146 | 0 => 0 | 124 => 150 | 105 => 160 | 21 => 21 | 119 => 186 | 46 => 176 | 139 => 189 | 138 => 188 | n => n, fun | 3 => 3 | 4 => 4 | n => n⟩
theorem Tryd.lays161 : Go.Proofs.Lays.n161 Tryd.prog Tryd.lays161_ren := {
  mixed := by kernel_rfl
  f119 := Tryd.func121.trans (congrArg some (by kernel_rfl))
  f137 := Tryd.func120.trans (congrArg some (by kernel_rfl))
  f151 := Tryd.func101.trans (congrArg some (by kernel_rfl))
  f152 := Tryd.func114.trans (congrArg some (by kernel_rfl))
  f161 := Tryd.func76.trans (congrArg some (by kernel_rfl))
  f197 := Tryd.func100.trans (congrArg some (by kernel_rfl))
  f217 := Tryd.func126.trans (congrArg some (by kernel_rfl))
  f224 := Tryd.func122.trans (congrArg some (by kernel_rfl))
  f225 := Tryd.func123.trans (congrArg some (by kernel_rfl))
  f227 := Tryd.func87.trans (congrArg some (by kernel_rfl))
  f228 := Tryd.func99.trans (congrArg some (by kernel_rfl))
  f231 := Tryd.func86.trans (congrArg some (by kernel_rfl))
  f233 := Tryd.func88.trans (congrArg some (by kernel_rfl))
  f235 := Tryd.func89.trans (congrArg some (by kernel_rfl))
  f260 := Tryd.func113.trans (congrArg some (by kernel_rfl))
  f266 := Tryd.func127.trans (congrArg some (by kernel_rfl))
  t0 := Tryd.underlying0
  a0 := Tryd.isAgg0
  z0 := Tryd.sizeOf0
  v0 := Tryd.zeroValue0
  t3 := Tryd.underlying3
  a3 := Tryd.isAgg3
  z3 := Tryd.sizeOf3
  v3 := Tryd.zeroValue3
  t4 := Tryd.underlying4
  a4 := Tryd.isAgg4
  z4 := Tryd.sizeOf4
  v4 := Tryd.zeroValue4
  t5 := Tryd.underlying5
  a5 := Tryd.isAgg5
  z5 := Tryd.sizeOf5
  v5 := Tryd.zeroValue5
  t9 := Tryd.underlying9
  a9 := Tryd.isAgg9
  z9 := Tryd.sizeOf9
  v9 := Tryd.zeroValue9
  t21 := Tryd.underlying21
  a21 := Tryd.isAgg21
  z21 := Tryd.sizeOf21
  v21 := Tryd.zeroValue21
  t46 := Tryd.underlying176
  a46 := Tryd.isAgg176
  z46 := Tryd.sizeOf176
  v46 := Tryd.zeroValue176
  t105 := Tryd.underlying160
  a105 := Tryd.isAgg160
  z105 := Tryd.sizeOf160
  v105 := Tryd.zeroValue160
  t116 := Tryd.underlying146
  a116 := Tryd.isAgg146
  z116 := Tryd.sizeOf146
  t117 := Tryd.underlying147
  a117 := Tryd.isAgg147
  z117 := Tryd.sizeOf147
  v117 := Tryd.zeroValue147
  t119 := Tryd.underlying186
  a119 := Tryd.isAgg186
  z119 := Tryd.sizeOf186
  t124 := Tryd.underlying150
  a124 := Tryd.isAgg150
  z124 := Tryd.sizeOf150
  v124 := Tryd.zeroValue150
  t138 := Tryd.underlying188
  a138 := Tryd.isAgg188
  z138 := Tryd.sizeOf188
  v138 := Tryd.zeroValue188
  t139 := Tryd.underlying189
  a139 := Tryd.isAgg189
  z139 := Tryd.sizeOf189
  v139 := Tryd.zeroValue189
  g3 := by kernel_rfl
  g4 := by kernel_rfl }
open Go.RowKit in
/-- strings.TrimLeft: "TrimLeft returns a slice of the string s with all leading Unicode code points contained in cutset removed.": AT A cutset OF ONE ASCII BYTE. The world is as it was. (LAID: no walk: one application.) -/
theorem Tryd.strings_TrimLeft_one (s : ByteArray) (c : UInt8) (hc : c.toNat < 128) (w : World) :
    Calls Tryd.prog 76 #[.string s, .string ⟨#[c]⟩] w fun e w' => e = .returned (.string ⟨(Lib.trimLeftB s.data.toList c).toArray⟩) ∧ w' = w := Any.strings_TrimLeft_one Tryd.lays161 s c hc w
def Tryd.lays99_ren : Go.Shelf.Ren := ⟨fun | 99 => 75 | 206 => 85 | n => n, fun | 9 => 9 | 4 => 4 | 3 => 3 | n => n, fun | n => n⟩
theorem Tryd.lays99 : Go.Proofs.Lays.n99 Tryd.prog Tryd.lays99_ren := {
  mixed := by kernel_rfl
  f99 := Tryd.func75.trans (congrArg some (by kernel_rfl))
  f206 := Tryd.func85.trans (congrArg some (by kernel_rfl))
  t3 := Tryd.underlying3
  a3 := Tryd.isAgg3
  z3 := Tryd.sizeOf3
  v3 := Tryd.zeroValue3
  t4 := Tryd.underlying4
  a4 := Tryd.isAgg4
  z4 := Tryd.sizeOf4
  v4 := Tryd.zeroValue4
  t9 := Tryd.underlying9
  a9 := Tryd.isAgg9
  z9 := Tryd.sizeOf9
  v9 := Tryd.zeroValue9 }
open Go.RowKit Go.Lib in
/-- strings.HasPrefix: "HasPrefix reports whether the string s begins with prefix.": IT RETURNS 'Lib.hasPrefix s prefix'; the world is as it was. (LAID: no walk: one application.) -/
theorem Tryd.strings_HasPrefix (s p : ByteArray) (w : World) :
    Calls Tryd.prog 75 #[.string s, .string p] w fun e w' => e = .returned (.bool (Lib.hasPrefix s.data.toList p.data.toList)) ∧ w' = w := Any.strings_HasPrefix Tryd.lays99 s p w
end Go.Proofs

/-
  What readIndex of the program answers: a number off the front of a text.
-/
namespace Go.Proofs.YtgolfbjfopoeeaaDoor
open Go.RowKit
set_option linter.unusedVariables false

/-- What readIndex answers. -/
def IdxAns (s : List UInt8) (e : Ending) : Prop :=
  (idxP s = none ∧ e = .returned (.tuple #[.int .i64 0, .string ⟨#[]⟩, .bool false])) ∨ ∃ n q, idxP s = some (n, q) ∧ e = .returned (.tuple #[.int .i64 n, .string ⟨q.toArray⟩, .bool true])
theorem trim_dig : ∀ (l : List UInt8), Lib.trimLeftS l [48, 49, 50, 51, 52, 53, 54, 55, 56, 57] = l.dropWhile isDig := by
  have hf : ∀ n : Fin 256, ([48, 49, 50, 51, 52, 53, 54, 55, 56, 57] : List UInt8).contains (UInt8.ofFin n) = isDig (UInt8.ofFin n) := by decide +kernel
  have hc : ∀ c : UInt8, ([48, 49, 50, 51, 52, 53, 54, 55, 56, 57] : List UInt8).contains c = isDig c := fun c => hf c.toFin
  intro l
  unfold Lib.trimLeftS
  have : (fun c => ([48, 49, 50, 51, 52, 53, 54, 55, 56, 57] : List UInt8).contains c) = isDig := funext hc
  first | rw [this] | simp only [this] | (simp only [hc])
theorem atoi_rng {l : List UInt8} {v : Int} (h : Lib.atoiAll l = .ok v) : -9223372036854775808 ≤ v ∧ v ≤ 9223372036854775807 := by
  unfold Lib.atoiAll at h
  split at h
  · cases h
  · simp only at h
    repeat' split at h
    all_goals first | (cases h; done) | (injection h with h; omega)
theorem grown_growU (w : World) (k : Nat) (os : Array Obj) : w.grownBy (Sort.grow (w.drewN k) os) none :=
  ⟨rfl, rfl, rfl, by simp [Sort.grow], fun i hi _ => by
    show (w.heap ++ os)[i]? = _
    rw [Array.getElem?_append_left hi]⟩
theorem itoaU (x : Int) (w : World) (h0 : -9223372036854775808 ≤ x) (h1 : x ≤ 9223372036854775807) (hT : TabH w.heap.size w) :
    Calls Tryd.prog 78 #[.int .i64 x] w fun e w' => (∃ t : ByteArray, e = .returned (.string t) ∧ t.data.toList = Lib.itoa x) ∧ Below w.heap.size w w' := by
  refine (Tryd.strconv_Itoa x h0 h1 w (show Lib.TabIs _ _ _ _ _ from Lib.TabBelow.here hT)).mono ?_
  rintro e w2 ⟨rfl, kk, os, hw2⟩
  have hgr : w.grownBy w2 none := by rw [hw2]; exact grown_growU _ _ _
  exact ⟨⟨_, rfl, by simp⟩, (Below.refl _ _).grown hgr (Nat.le_refl _) (by intro k hk; cases hk)⟩

set_option maxHeartbeats 4000000 in
set_option maxRecDepth 100000 in
theorem readIndex_any (s : ByteArray) (w : World) (hs : s.size ≤ 1000) (hT : TabH w.heap.size w) (hE : EV w) :
    Calls Tryd.prog 59 #[.string s] w fun e w' => IdxAns s.data.toList e ∧ Below w.heap.size w w' := by
  have HTE := hideT' (And.intro hT hE)
  have HC : Hid (Calls Tryd.prog 76 #[.string s, .string ⟨#[48, 49, 50, 51, 52, 53, 54, 55, 56, 57]⟩] w fun e w' => e = .returned (.string ⟨(Lib.trimLeftS s.data.toList (⟨#[48, 49, 50, 51, 52, 53, 54, 55, 56, 57]⟩ : ByteArray).data.toList).toArray⟩) ∧ Below w.heap.size w w') :=
    Any.strings_TrimLeft_laid Tryd.lays161 (by kernel_rfl) s ⟨#[48, 49, 50, 51, 52, 53, 54, 55, 56, 57]⟩ w (by decide) (ascii_of_all (by decide))
  obtain ⟨t, ht⟩ : ∃ t : ByteArray, t = ⟨(s.data.toList.dropWhile isDig).toArray⟩ := ⟨_, rfl⟩
  have htl : t.data.toList = s.data.toList.dropWhile isDig := by rw [ht]
  have e1 : s.data.toList.length = s.size := by simp
  have e2 : t.data.toList.length = t.size := by simp
  have hlen : (s.data.toList.takeWhile isDig).length + (s.data.toList.dropWhile isDig).length = s.size := by rw [← List.length_append, take_drop_dig, e1]
  obtain ⟨d, hd⟩ : ∃ d, d = (s.data.toList.takeWhile isDig).length := ⟨_, rfl⟩
  have hts : t.size = s.size - d := by rw [← e2, htl]; omega
  have hds : d ≤ s.size := by omega
  obtain ⟨x, hx⟩ : ∃ x : ByteArray, x = s.extract 0 d := ⟨_, rfl⟩
  have hxl : x.data.toList = s.data.toList.takeWhile isDig := by
    rw [hx, hd]
    have := List.prefix_iff_eq_take.1 (List.takeWhile_prefix isDig (l := s.data.toList))
    rw [ByteArray.data_extract, Array.toList_extract, List.extract_eq_take_drop]
    simpa using this.symm
  have hxs : x.size ≤ 1000 := by
    have : x.data.toList.length = x.size := by simp
    rw [hxl, ← hd] at this
    omega
  have hwr : IntKind.i64.wrap ((s.size : Int) - (t.size : Int)) = (d : Int) := by rw [IntKind.wrap_i64]; omega
  have htr : Lib.trimLeftS s.data.toList (⟨#[48, 49, 50, 51, 52, 53, 54, 55, 56, 57]⟩ : ByteArray).data.toList = s.data.toList.dropWhile isDig := trim_dig _
  rw [htr, ← ht] at HC
  have HX := hideT' hxl
  have HTL := hideT' htl
  clear hT hE htl e1 e2 hlen hd hxl htr ht
  have htsz : t.size ≤ s.size := by omega
  have hdz : (d : Int) ≤ (s.size : Int) := by omega
  clear hts
  go_enter Tryd.func59, Tryd.ntmps59
  go_wp2_with fail
  refine HC.out.mono ?_
  rintro e w1 ⟨rfl, hB1⟩
  have hT1 : TabH w1.heap.size w1 := TabH.up (TabH.on HTE.out.1 hB1) hB1.size
  have hE1 := HTE.out.2.below hB1
  have HC2 := hideT' (atoiX_any x w1 (by omega) hE1)
  have HT1 := hideT' hT1
  have HB1 := hideT' hB1
  clear hT1 hE1 hB1
  go_wp2_with fail
  rw [← hx]
  clear hx
  refine HC2.out.mono ?_
  rintro e w2 ⟨⟨v, E, q, rfl, hq⟩, hB2⟩
  have HB2 : Hid (Below w.heap.size w w2) := HB1.out.trans (hB2.mono HB1.out.size)
  have HT2 : Hid (TabH w2.heap.size w2) := TabH.up (TabH.on HT1.out hB2) hB2.size
  clear hB2
  rcases hq with ⟨rfl, rfl, hat⟩ | ⟨rfl, ⟨tp, p, rfl⟩, hat⟩
  · have hr := atoi_rng hat
    have HAT := hideT' hat
    have HC3 := hideT' (itoaU v _ hr.1 hr.2 HT2.out)
    clear hat hr
    go_wp2_with fail
    refine HC3.out.mono ?_
    rintro e w3 ⟨⟨u, rfl, hu⟩, hB3⟩
    have HB3 : Hid (Below w.heap.size w w3) := HB2.out.trans (hB3.mono HB2.out.size)
    clear hB3
    by_cases hut : u = x
    · have hut' : (u.toList == x.toList) = true := by rw [hut]; simp
      have HA : Hid (IdxAns s.data.toList (.returned (.tuple #[.int .i64 v, .string t, .bool true]))) := by
        refine .inr ⟨v, s.data.toList.dropWhile isDig, ?_, ?_⟩
        · unfold idxP; rw [← HX.out, HAT.out]; simp only; rw [if_pos (by rw [← hu, hut])]
        · rw [← HTL.out]
      clear hu hut
      go_wp2
      go_ret3
      exact ⟨HA.out, HB3.out⟩
    · have hne : u.data.toList ≠ x.data.toList := fun e => hut (WideShapes.bytes_inj e)
      have hut' : (u.toList == x.toList) = false := by
        rw [ByteArray.toList_eq, ByteArray.toList_eq]
        simpa using hne
      have HA : Hid (IdxAns s.data.toList (.returned (.tuple #[.int .i64 0, .string ⟨#[]⟩, .bool false]))) := by
        refine .inl ⟨?_, rfl⟩
        unfold idxP; rw [← HX.out, HAT.out]; simp only; rw [if_neg (by rw [← hu]; exact hne)]
      clear hu hut hne
      go_wp2
      go_ret3
      exact ⟨HA.out, HB3.out⟩
  · have HA : Hid (IdxAns s.data.toList (.returned (.tuple #[.int .i64 0, .string ⟨#[]⟩, .bool false]))) := by
      refine .inl ⟨?_, rfl⟩
      unfold idxP
      rw [← HX.out]
      split
      · next v hv => exact absurd hv (hat v)
      · rfl
    clear hat
    go_wp2
    go_ret3
    exact ⟨HA.out, HB2.out⟩
end Go.Proofs.YtgolfbjfopoeeaaDoor

/-
  New trees of the program: a variable, a lambda.
-/
namespace Go.Proofs.YtgolfbjfopoeeaaDoor
open Go.RowKit
set_option linter.unusedVariables false

set_option maxHeartbeats 1000000 in
theorem variableT_any (n : Int) (w : World) :
    Calls Tryd.prog 60 #[.int .i64 n] w fun e w' => (∃ b, e = .returned (.pointer (some ⟨b, 0, none⟩)) ∧ TrIn w' (fun x => w.heap.size ≤ x) (.var n) b) ∧ Below w.heap.size w w' := by
  have hz := zero_term.1
  have hK : KidsAt w (fun _ => False) (.slice none 0 0) [] := ⟨none, 0, rfl, fun h => absurd rfl h, fun p hp => by simp at hp⟩
  have HK := hideT' hK
  clear hK
  go_enter Tryd.func60, Tryd.ntmps60
  go_wp2_with fail
  refine (treeOf_any 1 n 0 _ [] w HK.out.pts (by simp) (by simp)).mono ?_
  intro e w2 hN
  obtain ⟨b', rfl, hbb, hTr, hB2⟩ := treeNew_at (t := .var n) HK.out (by simp [nodeOf]) hN
  have HF : Hid (TrIn w2 (fun x => w.heap.size ≤ x) (.var n) b' ∧ Below w.heap.size w w2) := ⟨TrIn.mono (fun x hx _ => by rcases hx with hx | hx; exact hx.elim; exact hx) hTr, hB2⟩
  clear hN hTr hB2
  go_wp2
  go_ret
  exact ⟨⟨b', rfl, HF.out.1⟩, HF.out.2⟩
set_option maxHeartbeats 1000000 in
theorem lambdaT_any (s : Lm) (b1 : Nat) (P : Nat → Prop) (w : World) (h1 : TrIn w P s b1) (hs : s.sz ≤ 1000000) :
    Calls Tryd.prog 57 #[.pointer (some ⟨b1, 0, none⟩)] w fun e w' => (∃ b, e = .returned (.pointer (some ⟨b, 0, none⟩)) ∧ TrIn w' (fun x => P x ∨ w.heap.size ≤ x) (.lam s) b) ∧ Below w.heap.size w w' := by
  have hz := zero_term.1
  obtain ⟨W, hWd⟩ : ∃ W, W = w.alloc (.cells #[.pointer (some ⟨b1, 0, none⟩)] 54) := ⟨_, rfl⟩
  have hB : Below w.heap.size w W := by rw [hWd]; exact (Below.refl _ _).alloc (Nat.le_refl _) _
  have hR : RowAt W w.heap.size 54 #[.pointer (some ⟨b1, 0, none⟩)] := by rw [hWd]; exact RowAt.new _ _ _
  have hK : KidsAt W (fun x => P x ∨ w.heap.size ≤ x) (.slice (some ⟨w.heap.size, 0, none⟩) 1 1) [(b1, s)] := by
    refine ⟨_, 1, rfl, fun _ => ⟨w.heap.size, rfl, ⟨hR.lt, .inr (Nat.le_refl _)⟩, fun i p hi => ?_⟩, fun p hp => ?_⟩
    · match i, hi with
      | 0, hi => cases hi; rw [cell_of_row _ _ _ _ _ _ hR]; rfl
      | i + 1, hi => simp at hi
    · simp only [List.mem_cons, List.not_mem_nil, or_false] at hp
      subst hp
      exact TrIn.keep (w := w) hB.size (fun x _ hx => hB.block x hx) (fun x h _ => .inl h) h1
  have HK := hideT' hK
  have HB := hideT' hB
  have HPS : Hid (∀ p ∈ ptsOf [(b1, s)], p.2.1 ≤ 1000000 ∧ p.2.2 ≤ 1000000) := by
    intro p hp
    have := s.dp_sz
    simp only [ptsOf, List.map_cons, List.map_nil, List.mem_cons, List.not_mem_nil, or_false] at hp
    subst hp
    simp only
    omega
  clear hK hB hR h1
  go_enter Tryd.func57, Tryd.ntmps57
  go_wp2_with fail
  rw [← hWd]
  refine (treeOf_any 2 0 0 _ (ptsOf [(b1, s)]) W HK.out.pts (by simp [ptsOf]) HPS.out).mono ?_
  intro e w2 hN
  obtain ⟨b', rfl, hbb, hTr, hB2⟩ := treeNew_at (t := .lam s) HK.out (by simp [nodeOf]) hN
  have HF : Hid (TrIn w2 (fun x => P x ∨ w.heap.size ≤ x) (.lam s) b' ∧ Below w.heap.size w w2) := ⟨TrIn.mono (fun x hx _ => by rcases hx with hx | hx; exact hx; exact .inr (by have := HB.out.size; omega)) hTr, HB.out.trans (hB2.mono HB.out.size)⟩
  clear hN hTr hB2 hWd
  go_wp2
  go_ret
  exact ⟨⟨b', rfl, HF.out.1⟩, HF.out.2⟩
end Go.Proofs.YtgolfbjfopoeeaaDoor

/-
  Held regions that append a byte: helpers.
-/
namespace Go.Proofs.YtgolfbjfopoeeaaDoor
open Go.RowKit BL
set_option linter.unusedVariables false

theorem own_formU {w : World} {B n s : Nat} {T : TypeId} {v : Value} {xs : List Value} (h : w.ownsRow B T s v n xs) : ∃ o cap, v = .slice o n cap := by
  rcases h.2 with ⟨rfl, h0⟩ | ⟨g, cap, cur, rfl, _⟩
  · exact ⟨none, 0, by rw [h0]⟩
  · exact ⟨_, cap, rfl⟩
theorem bytes_snocU (t : List UInt8) (c : UInt8) : Lib.byteCells t ++ [.int .u8 c.toNat] = Lib.byteCells (t ++ [c]) := by
  rw [Lib.byteCells_append]; rfl
/-- The one operation that may come up. -/
theorem held_stepT {ops : Array Oper} {Q : Exit → Act → World → Prop} {md : Region.Mode} {S : World → Prop} {o : Oper} {fuel : Nat} {listed : Array Bool} {a : Act} {w : World} (i : Nat) (hr : Region.ready md ops listed = [i]) (hi : ops[i]? = some o) (hw : Region.wanted o (yielded ops a.tmps) = true)
    (h : ∀ K : Act → World → Prop, Hid (∀ a w', S w' → wpAnyH Tryd.prog md ops Q S fuel (listed.setIfInBounds i true) a w' → K a w') → o.wp Tryd.prog a w K Q) : wpAnyH Tryd.prog md ops Q S (fuel + 1) listed a w := by
  refine wpAnyH_ready hr (by simp) (AllReadyH.cons hi (fun K hK => ?_) AllReadyH.nil)
  rw [if_pos hw]
  exact h K (fun a w' hS h => hK.out _ _ hS (fun _ => h))
end Go.Proofs.YtgolfbjfopoeeaaDoor

/-
  What readBoth and readTerm of the program answer.
-/
namespace Go.Proofs.YtgolfbjfopoeeaaDoor
open Go.RowKit BL
set_option linter.unusedVariables false

/-- What a reader of a tree answers. -/
def RdAns (w : World) (o : Option (Lm × List UInt8)) (e : Ending) (w' : World) : Prop :=
  (o = none ∧ ∃ p s, e = .returned (.tuple #[.pointer p, .string s, .bool false])) ∨ ∃ (t : Lm) (y : ByteArray) (b : Nat), o = some (t, y.data.toList) ∧ e = .returned (.tuple #[.pointer (some ⟨b, 0, none⟩), .string y, .bool true]) ∧ TrIn w' (fun x => w.heap.size ≤ x) t b
/-- Two parts, what is between them and the last bracket. -/
def bothP (f : Nat) (r : List UInt8) : Option (Lm × List UInt8) :=
  match rdP f r with
  | none => none
  | some (a, q) =>
    if q.head? = some 32 then
      match rdP f q.tail with
      | none => none
      | some (b, q2) => if q2.head? = some 41 then some (.app a b, q2.tail) else none
    else none
theorem rdP_both {f : Nat} {r : List UInt8} : rdP (f + 1) (40 :: r) = bothP f r := by
  rw [rdP, if_neg (by decide), if_pos rfl]; rfl
theorem both_no1 {f : Nat} {r : List UInt8} (h : rdP f r = none) : bothP f r = none := by unfold bothP; rw [h]
theorem both_no2 {f : Nat} {r q : List UInt8} {a : Lm} (h : rdP f r = some (a, q)) (hq : ¬ q.head? = some 32) : bothP f r = none := by unfold bothP; rw [h]; simp only; rw [if_neg hq]
theorem both_no3 {f : Nat} {r q : List UInt8} {a : Lm} (h : rdP f r = some (a, q)) (h2 : rdP f q.tail = none) : bothP f r = none := by unfold bothP; rw [h]; simp only; rw [h2]; split <;> rfl
theorem both_no4 {f : Nat} {r q q2 : List UInt8} {a b : Lm} (h : rdP f r = some (a, q)) (h2 : rdP f q.tail = some (b, q2)) (hq : ¬ q2.head? = some 41) : bothP f r = none := by unfold bothP; rw [h]; simp only; rw [h2]; simp only; rw [if_neg hq]; split <;> rfl
theorem both_yes {f : Nat} {r q q2 : List UInt8} {a b : Lm} (h : rdP f r = some (a, q)) (hq : q.head? = some 32) (h2 : rdP f q.tail = some (b, q2)) (hq2 : q2.head? = some 41) : bothP f r = some (.app a b, q2.tail) := by unfold bothP; rw [h]; simp only; rw [if_pos hq, h2]; simp only; rw [if_pos hq2]
theorem prefix_one (c : UInt8) (l : List UInt8) : Lib.hasPrefix l [c] = decide (l.head? = some c) := by
  unfold Lib.hasPrefix
  cases l with
  | nil => rfl
  | cons d l =>
    by_cases h : d = c
    · subst h; simp [List.isPrefixOf]
    · have h2 : ¬ c = d := fun e => h e.symm
      simp [List.isPrefixOf, h, h2]
theorem ext_tl (y : ByteArray) : (y.extract 1 y.size).data.toList = y.data.toList.tail := by
  rw [ByteArray.data_extract, Array.toList_extract, List.extract_eq_take_drop]
  have e2 : y.data.toList.length = y.size := by simp
  have : y.size - 1 = (y.data.toList.drop 1).length := by rw [List.length_drop, e2]
  rw [this, List.take_length, List.drop_one]
theorem ext_sz1 (y : ByteArray) (h : 1 ≤ y.size) : (y.extract 1 y.size).size = y.size - 1 := by
  have h1 := ext_tl y
  have e1 : (y.extract 1 y.size).data.toList.length = (y.extract 1 y.size).size := by simp
  have e2 : y.data.toList.length = y.size := by simp
  rw [h1, List.length_tail] at e1
  omega
theorem sz_list (y : ByteArray) : y.data.toList.length = y.size := by simp
theorem hd_size {y : ByteArray} {c : UInt8} (h : y.data.toList.head? = some c) : 1 ≤ y.size := by
  rw [← sz_list]
  cases hl : y.data.toList with
  | nil => rw [hl] at h; cases h
  | cons d l => simp

def RdOk (f : Nat) : Prop := ∀ (s : ByteArray) (w : World), s.size < f → s.size ≤ 450 → TabH w.heap.size w → EV w →
    Calls Tryd.prog 34 #[.string s] w fun e w' => RdAns w (rdP f s.data.toList) e w' ∧ Below w.heap.size w w'
theorem call_readTerm : ∀ args w, (callFunc 34 args).run Tryd.prog w = .ok (.enter 34 args) w := enters_of Tryd.func34 (by kernel_rfl) rfl
set_option maxHeartbeats 8000000 in
set_option maxRecDepth 100000 in
theorem readBoth_any (f : Nat) (IH : RdOk f) (s : ByteArray) (w : World) (hs : s.size < f) (h450 : s.size ≤ 450) (hT : TabH w.heap.size w) (hE : EV w) :
    Calls Tryd.prog 58 #[.string s, .string ⟨#[32]⟩, .agg #[.int .i64 3, .int .i64 0, .int .i64 0], .func (.func 34) #[] #[]] w fun e w' => RdAns w (bothP f s.data.toList) e w' ∧ Below w.heap.size w w' := by
  have hcf := call_readTerm
  have hz := zero_term.1
  obtain ⟨W, hW⟩ : ∃ W, W = w.alloc (.cells #[.int .i64 3, .int .i64 0, .int .i64 0] 51) := ⟨_, rfl⟩
  have hBW : Below w.heap.size w W := by rw [hW]; exact (Below.refl _ _).alloc (Nat.le_refl _) _
  have hWs : W.heap.size = w.heap.size + 1 := by rw [hW]; simp
  have hRW : RowAt W w.heap.size 51 #[.int .i64 3, .int .i64 0, .int .i64 0] := by rw [hW]; exact RowAt.new _ _ _
  have HTE := hideT' (And.intro (TabH.up (TabH.on hT hBW) hBW.size) (hE.below hBW))
  have HC := hideT' (IH s W hs h450 HTE.out.1 HTE.out.2)
  have HIH := hideT' IH
  have HB := hideT' hBW
  have HRW := hideT' hRW
  have HS := hideT' (And.intro hs h450)
  clear hT hE IH hBW hRW hs h450
  go_enter Tryd.func58, Tryd.ntmps58
  go_wp2_with fail
  rw [← hW]
  refine HC.out.mono ?_
  rintro e w1 ⟨hans, hB1⟩
  have HB1 : Hid (Below w.heap.size w w1) := HB.out.trans (hB1.mono (by omega))
  have HBB1 := hideT' hB1
  clear hB1 hW
  rcases hans with ⟨hn, p, s1, rfl⟩ | ⟨a, y, b1, ho, rfl, hTa⟩
  · have HN : Hid (RdAns w (bothP f s.data.toList) (.returned (.tuple #[.pointer none, .string ⟨#[]⟩, .bool false])) w1) := .inl ⟨both_no1 hn, _, _, rfl⟩
    clear hn
    go_wp2
    go_ret3
    exact ⟨HN.out, HB1.out⟩
  · have hrs := rdP_some f _ _ _ ho
    rw [sz_list, sz_list] at hrs
    have hsz := hrs.2.2
    have HO := hideT' ho
    have HTa := hideT' hTa
    have hys : y.size < s.size := by have := a.sz_pos; omega
    have has : a.sz ≤ 450 := by have := HS.out.2; omega
    clear ho hTa hrs hsz
    have HP := hideT' (Tryd.strings_HasPrefix y ⟨#[32]⟩ w1)
    have hpx : Lib.hasPrefix y.data.toList (⟨#[32]⟩ : ByteArray).data.toList = decide (y.data.toList.head? = some 32) := prefix_one 32 _
    rw [hpx] at HP
    clear hpx
    by_cases h32 : y.data.toList.head? = some 32
    · rw [decide_eq_true h32] at HP
      have hy1 := hd_size h32
      have hye := ext_tl y
      have hyes := ext_sz1 y hy1
      have HTE1 : Hid (TabH w1.heap.size w1 ∧ EV w1) := ⟨TabH.up (TabH.on HTE.out.1 HBB1.out) HBB1.out.size, HTE.out.2.below HBB1.out⟩
      have HC2 := hideT' (HIH.out (y.extract 1 y.size) w1 (by have := HS.out.1; omega) (by have := HS.out.2; omega) HTE1.out.1 HTE1.out.2)
      rw [hye] at HC2
      have H32 := hideT' h32
      have hyi : (1 : Int) ≤ (y.size : Int) := by omega
      obtain ⟨y1, hy1e⟩ : ∃ y1, y1 = y.extract 1 y.size := ⟨_, rfl⟩
      have HYE := hideT' hye
      clear hye h32
      go_wp2_with fail
      refine HP.out.mono ?_
      rintro e wz ⟨rfl, hwz⟩
      obtain rfl := hwz.symm
      go_wp2_with fail
      refine HC2.out.mono ?_
      rintro e w2 ⟨hans, hB2⟩
      have HB2 : Hid (Below w.heap.size w w2) := HB1.out.trans (hB2.mono HB1.out.size)
      have HBB2 : Hid (Below W.heap.size W w2) := HBB1.out.trans (hB2.mono HBB1.out.size)
      have HTa2 : Hid (TrIn w2 (fun x => w.heap.size ≤ x) a b1) := TrIn.keep (w := w1) hB2.size (fun x _ hx => hB2.block x hx) (fun x h _ => by have h : W.heap.size ≤ x := h; omega) HTa.out
      rcases hans with ⟨hn, p, s1, rfl⟩ | ⟨t, y2, b2, ho, rfl, hTt⟩
      · have HN : Hid (RdAns w (bothP f s.data.toList) (.returned (.tuple #[.pointer none, .string ⟨#[]⟩, .bool false])) w2) := .inl ⟨both_no3 HO.out hn, _, _, rfl⟩
        clear hn hB2
        go_wp2
        go_ret3
        exact ⟨HN.out, HB2.out⟩
      · have hrs := rdP_some f _ _ _ ho
        have hsz := hrs.2.2
        rw [List.length_tail, sz_list, sz_list] at hsz
        have HO2 := hideT' ho
        have hts : t.sz ≤ 450 := by have := HS.out.2; omega
        have HTt2 : Hid (TrIn w2 (fun x => w.heap.size ≤ x) t b2) := TrIn.mono (fun x hx _ => by have := HB1.out.size; have hx : w1.heap.size ≤ x := hx; omega) hTt
        clear ho hTt hrs hsz hB2
        have HP2 := hideT' (Tryd.strings_HasPrefix y2 ⟨#[41]⟩ w2)
        have hpx : Lib.hasPrefix y2.data.toList (⟨#[41]⟩ : ByteArray).data.toList = decide (y2.data.toList.head? = some 41) := prefix_one 41 _
        rw [hpx] at HP2
        clear hpx
        by_cases h41 : y2.data.toList.head? = some 41
        · rw [decide_eq_true h41] at HP2
          have hy21 := hd_size h41
          have hy2i : (1 : Int) ≤ (y2.size : Int) := by omega
          have HRES := hideT' (both_yes HO.out H32.out HO2.out h41)
          have hye2 := hideT' (ext_tl y2)
          clear h41
          have hX : w.heap.size < w2.heap.size := by have := HB1.out.size; have := HB2.out.size; have := HBB2.out.size; omega
          have hR2 : RowAt w2 w.heap.size 51 #[.int .i64 3, .int .i64 0, .int .i64 0] := HRW.out.below HBB2.out (by omega)
          have x0 : w2.cell? ⟨w.heap.size, 0, none⟩ = some (.int .i64 3) := by rw [cell_of_row _ _ _ _ _ _ hR2]; rfl
          have x1 : w2.cell? ⟨w.heap.size, 1, none⟩ = some (.int .i64 0) := by rw [cell_of_row _ _ _ _ _ _ hR2]; rfl
          have x2 : w2.cell? ⟨w.heap.size, 2, none⟩ = some (.int .i64 0) := by rw [cell_of_row _ _ _ _ _ _ hR2]; rfl
          have HPS : Hid (∀ p ∈ ptsOf [(b1, a), (b2, t)], p.2.1 ≤ 1000000 ∧ p.2.2 ≤ 1000000) := by
            intro p hp
            have := a.dp_sz
            have := t.dp_sz
            simp only [ptsOf, List.map_cons, List.map_nil, List.mem_cons, List.not_mem_nil, or_false] at hp
            rcases hp with rfl | rfl <;> simp only <;> omega
          have HK : Hid (KidsAt (w2.drew.alloc (.cells #[.pointer (some ⟨b1, 0, none⟩), .pointer (some ⟨b2, 0, none⟩)] 54)) (fun x => w.heap.size ≤ x) (.slice (some ⟨w2.heap.size, 0, none⟩) 2 2) [(b1, a), (b2, t)]) := by
            have hBn : Below w2.heap.size w2 (w2.drew.alloc (.cells #[.pointer (some ⟨b1, 0, none⟩), .pointer (some ⟨b2, 0, none⟩)] 54)) := (Below.refl _ _).drew.alloc (Nat.le_refl _) _
            have hRn : RowAt (w2.drew.alloc (.cells #[.pointer (some ⟨b1, 0, none⟩), .pointer (some ⟨b2, 0, none⟩)] 54)) w2.heap.size 54 #[.pointer (some ⟨b1, 0, none⟩), .pointer (some ⟨b2, 0, none⟩)] := RowAt.new w2.drew _ _
            refine ⟨_, 2, rfl, fun _ => ⟨w2.heap.size, rfl, ⟨hRn.lt, Nat.le_of_lt hX⟩, fun i p hi => ?_⟩, fun p hp => ?_⟩
            · match i, hi with
              | 0, hi => cases hi; rw [cell_of_row _ _ _ _ _ _ hRn]; rfl
              | 1, hi => cases hi; rw [cell_of_row _ _ _ _ _ _ hRn]; rfl
              | i + 2, hi => simp at hi
            · simp only [List.mem_cons, List.not_mem_nil, or_false] at hp
              rcases hp with rfl | rfl
              · exact TrIn.keep (w := w2) hBn.size (fun x _ hx => hBn.block x hx) (fun x h _ => h) HTa2.out
              · exact TrIn.keep (w := w2) hBn.size (fun x _ hx => hBn.block x hx) (fun x h _ => h) HTt2.out
          have hcp := HP2
          clear hR2 HRW HO HO2 HC HC2 HIH HP HBB1 HBB2 HTa HTa2 HTt2 H32 HYE HTE HTE1 hy1e hyes hcf
          go_wp2_with fail
          refine HP2.out.mono ?_
          rintro e wz2 ⟨rfl, hwz2⟩
          obtain rfl := hwz2.symm
          go_wp2_with fail
          have hS : Below w2.heap.size w2 w2.drew := (Below.refl _ _).drew
          refine held_begin (fun w' => Below w2.heap.size w2 w') (by kernel_rfl) ?_
          refine held_valS 0 (some 46) rfl rfl (by kernel_rfl) (by kernel_rfl) (by kernel_rfl) noPanic_put rfl (.agg #[.int .i64 3, .int .i64 0, .int .i64 0]) (fun w' h => by have q0 := (h.cell (p := ⟨w.heap.size, 0, none⟩) hX).trans x0; have q1 := (h.cell (p := ⟨w.heap.size, 1, none⟩) hX).trans x1; have q2 := (h.cell (p := ⟨w.heap.size, 2, none⟩) hX).trans x2; go_simp) hS ?_
          simp only [Act.put, List.setIfInBounds_toArray, List.set_cons_zero, List.set_cons_succ]
          refine held_valS 1 (some 47) rfl rfl (by kernel_rfl) (by kernel_rfl) (by kernel_rfl) noPanic_put rfl (.pointer (some ⟨b1, 0, none⟩)) (fun _ _ => by go_simp) hS ?_
          simp only [Act.put, List.setIfInBounds_toArray, List.set_cons_zero, List.set_cons_succ]
          refine held_valS 2 (some 48) rfl rfl (by kernel_rfl) (by kernel_rfl) (by kernel_rfl) noPanic_put rfl (.pointer (some ⟨b2, 0, none⟩)) (fun _ _ => by go_simp) hS ?_
          simp only [Act.put, List.setIfInBounds_toArray, List.set_cons_zero, List.set_cons_succ]
          refine held_valS 5 (some 51) rfl rfl (by kernel_rfl) (by kernel_rfl) (by kernel_rfl) noPanic_put rfl (.string y2) (fun _ _ => by go_simp) hS ?_
          simp only [Act.put, List.setIfInBounds_toArray, List.set_cons_zero, List.set_cons_succ]
          refine held_valS 6 (some 52) rfl rfl (by kernel_rfl) (by kernel_rfl) (by kernel_rfl) noPanic_put rfl (.string (y2.extract 1 y2.size)) (fun _ _ => by go_simp) hS ?_
          simp only [Act.put, List.setIfInBounds_toArray, List.set_cons_zero, List.set_cons_succ]
          refine held_ready 3 (some 49) (by kernel_rfl) rfl rfl rfl (.slice (some ⟨w2.heap.size, 0, none⟩) 2 2) (w2.drew.alloc (.cells #[.pointer (some ⟨b1, 0, none⟩), .pointer (some ⟨b2, 0, none⟩)] 54)) (by go_simp) (hS.alloc (Nat.le_refl _) _) ?_
          simp only [Act.put, List.setIfInBounds_toArray, List.set_cons_zero, List.set_cons_succ]
          have hca := treeOf_any 3 0 0 (.slice (some ⟨w2.heap.size, 0, none⟩) 2 2) (ptsOf [(b1, a), (b2, t)]) (w2.drew.alloc (.cells #[.pointer (some ⟨b1, 0, none⟩), .pointer (some ⟨b2, 0, none⟩)] 54)) HK.out.pts (by simp [ptsOf]) HPS.out
          refine held_call 4 (some 50) (by kernel_rfl) rfl rfl rfl 73 #[.agg #[.int .i64 3, .int .i64 0, .int .i64 0], .slice (some ⟨w2.heap.size, 0, none⟩) 2 2] (by go_simp) _ hca ?_
          intro e w5 hN
          obtain ⟨b', rfl, hbb, hTr, hB5⟩ := treeNew_at (t := .app a t) HK.out (by simp [nodeOf]) hN
          have hS5 : Below w2.heap.size w2 w5 := ((Below.refl _ _).drew.alloc (Nat.le_refl _) _).trans (hB5.mono (by simp))
          refine ⟨_, rfl, hS5, ?_⟩
          simp only [Act.put, List.setIfInBounds_toArray, List.set_cons_zero, List.set_cons_succ]
          refine held_assign 7 (some 8) (by kernel_rfl) rfl rfl _ rfl rfl (.pointer (some ⟨b', 0, none⟩)) rfl hS5 ?_
          simp only [Act.put, List.setIfInBounds_toArray, List.set_cons_zero, List.set_cons_succ]
          refine held_assign 8 (some 9) (by kernel_rfl) rfl rfl _ rfl rfl (.string (y2.extract 1 y2.size)) rfl hS5 ?_
          simp only [Act.put, List.setIfInBounds_toArray, List.set_cons_zero, List.set_cons_succ]
          refine held_assign 9 (some 10) (by kernel_rfl) rfl rfl _ rfl rfl (.bool true) rfl hS5 ?_
          simp only [Act.put, List.setIfInBounds_toArray, List.set_cons_zero, List.set_cons_succ]
          refine wpAnyH_done (by kernel_rfl) ?_ _
          refine NoPanic.normal ?_
          have HF : Hid (TrIn w5 (fun x => w.heap.size ≤ x) (.app a t) b' ∧ Below w.heap.size w w5) := ⟨TrIn.mono (fun x hx _ => by rcases hx with hx | hx; exact hx; exact (by have hx : (w2.drew.alloc _).heap.size ≤ x := hx; rw [World.size_alloc] at hx; have hx : w2.heap.size + 1 ≤ x := hx; omega)) hTr, HB2.out.trans (hS5.mono HB2.out.size)⟩
          clear hS hS5 hB5 hTr hN hca
          go_wp2
          go_ret3
          exact ⟨.inr ⟨.app a t, y2.extract 1 y2.size, b', by rw [HRES.out, hye2.out], rfl, HF.out.1⟩, HF.out.2⟩
        · rw [decide_eq_false h41] at HP2
          have HN : Hid (RdAns w (bothP f s.data.toList) (.returned (.tuple #[.pointer none, .string ⟨#[]⟩, .bool false])) w2) := .inl ⟨both_no4 HO.out HO2.out h41, _, _, rfl⟩
          clear h41
          go_wp2_with fail
          refine HP2.out.mono ?_
          rintro e wz2 ⟨rfl, hwz2⟩
          obtain rfl := hwz2.symm
          go_wp2
          go_ret3
          exact ⟨HN.out, HB2.out⟩
    · rw [decide_eq_false h32] at HP
      have HN : Hid (RdAns w (bothP f s.data.toList) (.returned (.tuple #[.pointer none, .string ⟨#[]⟩, .bool false])) w1) := .inl ⟨both_no2 HO.out h32, _, _, rfl⟩
      clear h32
      go_wp2_with fail
      refine HP.out.mono ?_
      rintro e wz ⟨rfl, hwz⟩
      obtain rfl := hwz.symm
      go_wp2
      go_ret3
      exact ⟨HN.out, HB1.out⟩

theorem toInt_ne {c d : UInt8} (h : c ≠ d) : ((c.toNat : Int) == (d.toNat : Int)) = false := by
  rw [beq_eq_false_iff_ne]; intro e; exact h (UInt8.toNat_inj.1 (by exact_mod_cast e))
set_option maxHeartbeats 8000000 in
set_option maxRecDepth 100000 in
theorem readTerm_step (f : Nat) (IH : RdOk f) : RdOk (f + 1) := by
  intro s w hs h450 hT hE
  have e2 : s.data.toList.length = s.size := sz_list s
  cases hl : s.data.toList with
  | nil =>
    have he' : (s.toList == []) = true := str_eq hl
    have HN : Hid (RdAns w (rdP (f + 1) []) (.returned (.tuple #[.pointer none, .string ⟨#[]⟩, .bool false])) w) := .inl ⟨rfl, _, _, rfl⟩
    clear hl hT hE IH e2 hs h450
    go_enter Tryd.func34, Tryd.ntmps34
    go_wp2
    go_ret3
    exact ⟨HN.out, Below.refl _ _⟩
  | cons c r =>
    have he' : (s.toList == []) = false := str_ne (by rw [hl]; simp)
    rw [hl, List.length_cons] at e2
    have hp : 0 < s.size := by omega
    have hc0 : s[0] = c := by
      have h1 : s[0] = s.data.toList[0]'(by rw [hl]; simp) := rfl
      rw [h1]; simp [hl]
    have hye : (s.extract 1 s.size).data.toList = r := by rw [ext_tl, hl]; rfl
    have hyes := ext_sz1 s hp
    have hyi : (1 : Int) ≤ (s.size : Int) := by omega
    have HTE := hideT' (And.intro hT hE)
    have HIH := hideT' IH
    by_cases h92 : c = 92
    · have hb92 : ((s[0].toNat : Int) == 92) = true := by rw [hc0, h92]; rfl
      have HC := hideT' (IH (s.extract 1 s.size) w (by omega) (by omega) hT hE)
      rw [hye] at HC
      have HR : Hid (rdP (f + 1) (c :: r) = (rdP f r).map fun p => (.lam p.1, p.2)) := by unfold Hid; rw [rdP, if_pos h92]
      have hrl : r.length ≤ 450 := by omega
      clear hl hT hE IH hye hc0 h92 hyes e2 h450
      go_enter Tryd.func34, Tryd.ntmps34
      go_wp2_with fail
      refine HC.out.mono ?_
      rintro e w1 ⟨hans, hB1⟩
      have HB1 := hideT' hB1
      clear hB1
      rcases hans with ⟨hn, p, s1, rfl⟩ | ⟨t, y, b, ho, rfl, hTr⟩
      · have HN : Hid (RdAns w (rdP (f + 1) (c :: r)) (.returned (.tuple #[.pointer none, .string ⟨#[]⟩, .bool false])) w1) := .inl ⟨by rw [HR.out, hn]; rfl, _, _, rfl⟩
        clear hn
        go_wp2
        go_ret3
        exact ⟨HN.out, HB1.out⟩
      · have hsz := (rdP_some f _ _ _ ho).2.2
        have HRES : Hid (rdP (f + 1) (c :: r) = some (.lam t, y.data.toList)) := by unfold Hid; rw [HR.out, ho]; rfl
        have HC2 := hideT' (lambdaT_any t b _ w1 hTr (by omega))
        clear ho hTr hsz
        go_wp2_with fail
        refine HC2.out.mono ?_
        rintro e w2 ⟨⟨b', rfl, hT2⟩, hB2⟩
        have HF : Hid (RdAns w (rdP (f + 1) (c :: r)) (.returned (.tuple #[.pointer (some ⟨b', 0, none⟩), .string y, .bool true])) w2 ∧ Below w.heap.size w w2) := ⟨.inr ⟨.lam t, y, b', HRES.out, rfl, TrIn.mono (fun x hx _ => by rcases hx with hx | hx; exact hx; exact Nat.le_trans HB1.out.size hx) hT2⟩, HB1.out.trans (hB2.mono HB1.out.size)⟩
        clear hT2 hB2
        go_wp2
        go_ret3
        exact HF.out
    · have hb92 : ((s[0].toNat : Int) == 92) = false := by rw [hc0]; exact toInt_ne (d := 92) h92
      by_cases h40 : c = 40
      · have hb40 : ((s[0].toNat : Int) == 40) = true := by rw [hc0, h40]; rfl
        have HC := hideT' (readBoth_any f IH (s.extract 1 s.size) w (by omega) (by omega) hT hE)
        rw [hye] at HC
        have HR : Hid (rdP (f + 1) (c :: r) = bothP f r) := by unfold Hid; rw [h40]; exact rdP_both
        clear hl hT hE IH hye hc0 h92 h40 hyes e2 h450
        go_enter Tryd.func34, Tryd.ntmps34
        go_wp2_with fail
        refine HC.out.mono ?_
        rintro e w1 ⟨hans, hB1⟩
        have HF := hideT' hB1
        clear hB1
        rcases hans with ⟨hn, p, s1, rfl⟩ | ⟨t, y, b, ho, rfl, hTr⟩
        · have HN : Hid (RdAns w (rdP (f + 1) (c :: r)) (.returned (.tuple #[.pointer p, .string s1, .bool false])) w1) := .inl ⟨by rw [HR.out, hn], _, _, rfl⟩
          clear hn
          go_wp2
          go_ret3
          exact ⟨HN.out, HF.out⟩
        · have HN : Hid (RdAns w (rdP (f + 1) (c :: r)) (.returned (.tuple #[.pointer (some ⟨b, 0, none⟩), .string y, .bool true])) w1) := .inr ⟨t, y, b, by rw [HR.out, ho], rfl, hTr⟩
          clear ho hTr
          go_wp2
          go_ret3
          exact ⟨HN.out, HF.out⟩
      · have hb40 : ((s[0].toNat : Int) == 40) = false := by rw [hc0]; exact toInt_ne (d := 40) h40
        have HC := hideT' (readIndex_any s w (by omega) hT hE)
        rw [hl] at HC
        have HR : Hid (rdP (f + 1) (c :: r) = (idxP (c :: r)).map fun p => (.var p.1, p.2)) := by unfold Hid; rw [rdP, if_neg h92, if_neg h40]
        clear hl hT hE IH hye hc0 h92 h40 hyes e2 h450
        go_enter Tryd.func34, Tryd.ntmps34
        go_wp2_with fail
        refine HC.out.mono ?_
        rintro e w1 ⟨hans, hB1⟩
        have HB1 := hideT' hB1
        clear hB1
        rcases hans with ⟨hn, rfl⟩ | ⟨n, q, ho, rfl⟩
        · have HN : Hid (rdP (f + 1) (c :: r) = none) := by unfold Hid; rw [HR.out, hn]; rfl
          have HC2 := hideT' (variableT_any 0 w1)
          clear hn
          go_wp2_with fail
          refine HC2.out.mono ?_
          rintro e w2 ⟨⟨b', rfl, hT2⟩, hB2⟩
          have HF : Hid (Below w.heap.size w w2) := HB1.out.trans (hB2.mono HB1.out.size)
          clear hT2 hB2
          go_wp2
          go_ret3
          exact ⟨.inl ⟨HN.out, _, _, rfl⟩, HF.out⟩
        · have HN : Hid (rdP (f + 1) (c :: r) = some (.var n, (⟨q.toArray⟩ : ByteArray).data.toList)) := by unfold Hid; rw [HR.out, ho]; rfl
          have HC2 := hideT' (variableT_any n w1)
          obtain ⟨y, hy⟩ : ∃ y : ByteArray, y = ⟨q.toArray⟩ := ⟨_, rfl⟩
          rw [← hy] at HN ⊢
          clear ho hy
          go_wp2_with fail
          refine HC2.out.mono ?_
          rintro e w2 ⟨⟨b', rfl, hT2⟩, hB2⟩
          have HF : Hid (TrIn w2 (fun x => w.heap.size ≤ x) (.var n) b' ∧ Below w.heap.size w w2) := ⟨TrIn.mono (fun x hx _ => Nat.le_trans HB1.out.size hx) hT2, HB1.out.trans (hB2.mono HB1.out.size)⟩
          clear hT2 hB2
          go_wp2
          go_ret3
          exact ⟨.inr ⟨.var n, y, b', HN.out, rfl, HF.out.1⟩, HF.out.2⟩
theorem readTerm_all : ∀ f, RdOk f := by
  intro f
  induction f with
  | zero => intro s w hs; omega
  | succ f ih => exact readTerm_step f ih
end Go.Proofs.YtgolfbjfopoeeaaDoor

/-
  What readBoth and readComb of the program answer, over combinators.
-/
namespace Go.Proofs.YtgolfbjfopoeeaaDoor.CB
open Go.RowKit BL
set_option linter.unusedVariables false

/-- What a reader of a tree answers. -/
def RdAns (w : World) (o : Option (Lm × List UInt8)) (e : Ending) (w' : World) : Prop :=
  (o = none ∧ ∃ p s, e = .returned (.tuple #[.pointer p, .string s, .bool false])) ∨ ∃ (t : Lm) (y : ByteArray) (b : Nat), o = some (t, y.data.toList) ∧ e = .returned (.tuple #[.pointer (some ⟨b, 0, none⟩), .string y, .bool true]) ∧ TrIn w' (fun x => w.heap.size ≤ x) t b
/-- Two parts, what is between them and the last bracket. -/
def bothP (f : Nat) (r : List UInt8) : Option (Lm × List UInt8) :=
  match rdP f r with
  | none => none
  | some (a, q) =>
    if q.head? = some 32 then
      match rdP f q.tail with
      | none => none
      | some (b, q2) => if q2.head? = some 41 then some (.app a b, q2.tail) else none
    else none
theorem rdP_both {f : Nat} {r : List UInt8} : rdP (f + 1) (40 :: r) = bothP f r := by
  rw [rdP, if_pos rfl]; rfl
theorem both_no1 {f : Nat} {r : List UInt8} (h : rdP f r = none) : bothP f r = none := by unfold bothP; rw [h]
theorem both_no2 {f : Nat} {r q : List UInt8} {a : Lm} (h : rdP f r = some (a, q)) (hq : ¬ q.head? = some 32) : bothP f r = none := by unfold bothP; rw [h]; simp only; rw [if_neg hq]
theorem both_no3 {f : Nat} {r q : List UInt8} {a : Lm} (h : rdP f r = some (a, q)) (h2 : rdP f q.tail = none) : bothP f r = none := by unfold bothP; rw [h]; simp only; rw [h2]; split <;> rfl
theorem both_no4 {f : Nat} {r q q2 : List UInt8} {a b : Lm} (h : rdP f r = some (a, q)) (h2 : rdP f q.tail = some (b, q2)) (hq : ¬ q2.head? = some 41) : bothP f r = none := by unfold bothP; rw [h]; simp only; rw [h2]; simp only; rw [if_neg hq]; split <;> rfl
theorem both_yes {f : Nat} {r q q2 : List UInt8} {a b : Lm} (h : rdP f r = some (a, q)) (hq : q.head? = some 32) (h2 : rdP f q.tail = some (b, q2)) (hq2 : q2.head? = some 41) : bothP f r = some (.app a b, q2.tail) := by unfold bothP; rw [h]; simp only; rw [if_pos hq, h2]; simp only; rw [if_pos hq2]
def RdOk (f : Nat) : Prop := ∀ (s : ByteArray) (w : World), s.size < f → s.size ≤ 800 → TabH w.heap.size w → EV w →
    Calls Tryd.prog 45 #[.string s] w fun e w' => RdAns w (rdP f s.data.toList) e w' ∧ Below w.heap.size w w'
theorem call_readComb : ∀ args w, (callFunc 45 args).run Tryd.prog w = .ok (.enter 45 args) w := enters_of Tryd.func45 (by kernel_rfl) rfl
set_option maxHeartbeats 8000000 in
set_option maxRecDepth 100000 in
theorem readBoth_any (f : Nat) (IH : RdOk f) (s : ByteArray) (w : World) (hs : s.size < f) (h800 : s.size ≤ 800) (hT : TabH w.heap.size w) (hE : EV w) :
    Calls Tryd.prog 68 #[.string s, .string ⟨#[32]⟩, .agg #[.int .i64 2, .int .i64 0, .int .i64 0], .func (.func 45) #[] #[]] w fun e w' => RdAns w (bothP f s.data.toList) e w' ∧ Below w.heap.size w w' := by
  have hcf := call_readComb
  have hz := zero_comb.1
  obtain ⟨W, hW⟩ : ∃ W, W = w.alloc (.cells #[.int .i64 2, .int .i64 0, .int .i64 0] 72) := ⟨_, rfl⟩
  have hBW : Below w.heap.size w W := by rw [hW]; exact (Below.refl _ _).alloc (Nat.le_refl _) _
  have hWs : W.heap.size = w.heap.size + 1 := by rw [hW]; simp
  have hRW : RowAt W w.heap.size 72 #[.int .i64 2, .int .i64 0, .int .i64 0] := by rw [hW]; exact RowAt.new _ _ _
  have HTE := hideT' (And.intro (TabH.up (TabH.on hT hBW) hBW.size) (hE.below hBW))
  have HC := hideT' (IH s W hs h800 HTE.out.1 HTE.out.2)
  have HIH := hideT' IH
  have HB := hideT' hBW
  have HRW := hideT' hRW
  have HS := hideT' (And.intro hs h800)
  clear hT hE IH hBW hRW hs h800
  go_enter Tryd.func68, Tryd.ntmps68
  go_wp2_with fail
  rw [← hW]
  refine HC.out.mono ?_
  rintro e w1 ⟨hans, hB1⟩
  have HB1 : Hid (Below w.heap.size w w1) := HB.out.trans (hB1.mono (by omega))
  have HBB1 := hideT' hB1
  clear hB1 hW
  rcases hans with ⟨hn, p, s1, rfl⟩ | ⟨a, y, b1, ho, rfl, hTa⟩
  · have HN : Hid (RdAns w (bothP f s.data.toList) (.returned (.tuple #[.pointer none, .string ⟨#[]⟩, .bool false])) w1) := .inl ⟨both_no1 hn, _, _, rfl⟩
    clear hn
    go_wp2
    go_ret3
    exact ⟨HN.out, HB1.out⟩
  · have hrs := rdP_some f _ _ _ ho
    rw [sz_list, sz_list] at hrs
    have hsz := hrs.2
    have HO := hideT' ho
    have HTa := hideT' hTa
    have hys : y.size < s.size := by have := a.sz_pos; omega
    have has : a.sz ≤ 800 := by have := HS.out.2; omega
    clear ho hTa hrs hsz
    have HP := hideT' (Tryd.strings_HasPrefix y ⟨#[32]⟩ w1)
    have hpx : Lib.hasPrefix y.data.toList (⟨#[32]⟩ : ByteArray).data.toList = decide (y.data.toList.head? = some 32) := prefix_one 32 _
    rw [hpx] at HP
    clear hpx
    by_cases h32 : y.data.toList.head? = some 32
    · rw [decide_eq_true h32] at HP
      have hy1 := hd_size h32
      have hye := ext_tl y
      have hyes := ext_sz1 y hy1
      have HTE1 : Hid (TabH w1.heap.size w1 ∧ EV w1) := ⟨TabH.up (TabH.on HTE.out.1 HBB1.out) HBB1.out.size, HTE.out.2.below HBB1.out⟩
      have HC2 := hideT' (HIH.out (y.extract 1 y.size) w1 (by have := HS.out.1; omega) (by have := HS.out.2; omega) HTE1.out.1 HTE1.out.2)
      rw [hye] at HC2
      have H32 := hideT' h32
      have hyi : (1 : Int) ≤ (y.size : Int) := by omega
      obtain ⟨y1, hy1e⟩ : ∃ y1, y1 = y.extract 1 y.size := ⟨_, rfl⟩
      have HYE := hideT' hye
      clear hye h32
      go_wp2_with fail
      refine HP.out.mono ?_
      rintro e wz ⟨rfl, hwz⟩
      obtain rfl := hwz.symm
      go_wp2_with fail
      refine HC2.out.mono ?_
      rintro e w2 ⟨hans, hB2⟩
      have HB2 : Hid (Below w.heap.size w w2) := HB1.out.trans (hB2.mono HB1.out.size)
      have HBB2 : Hid (Below W.heap.size W w2) := HBB1.out.trans (hB2.mono HBB1.out.size)
      have HTa2 : Hid (TrIn w2 (fun x => w.heap.size ≤ x) a b1) := TrIn.keep (w := w1) hB2.size (fun x _ hx => hB2.block x hx) (fun x h _ => by have h : W.heap.size ≤ x := h; omega) HTa.out
      rcases hans with ⟨hn, p, s1, rfl⟩ | ⟨t, y2, b2, ho, rfl, hTt⟩
      · have HN : Hid (RdAns w (bothP f s.data.toList) (.returned (.tuple #[.pointer none, .string ⟨#[]⟩, .bool false])) w2) := .inl ⟨both_no3 HO.out hn, _, _, rfl⟩
        clear hn hB2
        go_wp2
        go_ret3
        exact ⟨HN.out, HB2.out⟩
      · have hrs := rdP_some f _ _ _ ho
        have hsz := hrs.2
        rw [List.length_tail, sz_list, sz_list] at hsz
        have HO2 := hideT' ho
        have hts : t.sz ≤ 800 := by have := HS.out.2; omega
        have HTt2 : Hid (TrIn w2 (fun x => w.heap.size ≤ x) t b2) := TrIn.mono (fun x hx _ => by have := HB1.out.size; have hx : w1.heap.size ≤ x := hx; omega) hTt
        clear ho hTt hrs hsz hB2
        have HP2 := hideT' (Tryd.strings_HasPrefix y2 ⟨#[41]⟩ w2)
        have hpx : Lib.hasPrefix y2.data.toList (⟨#[41]⟩ : ByteArray).data.toList = decide (y2.data.toList.head? = some 41) := prefix_one 41 _
        rw [hpx] at HP2
        clear hpx
        by_cases h41 : y2.data.toList.head? = some 41
        · rw [decide_eq_true h41] at HP2
          have hy21 := hd_size h41
          have hy2i : (1 : Int) ≤ (y2.size : Int) := by omega
          have HRES := hideT' (both_yes HO.out H32.out HO2.out h41)
          have hye2 := hideT' (ext_tl y2)
          clear h41
          have hX : w.heap.size < w2.heap.size := by have := HB1.out.size; have := HB2.out.size; have := HBB2.out.size; omega
          have hR2 : RowAt w2 w.heap.size 72 #[.int .i64 2, .int .i64 0, .int .i64 0] := HRW.out.below HBB2.out (by omega)
          have x0 : w2.cell? ⟨w.heap.size, 0, none⟩ = some (.int .i64 2) := by rw [cell_of_row _ _ _ _ _ _ hR2]; rfl
          have x1 : w2.cell? ⟨w.heap.size, 1, none⟩ = some (.int .i64 0) := by rw [cell_of_row _ _ _ _ _ _ hR2]; rfl
          have x2 : w2.cell? ⟨w.heap.size, 2, none⟩ = some (.int .i64 0) := by rw [cell_of_row _ _ _ _ _ _ hR2]; rfl
          have HPS : Hid (∀ p ∈ ptsOf [(b1, a), (b2, t)], p.2.1 ≤ 1000000 ∧ p.2.2 ≤ 1000000) := by
            intro p hp
            have := a.dp_sz
            have := t.dp_sz
            simp only [ptsOf, List.map_cons, List.map_nil, List.mem_cons, List.not_mem_nil, or_false] at hp
            rcases hp with rfl | rfl <;> simp only <;> omega
          have HK : Hid (KidsAt (w2.drew.alloc (.cells #[.pointer (some ⟨b1, 0, none⟩), .pointer (some ⟨b2, 0, none⟩)] 75)) (fun x => w.heap.size ≤ x) (.slice (some ⟨w2.heap.size, 0, none⟩) 2 2) [(b1, a), (b2, t)]) := by
            have hBn : Below w2.heap.size w2 (w2.drew.alloc (.cells #[.pointer (some ⟨b1, 0, none⟩), .pointer (some ⟨b2, 0, none⟩)] 75)) := (Below.refl _ _).drew.alloc (Nat.le_refl _) _
            have hRn : RowAt (w2.drew.alloc (.cells #[.pointer (some ⟨b1, 0, none⟩), .pointer (some ⟨b2, 0, none⟩)] 75)) w2.heap.size 75 #[.pointer (some ⟨b1, 0, none⟩), .pointer (some ⟨b2, 0, none⟩)] := RowAt.new w2.drew _ _
            refine ⟨_, 2, rfl, fun _ => ⟨w2.heap.size, rfl, ⟨hRn.lt, Nat.le_of_lt hX⟩, fun i p hi => ?_⟩, fun p hp => ?_⟩
            · match i, hi with
              | 0, hi => cases hi; rw [cell_of_row _ _ _ _ _ _ hRn]; rfl
              | 1, hi => cases hi; rw [cell_of_row _ _ _ _ _ _ hRn]; rfl
              | i + 2, hi => simp at hi
            · simp only [List.mem_cons, List.not_mem_nil, or_false] at hp
              rcases hp with rfl | rfl
              · exact TrIn.keep (w := w2) hBn.size (fun x _ hx => hBn.block x hx) (fun x h _ => h) HTa2.out
              · exact TrIn.keep (w := w2) hBn.size (fun x _ hx => hBn.block x hx) (fun x h _ => h) HTt2.out
          have hcp := HP2
          clear hR2 HRW HO HO2 HC HC2 HIH HP HBB1 HBB2 HTa HTa2 HTt2 H32 HYE HTE HTE1 hy1e hyes hcf
          go_wp2_with fail
          refine HP2.out.mono ?_
          rintro e wz2 ⟨rfl, hwz2⟩
          obtain rfl := hwz2.symm
          go_wp2_with fail
          have hS : Below w2.heap.size w2 w2.drew := (Below.refl _ _).drew
          refine held_begin (fun w' => Below w2.heap.size w2 w') (by kernel_rfl) ?_
          refine held_valS 0 (some 46) rfl rfl (by kernel_rfl) (by kernel_rfl) (by kernel_rfl) noPanic_put rfl (.agg #[.int .i64 2, .int .i64 0, .int .i64 0]) (fun w' h => by have q0 := (h.cell (p := ⟨w.heap.size, 0, none⟩) hX).trans x0; have q1 := (h.cell (p := ⟨w.heap.size, 1, none⟩) hX).trans x1; have q2 := (h.cell (p := ⟨w.heap.size, 2, none⟩) hX).trans x2; go_simp) hS ?_
          simp only [Act.put, List.setIfInBounds_toArray, List.set_cons_zero, List.set_cons_succ]
          refine held_valS 1 (some 47) rfl rfl (by kernel_rfl) (by kernel_rfl) (by kernel_rfl) noPanic_put rfl (.pointer (some ⟨b1, 0, none⟩)) (fun _ _ => by go_simp) hS ?_
          simp only [Act.put, List.setIfInBounds_toArray, List.set_cons_zero, List.set_cons_succ]
          refine held_valS 2 (some 48) rfl rfl (by kernel_rfl) (by kernel_rfl) (by kernel_rfl) noPanic_put rfl (.pointer (some ⟨b2, 0, none⟩)) (fun _ _ => by go_simp) hS ?_
          simp only [Act.put, List.setIfInBounds_toArray, List.set_cons_zero, List.set_cons_succ]
          refine held_valS 5 (some 51) rfl rfl (by kernel_rfl) (by kernel_rfl) (by kernel_rfl) noPanic_put rfl (.string y2) (fun _ _ => by go_simp) hS ?_
          simp only [Act.put, List.setIfInBounds_toArray, List.set_cons_zero, List.set_cons_succ]
          refine held_valS 6 (some 52) rfl rfl (by kernel_rfl) (by kernel_rfl) (by kernel_rfl) noPanic_put rfl (.string (y2.extract 1 y2.size)) (fun _ _ => by go_simp) hS ?_
          simp only [Act.put, List.setIfInBounds_toArray, List.set_cons_zero, List.set_cons_succ]
          refine held_ready 3 (some 49) (by kernel_rfl) rfl rfl rfl (.slice (some ⟨w2.heap.size, 0, none⟩) 2 2) (w2.drew.alloc (.cells #[.pointer (some ⟨b1, 0, none⟩), .pointer (some ⟨b2, 0, none⟩)] 75)) (by go_simp) (hS.alloc (Nat.le_refl _) _) ?_
          simp only [Act.put, List.setIfInBounds_toArray, List.set_cons_zero, List.set_cons_succ]
          have hca := treeOf_any 2 0 0 (.slice (some ⟨w2.heap.size, 0, none⟩) 2 2) (ptsOf [(b1, a), (b2, t)]) (w2.drew.alloc (.cells #[.pointer (some ⟨b1, 0, none⟩), .pointer (some ⟨b2, 0, none⟩)] 75)) HK.out.pts (by simp [ptsOf]) HPS.out
          refine held_call 4 (some 50) (by kernel_rfl) rfl rfl rfl 81 #[.agg #[.int .i64 2, .int .i64 0, .int .i64 0], .slice (some ⟨w2.heap.size, 0, none⟩) 2 2] (by go_simp) _ hca ?_
          intro e w5 hN
          obtain ⟨b', rfl, hbb, hTr, hB5⟩ := treeNew_at (t := .app a t) HK.out (by simp [nodeOf]) hN
          have hS5 : Below w2.heap.size w2 w5 := ((Below.refl _ _).drew.alloc (Nat.le_refl _) _).trans (hB5.mono (by simp))
          refine ⟨_, rfl, hS5, ?_⟩
          simp only [Act.put, List.setIfInBounds_toArray, List.set_cons_zero, List.set_cons_succ]
          refine held_assign 7 (some 8) (by kernel_rfl) rfl rfl _ rfl rfl (.pointer (some ⟨b', 0, none⟩)) rfl hS5 ?_
          simp only [Act.put, List.setIfInBounds_toArray, List.set_cons_zero, List.set_cons_succ]
          refine held_assign 8 (some 9) (by kernel_rfl) rfl rfl _ rfl rfl (.string (y2.extract 1 y2.size)) rfl hS5 ?_
          simp only [Act.put, List.setIfInBounds_toArray, List.set_cons_zero, List.set_cons_succ]
          refine held_assign 9 (some 10) (by kernel_rfl) rfl rfl _ rfl rfl (.bool true) rfl hS5 ?_
          simp only [Act.put, List.setIfInBounds_toArray, List.set_cons_zero, List.set_cons_succ]
          refine wpAnyH_done (by kernel_rfl) ?_ _
          refine NoPanic.normal ?_
          have HF : Hid (TrIn w5 (fun x => w.heap.size ≤ x) (.app a t) b' ∧ Below w.heap.size w w5) := ⟨TrIn.mono (fun x hx _ => by rcases hx with hx | hx; exact hx; exact (by have hx : (w2.drew.alloc _).heap.size ≤ x := hx; rw [World.size_alloc] at hx; have hx : w2.heap.size + 1 ≤ x := hx; omega)) hTr, HB2.out.trans (hS5.mono HB2.out.size)⟩
          clear hS hS5 hB5 hTr hN hca
          go_wp2
          go_ret3
          exact ⟨.inr ⟨.app a t, y2.extract 1 y2.size, b', by rw [HRES.out, hye2.out], rfl, HF.out.1⟩, HF.out.2⟩
        · rw [decide_eq_false h41] at HP2
          have HN : Hid (RdAns w (bothP f s.data.toList) (.returned (.tuple #[.pointer none, .string ⟨#[]⟩, .bool false])) w2) := .inl ⟨both_no4 HO.out HO2.out h41, _, _, rfl⟩
          clear h41
          go_wp2_with fail
          refine HP2.out.mono ?_
          rintro e wz2 ⟨rfl, hwz2⟩
          obtain rfl := hwz2.symm
          go_wp2
          go_ret3
          exact ⟨HN.out, HB2.out⟩
    · rw [decide_eq_false h32] at HP
      have HN : Hid (RdAns w (bothP f s.data.toList) (.returned (.tuple #[.pointer none, .string ⟨#[]⟩, .bool false])) w1) := .inl ⟨both_no2 HO.out h32, _, _, rfl⟩
      clear h32
      go_wp2_with fail
      refine HP.out.mono ?_
      rintro e wz ⟨rfl, hwz⟩
      obtain rfl := hwz.symm
      go_wp2
      go_ret3
      exact ⟨HN.out, HB1.out⟩

theorem combLetterR_any (c : Leaf) (hc : c.nm = 0) (w : World) :
    Calls Tryd.prog 69 #[.int .i64 c.kd] w fun e w' => (∃ b, e = .returned (.pointer (some ⟨b, 0, none⟩)) ∧ TrIn w' (fun x => w.heap.size ≤ x) (.var c) b) ∧ Below w.heap.size w w' := by
  have hz := zero_comb.1
  have hK : KidsAt w (fun _ => False) (.slice none 0 0) [] := ⟨none, 0, rfl, fun h => absurd rfl h, fun p hp => by simp at hp⟩
  have HK := hideT' hK
  have HN := hideT' (nodeOf_var c)
  rw [hc] at HN
  obtain ⟨k, hk⟩ : ∃ k, k = c.kd := ⟨_, rfl⟩
  rw [← hk] at HN ⊢
  clear hK hk
  go_enter Tryd.func69, Tryd.ntmps69
  go_wp2_with fail
  refine (treeOf_any k 0 0 _ [] w HK.out.pts (by simp) (by simp)).mono ?_
  intro e w2 hN
  obtain ⟨b', rfl, hbb, hTr, hB2⟩ := treeNew_at (t := .var c) HK.out HN.out hN
  have HF : Hid (TrIn w2 (fun x => w.heap.size ≤ x) (.var c) b' ∧ Below w.heap.size w w2) := ⟨TrIn.mono (fun x hx _ => by rcases hx with hx | hx; exact hx.elim; exact hx) hTr, hB2⟩
  clear hN hTr hB2
  go_wp2
  go_ret
  exact ⟨⟨b', rfl, HF.out.1⟩, HF.out.2⟩
theorem combVar_any (n : Int) (w : World) (h0 : 0 ≤ n) :
    Calls Tryd.prog 70 #[.int .i64 n] w fun e w' => (∃ b, e = .returned (.pointer (some ⟨b, 0, none⟩)) ∧ TrIn w' (fun x => w.heap.size ≤ x) (.var (.v n)) b) ∧ Below w.heap.size w w' := by
  have hz := zero_comb.1
  have hK : KidsAt w (fun _ => False) (.slice none 0 0) [] := ⟨none, 0, rfl, fun h => absurd rfl h, fun p hp => by simp at hp⟩
  have HK := hideT' hK
  have HN := hideT' (nodeOf_var (.v n))
  clear hK
  go_enter Tryd.func70, Tryd.ntmps70
  go_wp2_with fail
  refine (treeOf_any 1 n 0 _ [] w HK.out.pts (by simp) (by simp)).mono ?_
  intro e w2 hN
  obtain ⟨b', rfl, hbb, hTr, hB2⟩ := treeNew_at (t := .var (.v n)) HK.out HN.out hN
  have HF : Hid (TrIn w2 (fun x => w.heap.size ≤ x) (.var (.v n)) b' ∧ Below w.heap.size w w2) := ⟨TrIn.mono (fun x hx _ => by rcases hx with hx | hx; exact hx.elim; exact hx) hTr, hB2⟩
  clear hN hTr hB2
  go_wp2
  go_ret
  exact ⟨⟨b', rfl, HF.out.1⟩, HF.out.2⟩
theorem rdP_c {f : Nat} {c : UInt8} {r : List UInt8} (h40 : c ≠ 40) : rdP (f + 1) (c :: r) = if c = 83 then some (.var .s, r) else if c = 75 then some (.var .k, r) else if c = 73 then some (.var .i, r) else if c = 120 then (idxP r).map fun p => (.var (.v p.1), p.2) else none := by rw [rdP, if_neg h40]
set_option maxHeartbeats 8000000 in
set_option maxRecDepth 100000 in
theorem readComb_step (f : Nat) (IH : RdOk f) : RdOk (f + 1) := by
  intro s w hs h800 hT hE
  have e2 : s.data.toList.length = s.size := sz_list s
  cases hl : s.data.toList with
  | nil =>
    have he' : (s.toList == []) = true := str_eq hl
    have HN : Hid (RdAns w (rdP (f + 1) []) (.returned (.tuple #[.pointer none, .string ⟨#[]⟩, .bool false])) w) := .inl ⟨rfl, _, _, rfl⟩
    clear hl hT hE IH e2 hs h800
    go_enter Tryd.func45, Tryd.ntmps45
    go_wp2
    go_ret3
    exact ⟨HN.out, Below.refl _ _⟩
  | cons c r =>
    have he' : (s.toList == []) = false := str_ne (by rw [hl]; simp)
    rw [hl, List.length_cons] at e2
    have hp : 0 < s.size := by omega
    have hc0 : s[0] = c := by
      have h1 : s[0] = s.data.toList[0]'(by rw [hl]; simp) := rfl
      rw [h1]; simp [hl]
    have hye : (s.extract 1 s.size).data.toList = r := by rw [ext_tl, hl]; rfl
    have hyes := ext_sz1 s hp
    have hyi : (1 : Int) ≤ (s.size : Int) := by omega
    obtain ⟨y, hy⟩ : ∃ y, y = s.extract 1 s.size := ⟨_, rfl⟩
    rw [← hy] at hye hyes
    have HIN : Hid (s.size = s.size) := rfl
    have leaf : ∀ (x : Leaf), rdP (f + 1) (c :: r) = some (.var x, r) → ∀ (w2 : World) (b' : Nat), TrIn w2 (fun q => w.heap.size ≤ q) (.var x) b' → RdAns w (rdP (f + 1) (c :: r)) (.returned (.tuple #[.pointer (some ⟨b', 0, none⟩), .string y, .bool true])) w2 := fun x hx w2 b' hT2 => .inr ⟨.var x, y, b', by rw [hye]; exact hx, rfl, hT2⟩
    by_cases h40 : c = 40
    · have hb40 : ((s[0].toNat : Int) == 40) = true := by rw [hc0, h40]; rfl
      have HC := hideT' (fun k => readBoth_any f IH y (w.drewN k) (by omega) (by omega) (TabH.on hT (below_drN (Below.refl _ _) k)) (hE.below (below_drN (Below.refl _ _) k)))
      rw [hye] at HC
      have HR : Hid (rdP (f + 1) (c :: r) = bothP f r) := by unfold Hid; rw [h40]; exact rdP_both
      clear hl hT hE IH hye hc0 h40 hyes e2 h800 leaf
      go_enter Tryd.func45, Tryd.ntmps45
      go_wp2_with fail
      go_quiet (fail)
      go_wp2_with fail
      rw [← hy]
      refine (HC.out _).mono ?_
      rintro e w1 ⟨hans, hB1⟩
      have HF : Hid (Below w.heap.size w w1) := ⟨hB1.os, hB1.tape, hB1.output, hB1.size, hB1.block⟩
      clear hB1 hy
      rcases hans with ⟨hn, p, s1, rfl⟩ | ⟨t, z, b, ho, rfl, hTr⟩
      · have HN : Hid (RdAns w (rdP (f + 1) (c :: r)) (.returned (.tuple #[.pointer p, .string s1, .bool false])) w1) := .inl ⟨by rw [HR.out, hn], _, _, rfl⟩
        clear hn
        go_wp2
        go_ret3
        exact ⟨HN.out, HF.out⟩
      · have HN : Hid (RdAns w (rdP (f + 1) (c :: r)) (.returned (.tuple #[.pointer (some ⟨b, 0, none⟩), .string z, .bool true])) w1) := .inr ⟨t, z, b, by rw [HR.out, ho], rfl, hTr⟩
        clear ho hTr
        go_wp2
        go_ret3
        exact ⟨HN.out, HF.out⟩
    · have hb40 : ((s[0].toNat : Int) == 40) = false := by rw [hc0]; exact toInt_ne (d := 40) h40
      have HRC := hideT' (rdP_c (f := f) (r := r) h40)
      by_cases h83 : c = 83
      · have hb83 : ((s[0].toNat : Int) == 83) = true := by rw [hc0, h83]; rfl
        have HL := hideT' (leaf .s (by rw [HRC.out, if_pos h83]))
        have HC := hideT' (fun k => combLetterR_any .s rfl (w.drewN k))
        simp only [Leaf.kd] at HC
        clear hl hT hE IH hye hc0 h40 hyes e2 h800 leaf h83
        go_enter Tryd.func45, Tryd.ntmps45
        go_wp2_with fail
        go_quiet (fail)
        go_wp2_with fail
        rw [← hy]
        refine (HC.out _).mono ?_
        rintro e w1 ⟨⟨b', rfl, hT1⟩, hB1⟩
        have HF : Hid (RdAns w (rdP (f + 1) (c :: r)) (.returned (.tuple #[.pointer (some ⟨b', 0, none⟩), .string y, .bool true])) w1 ∧ Below w.heap.size w w1) := ⟨HL.out w1 b' hT1, ⟨hB1.os, hB1.tape, hB1.output, hB1.size, hB1.block⟩⟩
        clear hT1 hB1 hy
        go_wp2
        go_ret3
        exact HF.out
      have hb83 : ((s[0].toNat : Int) == 83) = false := by rw [hc0]; exact toInt_ne (d := 83) h83
      by_cases h75 : c = 75
      · have hb75 : ((s[0].toNat : Int) == 75) = true := by rw [hc0, h75]; rfl
        have HL := hideT' (leaf .k (by rw [HRC.out, if_neg h83, if_pos h75]))
        have HC := hideT' (fun k => combLetterR_any .k rfl (w.drewN k))
        simp only [Leaf.kd] at HC
        clear hl hT hE IH hye hc0 h40 hyes e2 h800 leaf h83 h75
        go_enter Tryd.func45, Tryd.ntmps45
        go_wp2_with fail
        go_quiet (fail)
        go_wp2_with fail
        rw [← hy]
        refine (HC.out _).mono ?_
        rintro e w1 ⟨⟨b', rfl, hT1⟩, hB1⟩
        have HF : Hid (RdAns w (rdP (f + 1) (c :: r)) (.returned (.tuple #[.pointer (some ⟨b', 0, none⟩), .string y, .bool true])) w1 ∧ Below w.heap.size w w1) := ⟨HL.out w1 b' hT1, ⟨hB1.os, hB1.tape, hB1.output, hB1.size, hB1.block⟩⟩
        clear hT1 hB1 hy
        go_wp2
        go_ret3
        exact HF.out
      have hb75 : ((s[0].toNat : Int) == 75) = false := by rw [hc0]; exact toInt_ne (d := 75) h75
      by_cases h73 : c = 73
      · have hb73 : ((s[0].toNat : Int) == 73) = true := by rw [hc0, h73]; rfl
        have HL := hideT' (leaf .i (by rw [HRC.out, if_neg h83, if_neg h75, if_pos h73]))
        have HC := hideT' (fun k => combLetterR_any .i rfl (w.drewN k))
        simp only [Leaf.kd] at HC
        clear hl hT hE IH hye hc0 h40 hyes e2 h800 leaf h83 h75 h73
        go_enter Tryd.func45, Tryd.ntmps45
        go_wp2_with fail
        go_quiet (fail)
        go_wp2_with fail
        rw [← hy]
        refine (HC.out _).mono ?_
        rintro e w1 ⟨⟨b', rfl, hT1⟩, hB1⟩
        have HF : Hid (RdAns w (rdP (f + 1) (c :: r)) (.returned (.tuple #[.pointer (some ⟨b', 0, none⟩), .string y, .bool true])) w1 ∧ Below w.heap.size w w1) := ⟨HL.out w1 b' hT1, ⟨hB1.os, hB1.tape, hB1.output, hB1.size, hB1.block⟩⟩
        clear hT1 hB1 hy
        go_wp2
        go_ret3
        exact HF.out
      have hb73 : ((s[0].toNat : Int) == 73) = false := by rw [hc0]; exact toInt_ne (d := 73) h73
      by_cases h120 : c = 120
      · have hb120 : ((s[0].toNat : Int) == 120) = true := by rw [hc0, h120]; rfl
        have HC := hideT' (fun k => readIndex_any y (w.drewN k) (by omega) (TabH.on hT (below_drN (Below.refl _ _) k)) (hE.below (below_drN (Below.refl _ _) k)))
        rw [hye] at HC
        have HR : Hid (rdP (f + 1) (c :: r) = (idxP r).map fun p => (.var (.v p.1), p.2)) := by unfold Hid; rw [HRC.out, if_neg h83, if_neg h75, if_neg h73, if_pos h120]
        clear hl hT hE IH hye hc0 h40 hyes e2 h800 leaf h83 h75 h73 h120
        go_enter Tryd.func45, Tryd.ntmps45
        go_wp2_with fail
        go_quiet (fail)
        go_wp2_with fail
        rw [← hy]
        refine (HC.out _).mono ?_
        rintro e w1 ⟨hans, hB1⟩
        have HB1 : Hid (Below w.heap.size w w1) := ⟨hB1.os, hB1.tape, hB1.output, hB1.size, hB1.block⟩
        clear hB1 hy
        rcases hans with ⟨hn, rfl⟩ | ⟨n, q, ho, rfl⟩
        · have HN : Hid (rdP (f + 1) (c :: r) = none) := by unfold Hid; rw [HR.out, hn]; rfl
          have HC2 := hideT' (combVar_any 0 w1 (Int.le_refl _))
          clear hn
          go_wp2_with fail
          refine HC2.out.mono ?_
          rintro e w2 ⟨⟨b', rfl, hT2⟩, hB2⟩
          have HF : Hid (Below w.heap.size w w2) := HB1.out.trans (hB2.mono HB1.out.size)
          clear hT2 hB2
          go_wp2
          go_ret3
          exact ⟨.inl ⟨HN.out, _, _, rfl⟩, HF.out⟩
        · have HN : Hid (rdP (f + 1) (c :: r) = some (.var (.v n), (⟨q.toArray⟩ : ByteArray).data.toList)) := by unfold Hid; rw [HR.out, ho]; rfl
          have HC2 := hideT' (combVar_any n w1 (idxP_some ho).2)
          obtain ⟨z, hz⟩ : ∃ z : ByteArray, z = ⟨q.toArray⟩ := ⟨_, rfl⟩
          rw [← hz] at HN ⊢
          clear ho hz
          go_wp2_with fail
          refine HC2.out.mono ?_
          rintro e w2 ⟨⟨b', rfl, hT2⟩, hB2⟩
          have HF : Hid (TrIn w2 (fun x => w.heap.size ≤ x) (.var (.v n)) b' ∧ Below w.heap.size w w2) := ⟨TrIn.mono (fun x hx _ => Nat.le_trans HB1.out.size hx) hT2, HB1.out.trans (hB2.mono HB1.out.size)⟩
          clear hT2 hB2
          go_wp2
          go_ret3
          exact ⟨.inr ⟨.var (.v n), z, b', HN.out, rfl, HF.out.1⟩, HF.out.2⟩
      have hb120 : ((s[0].toNat : Int) == 120) = false := by rw [hc0]; exact toInt_ne (d := 120) h120
      have HN : Hid (rdP (f + 1) (c :: r) = none) := by unfold Hid; rw [HRC.out, if_neg h83, if_neg h75, if_neg h73, if_neg h120]
      clear hl hT hE IH hye hc0 h40 hyes e2 h800 leaf h83 h75 h73 h120
      go_enter Tryd.func45, Tryd.ntmps45
      go_wp2_with fail
      go_quiet (fail)
      go_wp2
      go_ret3
      exact ⟨.inl ⟨HN.out, _, _, rfl⟩, below_drN (Below.refl _ _) _⟩
theorem readComb_all : ∀ f, RdOk f := by
  intro f
  induction f with
  | zero => intro s w hs; omega
  | succ f ih => exact readComb_step f ih
end Go.Proofs.YtgolfbjfopoeeaaDoor.CB

/-
  What ldText of the model answers: the text of a tree.
-/
namespace Go.Proofs.YtgolfbjfopoeeaaDoor.CB
open Go.RowKit BL
set_option linter.unusedVariables false

set_option maxHeartbeats 8000000 in
set_option maxRecDepth 100000 in
theorem ldText_any : ∀ (t : Lm), t.ok = true → t.txt.length ≤ 10000000 → ∀ (z : Value) (P : Nat → Prop) (w : World), LcIn w P t z →
    Calls Tryd.prog 37 #[.agg (lcC t.kd t.nm z)] w fun e w' => e = .returned (.string ⟨t.txt.toArray⟩) ∧ Below w.heap.size w w'
  | .var (.v n), hok, hlen, z, P, w, hz => by
    simp only [Lm.ok, Leaf.ok, Bool.and_eq_true, decide_eq_true_eq] at hok
    obtain ⟨k, rfl⟩ := Int.eq_ofNat_of_zero_le hok.1
    obtain ⟨o, c, rfl⟩ := hz
    have hBW : Below w.heap.size w (w.alloc (.cells #[.int .i64 1, .int .i64 (k : Int), .slice o 0 c] 70)) := (Below.refl _ _).alloc (Nat.le_refl _) _
    have HC := hideT' (l1NumN_any k (by omega) (w.alloc (.cells #[.int .i64 1, .int .i64 (k : Int), .slice o 0 c] 70)))
    have HB := hideT' hBW
    have hxs : (numB (k : Int)).size ≤ 19 := numB_nat_size k (by omega)
    obtain ⟨xa, hxa⟩ : ∃ xa : ByteArray, xa = numB (k : Int) := ⟨_, rfl⟩
    rw [← hxa] at HC hxs
    have HN : Hid ((⟨(Lm.var (.v (k : Int))).txt.toArray⟩ : ByteArray) = (⟨#[120]⟩ : ByteArray) ++ xa) := by unfold Hid; rw [hxa]; apply ByteArray.ext; apply Array.ext'; simp [Lm.txt, Leaf.txt, numB]
    have hza : (⟨#[120]⟩ : ByteArray).size + xa.size ≤ 9223372036854775807 := by show 1 + _ ≤ _; omega
    show Calls Tryd.prog 37 #[.agg #[.int .i64 1, .int .i64 (k : Int), .slice o 0 c]] w _
    clear hok hlen hBW hxa hxs
    go_enter Tryd.func37, Tryd.ntmps37
    go_wp2_with fail
    refine HC.out.mono ?_
    rintro e w1 ⟨rfl, hB1⟩
    have HB1 : Hid (Below w.heap.size w w1) := HB.out.trans (hB1.mono (by simp))
    clear hB1
    go_wp2
    go_ret
    exact ⟨by rw [HN.out]; rfl, HB1.out⟩
  | .var .s, hok, hlen, z, P, w, hz => by
    obtain ⟨o, c, rfl⟩ := hz
    have hBW : Below w.heap.size w (w.alloc (.cells #[.int .i64 3, .int .i64 0, .slice o 0 c] 70)) := (Below.refl _ _).alloc (Nat.le_refl _) _
    have HB := hideT' hBW
    show Calls Tryd.prog 37 #[.agg #[.int .i64 3, .int .i64 0, .slice o 0 c]] w _
    clear hok hlen hBW
    go_enter Tryd.func37, Tryd.ntmps37
    go_wp2
    go_ret
    exact ⟨rfl, HB.out⟩
  | .var .k, hok, hlen, z, P, w, hz => by
    obtain ⟨o, c, rfl⟩ := hz
    have hBW : Below w.heap.size w (w.alloc (.cells #[.int .i64 4, .int .i64 0, .slice o 0 c] 70)) := (Below.refl _ _).alloc (Nat.le_refl _) _
    have HB := hideT' hBW
    show Calls Tryd.prog 37 #[.agg #[.int .i64 4, .int .i64 0, .slice o 0 c]] w _
    clear hok hlen hBW
    go_enter Tryd.func37, Tryd.ntmps37
    go_wp2
    go_ret
    exact ⟨rfl, HB.out⟩
  | .var .i, hok, hlen, z, P, w, hz => by
    obtain ⟨o, c, rfl⟩ := hz
    have hBW : Below w.heap.size w (w.alloc (.cells #[.int .i64 5, .int .i64 0, .slice o 0 c] 70)) := (Below.refl _ _).alloc (Nat.le_refl _) _
    have HB := hideT' hBW
    show Calls Tryd.prog 37 #[.agg #[.int .i64 5, .int .i64 0, .slice o 0 c]] w _
    clear hok hlen hBW
    go_enter Tryd.func37, Tryd.ntmps37
    go_wp2
    go_ret
    exact ⟨rfl, HB.out⟩
  | .app a b, hok, hlen, z, P, w, hz => by
    obtain ⟨g, cz, za, zb, rfl, hg, ⟨a0, a1, a2⟩, ⟨b0, b1, b2⟩, ha, hb⟩ := hz
    have hal : a.txt.length + b.txt.length + 3 ≤ 10000000 := by simp only [Lm.txt, List.length_cons, List.length_append, List.length_nil] at hlen; omega
    simp only [Lm.ok, Bool.and_eq_true] at hok
    obtain ⟨W, hW⟩ : ∃ W, W = w.alloc (.cells #[.int .i64 2, .int .i64 0, .slice (some ⟨g, 0, none⟩) 2 cz] 70) := ⟨_, rfl⟩
    have hBW : Below w.heap.size w W := by rw [hW]; exact (Below.refl _ _).alloc (Nat.le_refl _) _
    have hWs : W.heap.size = w.heap.size + 1 := by rw [hW]; simp
    have HCa : Hid (∀ w', Below W.heap.size W w' → Calls Tryd.prog 37 #[.agg (lcC a.kd a.nm za)] w' fun e w'' => e = .returned (.string ⟨a.txt.toArray⟩) ∧ Below w'.heap.size w' w'') := fun w' h => ldText_any a hok.1 (by omega) za P w' ((ha.below hBW).below h)
    have HCb : Hid (∀ w', Below W.heap.size W w' → Calls Tryd.prog 37 #[.agg (lcC b.kd b.nm zb)] w' fun e w'' => e = .returned (.string ⟨b.txt.toArray⟩) ∧ Below w'.heap.size w' w'') := fun w' h => ldText_any b hok.2 (by omega) zb P w' ((hb.below hBW).below h)
    obtain ⟨xa, hxa⟩ : ∃ xa : ByteArray, xa = ⟨a.txt.toArray⟩ := ⟨_, rfl⟩
    obtain ⟨xb, hxb⟩ : ∃ xb : ByteArray, xb = ⟨b.txt.toArray⟩ := ⟨_, rfl⟩
    have hxas : xa.size = a.txt.length := by rw [hxa]; simp [ByteArray.size]
    have hxbs : xb.size = b.txt.length := by rw [hxb]; simp [ByteArray.size]
    have hza : (⟨#[40]⟩ : ByteArray).size + xa.size ≤ 9223372036854775807 := by show 1 + _ ≤ _; omega
    have hzb : ((⟨#[40]⟩ : ByteArray) ++ xa).size + (⟨#[32]⟩ : ByteArray).size ≤ 9223372036854775807 := by rw [ByteArray.size_append]; show 1 + _ + 1 ≤ _; omega
    have hzc : ((⟨#[40]⟩ : ByteArray) ++ xa ++ (⟨#[32]⟩ : ByteArray)).size + xb.size ≤ 9223372036854775807 := by rw [ByteArray.size_append, ByteArray.size_append]; show 1 + _ + 1 + _ ≤ _; omega
    have hzd : ((⟨#[40]⟩ : ByteArray) ++ xa ++ (⟨#[32]⟩ : ByteArray) ++ xb).size + (⟨#[41]⟩ : ByteArray).size ≤ 9223372036854775807 := by rw [ByteArray.size_append, ByteArray.size_append, ByteArray.size_append]; show 1 + _ + 1 + _ + 1 ≤ _; omega
    have HN : Hid ((⟨(Lm.app a b).txt.toArray⟩ : ByteArray) = (⟨#[40]⟩ : ByteArray) ++ xa ++ (⟨#[32]⟩ : ByteArray) ++ xb ++ (⟨#[41]⟩ : ByteArray)) := by unfold Hid; rw [hxa, hxb]; apply ByteArray.ext; apply Array.ext'; simp [Lm.txt]
    have hsum : xa.size + xb.size ≤ 10000000 := by omega
    rw [← hxa] at HCa
    rw [← hxb] at HCb
    have hgW : g < W.heap.size := by have := hg.1; omega
    have hH : w.heap.size < W.heap.size := by omega
    have t2 : W.cell? ⟨w.heap.size, 2, none⟩ = some (.slice (some ⟨g, 0, none⟩) 2 cz) := by rw [hW, cell_of_row _ _ _ _ _ _ (RowAt.new w 70 _)]; rfl
    have hgl := hg.1
    have a0 := (hBW.cell (p := ⟨g, 0, none⟩) hgl).trans a0
    have a1 := (hBW.cell (p := ⟨g, 1, none⟩) hgl).trans a1
    have a2 := (hBW.cell (p := ⟨g, 2, none⟩) hgl).trans a2
    have b0 := (hBW.cell (p := ⟨g, 3, none⟩) hgl).trans b0
    have b1 := (hBW.cell (p := ⟨g, 4, none⟩) hgl).trans b1
    have b2 := (hBW.cell (p := ⟨g, 5, none⟩) hgl).trans b2
    have HB := hideT' hBW
    obtain ⟨oa, ca, hzz⟩ := ha.form
    subst hzz
    obtain ⟨ob, cb, hzz⟩ := hb.form
    subst hzz
    show Calls Tryd.prog 37 #[.agg #[.int .i64 2, .int .i64 0, .slice (some ⟨g, 0, none⟩) 2 cz]] w _
    clear hok hlen hBW ha hb hg hxa hxb hal hxas hxbs hWs
    go_enter Tryd.func37, Tryd.ntmps37
    go_wp2_with fail
    rw [← hW]
    have hS : Below W.heap.size W W.drew := (Below.refl _ _).drew
    refine held_begin (fun w' => Below W.heap.size W w') (by kernel_rfl) ?_
    refine held_valS 0 (some 17) rfl rfl (by kernel_rfl) (by kernel_rfl) (by kernel_rfl) noPanic_put rfl (.pointer (some ⟨w.heap.size, 2, none⟩)) (fun _ _ => by go_simp) hS ?_
    simp only [Act.put, List.setIfInBounds_toArray, List.set_cons_zero, List.set_cons_succ]
    refine held_valS 1 (some 18) rfl rfl (by kernel_rfl) (by kernel_rfl) (by kernel_rfl) noPanic_put rfl (.slice (some ⟨g, 0, none⟩) 2 cz) (fun w' h => by have q := ((h.cell (p := ⟨w.heap.size, 2, none⟩) hH).trans t2); go_simp) hS ?_
    simp only [Act.put, List.setIfInBounds_toArray, List.set_cons_zero, List.set_cons_succ]
    refine held_valS 2 (some 19) rfl rfl (by kernel_rfl) (by kernel_rfl) (by kernel_rfl) noPanic_put rfl (.pointer (some ⟨g, 0, none⟩)) (fun _ _ => by go_simp) hS ?_
    simp only [Act.put, List.setIfInBounds_toArray, List.set_cons_zero, List.set_cons_succ]
    refine held_valS 3 (some 20) rfl rfl (by kernel_rfl) (by kernel_rfl) (by kernel_rfl) noPanic_put rfl (.agg (lcC a.kd a.nm (.slice oa a.kids.length ca))) (fun w' h => by unfold lcC; have q0 := ((h.cell (p := ⟨g, 0, none⟩) hgW).trans a0); have q1 := ((h.cell (p := ⟨g, 1, none⟩) hgW).trans a1); have q2 := ((h.cell (p := ⟨g, 2, none⟩) hgW).trans a2); go_simp) hS ?_
    simp only [Act.put, List.setIfInBounds_toArray, List.set_cons_zero, List.set_cons_succ]
    refine held_valS 7 (some 24) rfl rfl (by kernel_rfl) (by kernel_rfl) (by kernel_rfl) noPanic_put rfl (.pointer (some ⟨w.heap.size, 2, none⟩)) (fun _ _ => by go_simp) hS ?_
    simp only [Act.put, List.setIfInBounds_toArray, List.set_cons_zero, List.set_cons_succ]
    refine held_valS 8 (some 25) rfl rfl (by kernel_rfl) (by kernel_rfl) (by kernel_rfl) noPanic_put rfl (.slice (some ⟨g, 0, none⟩) 2 cz) (fun w' h => by have q := ((h.cell (p := ⟨w.heap.size, 2, none⟩) hH).trans t2); go_simp) hS ?_
    simp only [Act.put, List.setIfInBounds_toArray, List.set_cons_zero, List.set_cons_succ]
    refine held_valS 9 (some 26) rfl rfl (by kernel_rfl) (by kernel_rfl) (by kernel_rfl) noPanic_put rfl (.pointer (some ⟨g, 3, none⟩)) (fun _ _ => by go_simp) hS ?_
    simp only [Act.put, List.setIfInBounds_toArray, List.set_cons_zero, List.set_cons_succ]
    refine held_valS 10 (some 27) rfl rfl (by kernel_rfl) (by kernel_rfl) (by kernel_rfl) noPanic_put rfl (.agg (lcC b.kd b.nm (.slice ob b.kids.length cb))) (fun w' h => by unfold lcC; have q0 := ((h.cell (p := ⟨g, 3, none⟩) hgW).trans b0); have q1 := ((h.cell (p := ⟨g, 4, none⟩) hgW).trans b1); have q2 := ((h.cell (p := ⟨g, 5, none⟩) hgW).trans b2); go_simp) hS ?_
    simp only [Act.put, List.setIfInBounds_toArray, List.set_cons_zero, List.set_cons_succ]
    refine held_call 4 (some 21) (by kernel_rfl) rfl rfl rfl 37 #[.agg (lcC a.kd a.nm (.slice oa a.kids.length ca))] (by go_simp) _ (HCa.out W.drew hS) ?_
    rintro e w5 ⟨rfl, hB5⟩
    have hS5 : Below W.heap.size W w5 := hS.trans (hB5.mono (Nat.le_refl _))
    refine ⟨_, rfl, hS5, ?_⟩
    simp only [Act.put, List.setIfInBounds_toArray, List.set_cons_zero, List.set_cons_succ]
    refine held_val 5 (some 22) rfl rfl (by kernel_rfl) (by kernel_rfl) (by kernel_rfl) noPanic_put rfl (.string ((⟨#[40]⟩ : ByteArray) ++ xa)) (fun _ => by go_simp; omega) hS5 ?_
    simp only [Act.put, List.setIfInBounds_toArray, List.set_cons_zero, List.set_cons_succ]
    refine held_val 6 (some 23) rfl rfl (by kernel_rfl) (by kernel_rfl) (by kernel_rfl) noPanic_put rfl (.string ((⟨#[40]⟩ : ByteArray) ++ xa ++ (⟨#[32]⟩ : ByteArray))) (fun _ => by go_simp; omega) hS5 ?_
    simp only [Act.put, List.setIfInBounds_toArray, List.set_cons_zero, List.set_cons_succ]
    refine held_call 11 (some 28) (by kernel_rfl) rfl rfl rfl 37 #[.agg (lcC b.kd b.nm (.slice ob b.kids.length cb))] (by go_simp) _ (HCb.out w5 hS5) ?_
    rintro e w6 ⟨rfl, hB6⟩
    have hS6 : Below W.heap.size W w6 := hS5.trans (hB6.mono hS5.size)
    refine ⟨_, rfl, hS6, ?_⟩
    simp only [Act.put, List.setIfInBounds_toArray, List.set_cons_zero, List.set_cons_succ]
    refine held_val 12 (some 29) rfl rfl (by kernel_rfl) (by kernel_rfl) (by kernel_rfl) noPanic_put rfl (.string ((⟨#[40]⟩ : ByteArray) ++ xa ++ (⟨#[32]⟩ : ByteArray) ++ xb)) (fun _ => by go_simp; omega) hS6 ?_
    simp only [Act.put, List.setIfInBounds_toArray, List.set_cons_zero, List.set_cons_succ]
    refine held_val 13 (some 30) rfl rfl (by kernel_rfl) (by kernel_rfl) (by kernel_rfl) noPanic_put rfl (.string ((⟨#[40]⟩ : ByteArray) ++ xa ++ (⟨#[32]⟩ : ByteArray) ++ xb ++ (⟨#[41]⟩ : ByteArray))) (fun _ => by go_simp; omega) hS6 ?_
    simp only [Act.put, List.setIfInBounds_toArray, List.set_cons_zero, List.set_cons_succ]
    refine held_assign 14 (some 2) (by kernel_rfl) rfl rfl _ rfl rfl (.string ((⟨#[40]⟩ : ByteArray) ++ xa ++ (⟨#[32]⟩ : ByteArray) ++ xb ++ (⟨#[41]⟩ : ByteArray))) rfl hS6 ?_
    simp only [Act.put, List.setIfInBounds_toArray, List.set_cons_zero, List.set_cons_succ]
    refine wpAnyH_done (by kernel_rfl) ?_ _
    refine NoPanic.normal ?_
    have HF : Hid (Below w.heap.size w w6) := HB.out.trans (hS6.mono HB.out.size)
    clear hS hS5 hS6 hB5 hB6 hW
    go_wp2
    go_ret
    exact ⟨by rw [HN.out]; rfl, HF.out⟩
end Go.Proofs.YtgolfbjfopoeeaaDoor.CB

/-
  What both ReadComb answer.
-/
namespace Go.Proofs.YtgolfbjfopoeeaaDoor.CB
open Go.RowKit BL
set_option linter.unusedVariables false

theorem told_chk (o : Option Lm) : toldB (o.bind Lm.chk) = toldB o ∧ toldL (o.bind Lm.chk) = toldL o := by
  cases o with
  | none => exact ⟨rfl, rfl⟩
  | some t =>
    by_cases h : t.good = true
    · simp [Lm.chk, h]
    · simp [Lm.chk, h, toldB, toldL]
theorem TOut.chk {w : World} {o : Option Lm} {e : Ending} {w' : World} (h : TOut w o e w') : TOut w (o.bind Lm.chk) e w' := by
  unfold TOut at *
  rw [(told_chk o).1, (told_chk o).2]
  exact h
set_option maxHeartbeats 4000000 in
set_option maxRecDepth 100000 in
theorem implReadComb_any (s : ByteArray) (w : World) (hs : s.size ≤ 1048576) (hT : TabH w.heap.size w) (hE : EV w) :
    Calls Tryd.prog 22 #[.string s] w fun e w' => TOut w (ansT s.data.toList) e w' ∧ Below w.heap.size w w' := by
  rw [← ansP_eq]
  have e2 : s.data.toList.length = s.size := by simp
  by_cases h800 : (800 : Int) < (s.size : Int)
  · have HN : Hid (ansP s.data.toList = none) := by unfold Hid ansP; rw [if_pos (by omega)]
    clear hT hE e2
    go_enter Tryd.func22, Tryd.ntmps22
    go_wp2
    go_ret2
    exact ⟨TOut.bad (by rw [HN.out]; rfl), Below.refl _ _⟩
  · have HA : Hid (ansP s.data.toList = match rdP (s.size + 1) s.data.toList with | none => none | some (t, q) => if q = [] then some t else none) := by unfold Hid ansP; rw [if_neg (by omega), e2]; cases rdP (s.size + 1) s.data.toList <;> rfl
    have HC := hideT' (readComb_all (s.size + 1) s w (by omega) (by omega) hT hE)
    have HSZ : Hid (∀ t q, rdP (s.size + 1) s.data.toList = some (t, q) → t.sz ≤ 800) := fun t q h => by have := (rdP_some _ _ _ _ h).2; omega
    clear hT hE e2
    go_enter Tryd.func22, Tryd.ntmps22
    go_wp2_with fail
    refine HC.out.mono ?_
    rintro e w1 ⟨hans, hB1⟩
    have HB1 := hideT' hB1
    clear hB1
    rcases hans with ⟨hn, p, s1, rfl⟩ | ⟨t, y, b, ho, rfl, hTr⟩
    · have HN : Hid (ansP s.data.toList = none) := by unfold Hid; rw [HA.out, hn]
      clear hn
      go_wp2
      go_ret2
      exact ⟨TOut.bad (by rw [HN.out]; rfl), HB1.out⟩
    · have hsz := HSZ.out t _ ho
      by_cases hy : y.data.toList = []
      · have HN : Hid (ansP s.data.toList = some t) := by unfold Hid; rw [HA.out, ho]; simp only; rw [if_pos hy]
        have hye : (y.toList == []) = true := str_eq hy
        have HC2 := hideT' (tellTree_any t b _ w1 hTr (by omega))
        clear ho hTr hy hsz
        go_wp2_with fail
        refine HC2.out.mono ?_
        rintro e w2 ⟨hT2, hB2⟩
        have HB2 : Hid (Below w.heap.size w w2) := HB1.out.trans (hB2.mono HB1.out.size)
        have hO := hT2.out (w := w) (o := ansP s.data.toList) HB1.out.size HN.out
        obtain ⟨u, he, hOw⟩ := hT2.parts
        subst he
        have HO := hideT' hO
        clear hT2 hB2 hO hOw
        go_wp2
        go_ret2
        exact ⟨TOut.chk HO.out, HB2.out⟩
      · have HN : Hid (ansP s.data.toList = none) := by unfold Hid; rw [HA.out, ho]; simp only; rw [if_neg hy]
        have hye : (y.toList == []) = false := str_ne hy
        clear ho hTr hy hsz
        go_wp2
        go_ret2
        exact ⟨TOut.bad (by rw [HN.out]; rfl), HB1.out⟩
set_option maxHeartbeats 4000000 in
set_option maxRecDepth 100000 in
theorem specReadComb_any (s : ByteArray) (w : World) (hs : s.size ≤ 1048576) :
    Calls Tryd.prog 21 #[.string s] w fun e w' => TOut w (ansT s.data.toList) e w' ∧ Below w.heap.size w w' := by
  have hz := zero_lcT.1
  have e2 : s.data.toList.length = s.size := by simp
  have HC := hideT' (ldRead_all 60 s 1 w (by omega) hs (by decide))
  have HA : Hid (ansM s.data.toList = match rdM 60 s.data.toList with | none => none | some (t, n) => if n = s.size ∧ t.txt = s.data.toList then some t else none) := by unfold Hid ansM; rw [e2]; cases rdM 60 s.data.toList <;> rfl
  have HLN : Hid (∀ t n, rdM 60 s.data.toList = some (t, n) → 0 < n ∧ t.txt.length ≤ 10000000 ∧ t.ok = true) := fun t n h => by have := rdM_len _ _ _ _ h; exact ⟨this.1, by omega, this.2.2.2⟩
  unfold ansT
  clear e2
  go_enter Tryd.func21, Tryd.ntmps21
  go_wp2_with fail
  refine HC.out.mono ?_
  rintro e w1 ⟨hans, hB1⟩
  have HB1 := hideT' hB1
  clear hB1
  rcases hans with ⟨hn, k, x, q, m, c, rfl⟩ | ⟨t, n, z, ho, rfl, hz1⟩
  · have HN : Hid (ansM s.data.toList = none) := by unfold Hid; rw [HA.out, hn]
    have HB2 : Hid (Below w.heap.size w (w1.alloc (.cells #[.int .i64 k, .int .i64 x, .slice q m c] 70))) := HB1.out.alloc HB1.out.size _
    unfold lcC
    clear hn
    go_wp2
    go_ret2
    exact ⟨TOut.bad (by rw [HN.out]; rfl), HB2.out⟩
  · obtain ⟨hn0, hlen, hok⟩ := HLN.out t n ho
    obtain ⟨oz, cz, hzz⟩ := hz1.form
    subst hzz
    have hn0b : ((n : Int) == 0) = false := by rw [beq_eq_false_iff_ne]; omega
    obtain ⟨W2, hW2⟩ : ∃ W2, W2 = w1.alloc (.cells #[.int .i64 t.kd, .int .i64 t.nm, .slice oz t.kids.length cz] 70) := ⟨_, rfl⟩
    have hB2 : Below w1.heap.size w1 W2 := by rw [hW2]; exact (Below.refl _ _).alloc (Nat.le_refl _) _
    have HB2 : Hid (Below w.heap.size w W2) := HB1.out.trans (hB2.mono HB1.out.size)
    by_cases hns : (n : Int) = (s.size : Int)
    · obtain rfl : n = s.size := by omega
      have hnsb : ((s.size : Int) == (s.size : Int)) = true := by simp
      have hnsn : ((s.size : Int) != (s.size : Int)) = false := by simp
      clear hns
      have hz2 : LcIn W2 (fun y => w.heap.size ≤ y) t (.slice oz t.kids.length cz) := LcIn.keep (w := w1) hB2.size (fun y _ hy => hB2.block y hy) (fun y hy _ => hy) hz1
      have HZ2 := hideT' hz2
      have HC2 := hideT' (ldText_any t hok hlen _ _ W2 hz2)
      have hRR : RowAt W2 w1.heap.size 70 #[.int .i64 t.kd, .int .i64 t.nm, .slice oz t.kids.length cz] := by rw [hW2]; exact RowAt.new _ _ _
      have HRR := hideT' hRR
      obtain ⟨x, hx⟩ : ∃ x : ByteArray, x = ⟨t.txt.toArray⟩ := ⟨_, rfl⟩
      rw [← hx] at HC2
      have hxl : x.data.toList = t.txt := by rw [hx]
      have hnn : s.size = s.size := rfl
      have hs2 := hB2.size
      have hlt1 : w1.heap.size < W2.heap.size := HRR.out.lt
      unfold lcC at HC2 ⊢
      clear hz1 hz2 hB2 hx hlen hok hRR
      by_cases hxe : x = s
      · have HN : Hid (ansM s.data.toList = some t) := by unfold Hid; rw [HA.out, ho]; simp only; rw [if_pos (by refine ⟨?_, by rw [← hxl, hxe]⟩; first | trivial | rfl)]
        have hxeb : (x.toList == s.toList) = true := by rw [hxe]; simp
        have hxen : (x.toList != s.toList) = false := by rw [bne, hxeb]; rfl
        clear ho hxl hxe hnn
        go_wp2_with fail
        rw [← hW2]
        refine HC2.out.mono ?_
        rintro e w3 ⟨rfl, hB3⟩
        have HB3 : Hid (Below w.heap.size w w3) := HB2.out.trans (hB3.mono HB2.out.size)
        have hR3 : RowAt w3 w1.heap.size 70 #[.int .i64 t.kd, .int .i64 t.nm, .slice oz t.kids.length cz] := HRR.out.below hB3 (by omega)
        have c0 : w3.cell? ⟨w1.heap.size, 0, none⟩ = some (.int .i64 t.kd) := by rw [cell_of_row _ _ _ _ _ _ hR3]; rfl
        have c1 : w3.cell? ⟨w1.heap.size, 1, none⟩ = some (.int .i64 t.nm) := by rw [cell_of_row _ _ _ _ _ _ hR3]; rfl
        have c2 : w3.cell? ⟨w1.heap.size, 2, none⟩ = some (.slice oz t.kids.length cz) := by rw [cell_of_row _ _ _ _ _ _ hR3]; rfl
        have HC3 := hideT' (lcTold_any t (.slice oz t.kids.length cz) _ w3 (HZ2.out.below hB3))
        unfold lcC at HC3
        clear hB3 hR3 hW2
        go_wp2_with fail
        refine HC3.out.mono ?_
        rintro e w4 ⟨hT2, hB4⟩
        have HB4 : Hid (Below w.heap.size w w4) := HB3.out.trans (hB4.mono HB3.out.size)
        have hO := hT2.out (w := w) (o := ansM s.data.toList) HB3.out.size HN.out
        obtain ⟨u, he, hOw⟩ := hT2.parts
        subst he
        have HO := hideT' hO
        clear hT2 hB4 hO hOw
        go_wp2
        go_ret2
        exact ⟨TOut.chk HO.out, HB4.out⟩
      · have hne : x.data.toList ≠ s.data.toList := fun e => hxe (WideShapes.bytes_inj e)
        have HN : Hid (ansM s.data.toList = none) := by unfold Hid; rw [HA.out, ho]; simp only; rw [if_neg (by rintro ⟨_, h⟩; exact hne (by rw [hxl]; exact h))]
        have hxeb : (x.toList == s.toList) = false := by rw [ByteArray.toList_eq, ByteArray.toList_eq]; simpa using hne
        have hxen : (x.toList != s.toList) = true := by rw [bne, hxeb]; rfl
        clear ho hxl hxe hnn hne
        go_wp2_with fail
        rw [← hW2]
        refine HC2.out.mono ?_
        rintro e w3 ⟨rfl, hB3⟩
        have HB3 : Hid (Below w.heap.size w w3) := HB2.out.trans (hB3.mono HB2.out.size)
        clear hB3 hW2
        go_wp2
        go_ret2
        exact ⟨TOut.bad (by rw [HN.out]; rfl), HB3.out⟩
    · have hnsb : ((n : Int) == (s.size : Int)) = false := by rw [beq_eq_false_iff_ne]; exact hns
      have hnsn : ((n : Int) != (s.size : Int)) = true := by rw [bne, hnsb]; rfl
      have HN : Hid (ansM s.data.toList = none) := by unfold Hid; rw [HA.out, ho]; simp only; rw [if_neg (by rintro ⟨h, _⟩; exact hns (by rw [h]))]
      unfold lcC
      clear ho hz1 hB2 hlen hok
      go_wp2
      go_ret2
      exact ⟨TOut.bad (by rw [HN.out]; rfl), by rw [← hW2]; exact HB2.out⟩
end Go.Proofs.YtgolfbjfopoeeaaDoor.CB
