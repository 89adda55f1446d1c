/-
  What operations and IsPrimitive of impl answer.
-/
import Derived.Test.YtjgpjafndaikcaaGreatDoorKw
import Derived.MapKept
import Derived.WideMake
import Derived.Deep.WholeRow
namespace Go.Proofs.YtjgpjafndaikcaaGreatDoor
open Go.RowKit
set_option linter.unusedVariables false

theorem p_hide {p : Prop} (h : p) : Hid p := h

/-- A function value, whatever it is bound to. -/
def IsFn (v : Value) : Prop := ∃ f a b, v = .func f a b

set_option maxHeartbeats 1000000 in
theorem ofKind_any (k : Int) (w : World) : Calls Tryz.prog 46 #[.int .i64 k] w fun e w' => ∃ f a b, e = .returned (.func f a b) ∧ Below w.heap.size w w' := by
  have hmf : ∀ (fn : Fn) (first cap : Array Value) (w : World), (Instr.makeFunc fn first cap).run Tryz.prog w = .ok (.func fn first cap) w := fun _ _ _ _ => rfl
  go_enter Tryz.func46, Tryz.ntmps46
  go_wp2
  go_ret
  exact ⟨_, _, _, rfl, ((Below.refl _ _).alloc (Nat.le_refl _) _)⟩

set_option maxHeartbeats 1000000 in
theorem all_any (f : Fn) (a b : Array Value) (w : World) : Calls Tryz.prog 47 #[.func f a b] w fun e w' => ∃ f a b, e = .returned (.func f a b) ∧ Below w.heap.size w w' := by
  have hmf : ∀ (fn : Fn) (first cap : Array Value) (w : World), (Instr.makeFunc fn first cap).run Tryz.prog w = .ok (.func fn first cap) w := fun _ _ _ _ => rfl
  go_enter Tryz.func47, Tryz.ntmps47
  go_wp2
  go_ret
  exact ⟨_, _, _, rfl, ((Below.refl _ _).alloc (Nat.le_refl _) _)⟩

set_option maxHeartbeats 1000000 in
theorem whether_any (f : Fn) (a b : Array Value) (w : World) : Calls Tryz.prog 63 #[.func f a b] w fun e w' => ∃ f a b, e = .returned (.func f a b) ∧ Below w.heap.size w w' := by
  have hmf : ∀ (fn : Fn) (first cap : Array Value) (w : World), (Instr.makeFunc fn first cap).run Tryz.prog w = .ok (.func fn first cap) w := fun _ _ _ _ => rfl
  go_enter Tryz.func63, Tryz.ntmps63
  go_wp2
  go_ret
  exact ⟨_, _, _, rfl, ((Below.refl _ _).alloc (Nat.le_refl _) _)⟩

set_option maxHeartbeats 1000000 in
theorem both_any (f g : Fn) (a b c d : Array Value) (w : World) : Calls Tryz.prog 71 #[.func f a b, .func g c d] w fun e w' => ∃ f a b, e = .returned (.func f a b) ∧ Below w.heap.size w w' := by
  have hmf : ∀ (fn : Fn) (first cap : Array Value) (w : World), (Instr.makeFunc fn first cap).run Tryz.prog w = .ok (.func fn first cap) w := fun _ _ _ _ => rfl
  go_enter Tryz.func71, Tryz.ntmps71
  go_wp2
  go_ret
  exact ⟨_, _, _, rfl, (((Below.refl _ _).alloc (Nat.le_refl _) _).alloc (by simp) _)⟩

set_option maxHeartbeats 1000000 in
theorem inOrder_any (k l : Int) (w : World) : Calls Tryz.prog 52 #[.int .i64 k, .int .i64 l] w fun e w' => ∃ f a b, e = .returned (.func f a b) ∧ Below w.heap.size w w' := by
  have hmf : ∀ (fn : Fn) (first cap : Array Value) (w : World), (Instr.makeFunc fn first cap).run Tryz.prog w = .ok (.func fn first cap) w := fun _ _ _ _ => rfl
  go_enter Tryz.func52, Tryz.ntmps52
  go_wp2
  go_ret
  exact ⟨_, _, _, rfl, (((Below.refl _ _).alloc (Nat.le_refl _) _).alloc (by simp) _)⟩

theorem find_str (s : ByteArray) : ∀ (l : List MapEntry) (ks : List ByteArray) (i : Nat), l.map (·.key) = ks.map Value.string →
    (inL ks s = false → Instr.findNow .string (.string s) l i = some none) ∧ (inL ks s = true → ∃ j, ∃ e ∈ l, Instr.findNow .string (.string s) l i = some (some (j, e.val)))
  | [], ks, i, h => by
    cases ks with
    | nil => exact ⟨fun _ => rfl, fun h => by cases h⟩
    | cons k ks => simp at h
  | e :: l, [], i, h => by simp at h
  | e :: l, k :: ks, i, h => by
    simp only [List.map_cons, List.cons.injEq] at h
    obtain ⟨h1, h2⟩ := h
    have ih := find_str s l ks (i + 1) h2
    have hs : Instr.sameNow .string (.string s) e.key = some (s == k) := by rw [h1]; rfl
    by_cases hk : s = k
    · subst hk
      have hb : (s == s) = true := (MapKept.bytes_beq s s).2 rfl
      have hin : inL (s :: ks) s = true := by unfold inL; simp
      refine ⟨fun h => (by rw [hin] at h; cases h), fun _ => ⟨i, e, by simp, ?_⟩⟩
      unfold Instr.findNow
      rw [hs, hb]
    · have hb : (s == k) = false := by
        cases hh : (s == k) with
        | false => rfl
        | true => exact absurd ((MapKept.bytes_beq s k).1 hh) hk
      have hin : inL (k :: ks) s = inL ks s := by
        unfold inL
        rw [List.any_cons, tx_ne (fun e => hk e.symm), Bool.false_or]
      have hf : Instr.findNow .string (.string s) (e :: l) i = Instr.findNow .string (.string s) l (i + 1) := by
        conv => lhs; unfold Instr.findNow
        rw [hs, hb]
      rw [hin, hf]
      refine ⟨ih.1, fun h => ?_⟩
      obtain ⟨j, e', he, hj⟩ := ih.2 h
      exact ⟨j, e', List.mem_cons_of_mem _ he, hj⟩

/-- A map from texts to operations (four cells each). -/
def OpMap (w : World) (r : Nat) (ks : List ByteArray) : Prop :=
  ∃ es clock, w.heap[r]? = some (.map es clock) ∧ es.toList.map (·.key) = ks.map Value.string ∧ ∀ e ∈ es.toList, ∃ cs : Array Value, e.val = .agg cs ∧ cs.size = 4 ∧ cs.all (·.oneCell') = true

theorem OpMap.made (w : World) : OpMap (w.alloc (.map #[] 0)) w.heap.size [] := ⟨#[], 0, heap_alloc_new _ _, rfl, fun e h => by simp at h⟩
theorem OpMap.lt {w : World} {r : Nat} {ks : List ByteArray} (h : OpMap w r ks) : r < w.heap.size := by
  obtain ⟨es, c, h, _⟩ := h
  exact (Array.getElem?_eq_some_iff.1 h).1
theorem OpMap.below {w w' : World} {r B : Nat} {ks : List ByteArray} (h : OpMap w r ks) (hg : Below B w w') (hr : r < B) : OpMap w' r ks := by
  obtain ⟨es, c, h1, h2⟩ := h
  exact ⟨es, c, by rw [hg.block r hr]; exact h1, h2⟩

theorem op_one {a b c d : Value} (ha : a.oneCell' = true) (hb : b.oneCell' = true) (hc : c.oneCell' = true) (hd : d.oneCell' = true) : (#[a, b, c, d] : Array Value).all (·.oneCell') = true := by
  simp [ha, hb, hc, hd]

/-- The goal is a list's walk, and nothing else. -/
theorem wpList_id0 {ops : Array Oper} {rest : List Oper} {o : Oper} {a : Act} {w : World} {Q : Exit → Act → World → Prop} (h : wpList Tryz.prog ops Q (o :: rest) a w) : wpList Tryz.prog ops Q (o :: rest) a w := h

/-- One more operation. -/
theorem upd_op {w : World} (t : TypeId) (kt et : TypeId) (ht : Tryz.prog.underlying t = some (.map kt et)) (hkt : Tryz.prog.underlying kt = some .string) (r : Nat) (s : ByteArray) (cs : Array Value)
    (hs4 : cs.size = 4) (hone : cs.all (·.oneCell') = true) (ks : List ByteArray) (hM : OpMap w r ks) (hn0 : (ks.any fun x => x.data.toList == s.data.toList) = false) :
    ∃ w', (Instr.mapUpdate t (.map (some r)) (.string s) (.agg cs)).run Tryz.prog w = .ok () w' ∧ OpMap w' r (ks ++ [s]) ∧ w.grownBy w' (some r) ∧ w'.heap.size = w.heap.size := by
  have hn : inL ks s = false := by
    unfold inL
    simp only [ByteArray.toList_eq]
    exact hn0
  obtain ⟨es, clock, hb, hkeys, hvals⟩ := hM
  have hf := (find_str s es.toList ks 0 hkeys).1 hn
  have hc : (Instr.checkKey false 10000 kt (.string s)).run Tryz.prog w = .ok () w := MapKept.run_checkKey (k := .string s) hkt (by simp [MapKept.IsKey]) false 9999
  refine ⟨{ w with heap := w.heap.setIfInBounds r (.map (es.push { key := .string s, val := .agg cs, born := clock }) (clock + 1)) }, ?_, ?_, ⟨rfl, rfl, rfl, by simp, fun j _ hne => ?_⟩, by simp⟩
  · simp [Instr.mapUpdate, run_underlying ht, MapKept.run_getObj_map hb, hc, MapKept.run_findKey hkt hf, MapKept.run_setObj_map _ hb, Result.andThen]
  · refine ⟨es.push { key := .string s, val := .agg cs, born := clock }, clock + 1, (MapKept.heap_set hb).1, by simp [hkeys], fun e he => ?_⟩
    simp only [Array.toList_push, List.mem_append, List.mem_singleton] at he
    rcases he with he | rfl
    · exact hvals e he
    · exact ⟨cs, rfl, hs4, hone⟩
  · exact (MapKept.heap_set hb).2 j (fun e => hne (by rw [e]))

/-- The names of the primitives. -/
def opL : List ByteArray := [⟨#[43]⟩, ⟨#[42]⟩, ⟨#[45]⟩, ⟨#[47]⟩, ⟨#[61]⟩, ⟨#[60]⟩, ⟨#[62]⟩, ⟨#[60, 61]⟩, ⟨#[62, 61]⟩, ⟨#[113, 117, 111, 116, 105, 101, 110, 116]⟩, ⟨#[114, 101, 109, 97, 105, 110, 100, 101, 114]⟩, ⟨#[102, 108, 111, 111, 114]⟩, ⟨#[99, 111, 110, 115]⟩, ⟨#[99, 97, 114]⟩, ⟨#[99, 100, 114]⟩, ⟨#[108, 105, 115, 116]⟩, ⟨#[110, 117, 108, 108, 63]⟩, ⟨#[112, 97, 105, 114, 63]⟩, ⟨#[110, 117, 109, 98, 101, 114, 63]⟩, ⟨#[115, 121, 109, 98, 111, 108, 63]⟩, ⟨#[115, 116, 114, 105, 110, 103, 63]⟩, ⟨#[98, 111, 111, 108, 101, 97, 110, 63]⟩, ⟨#[112, 114, 111, 99, 101, 100, 117, 114, 101, 63]⟩, ⟨#[110, 111, 116]⟩, ⟨#[101, 113, 63]⟩, ⟨#[101, 113, 117, 97, 108, 63]⟩, ⟨#[108, 101, 110, 103, 116, 104]⟩, ⟨#[97, 112, 112, 101, 110, 100]⟩, ⟨#[114, 101, 118, 101, 114, 115, 101]⟩, ⟨#[100, 105, 115, 112, 108, 97, 121]⟩, ⟨#[119, 114, 105, 116, 101]⟩, ⟨#[110, 101, 119, 108, 105, 110, 101]⟩, ⟨#[97, 112, 112, 108, 121]⟩, ⟨#[99, 97, 108, 108, 47, 99, 99]⟩]

theorem zero_op : (∀ w, (zeroValue 56).run Tryz.prog w = .ok (.agg #[.int .i64 0, .int .i64 0, .nilFunc, .nilFunc]) w) ∧ (Tryz.prog.info? 56).map (·.size) = some 4 := zero_of_info (by kernel_rfl)

set_option maxHeartbeats 20000000 in
set_option maxRecDepth 100000 in
theorem operations_any (w : World) : Calls Tryz.prog 35 #[] w fun e w' => ∃ r, e = .returned (.map (some r)) ∧ OpMap w' r opL ∧ w.heap.size ≤ r ∧ Below w.heap.size w w' := by
  have hmm := @run_makeMap Tryz.prog
  have hz := zero_op.1
  go_enter Tryz.func35, Tryz.ntmps35
  go_wp2_with fail
  refine (ofKind_any _ _).mono ?_
  rintro e w1 ⟨f1, a1, b1, rfl, g1⟩
  have B1 : Below w.heap.size w w1 := g1
  have s1 := B1.size
  have M1 := OpMap.made w1
  have C1 : Below w.heap.size w (w1.alloc (.map #[] 0)) := B1.alloc s1 _
  have lr : w1.heap.size < (w1.alloc (.map #[] 0)).heap.size := by simp
  have cs : w1.heap.size ≤ (w1.alloc (.map #[] 0)).heap.size := by simp
  clear g1 B1
  go_wp2_with fail
  refine (all_any _ _ _ _).mono ?_
  rintro e w2 ⟨f2, a2, b2, rfl, g2⟩
  have M2 := M1.below g2 (by first | exact lr | omega)
  have C2 : Below w.heap.size w w2 := C1.trans (g2.mono (by first | exact Nat.le_trans s1 cs | omega))
  have t2 := C2.size
  have u2 := M2.lt
  clear g2 M1 C1
  obtain ⟨v1, q1, N1, h1, z1⟩ := upd_op 58 9 56 Tryz.underlying58 Tryz.underlying9 w1.heap.size ⟨#[43]⟩ #[.int .i64 0, .int .i64 9223372036854775807, .func f2 a2 b2, .func (Fn.func 48) #[] #[]] rfl (op_one rfl rfl rfl rfl) _ M2 (by decide)
  go_wp2_with fail
  clear q1
  have D1 : Below w.heap.size w v1 := C2.grown h1 (by omega) (by intro k hk; cases hk; omega)
  have p1 : w1.heap.size < v1.heap.size := by omega
  clear h1 M2 C2
  refine (all_any _ _ _ _).mono ?_
  rintro e w3 ⟨f3, a3, b3, rfl, g3⟩
  have M3 := N1.below g3 (by first | exact lr | omega)
  have C3 : Below w.heap.size w w3 := D1.trans (g3.mono (by first | exact Nat.le_trans s1 cs | omega))
  have t3 := C3.size
  have u3 := M3.lt
  clear g3 N1 D1
  obtain ⟨v2, q2, N2, h2, z2⟩ := upd_op 58 9 56 Tryz.underlying58 Tryz.underlying9 w1.heap.size ⟨#[42]⟩ #[.int .i64 0, .int .i64 9223372036854775807, .func f3 a3 b3, .func (Fn.func 49) #[] #[]] rfl (op_one rfl rfl rfl rfl) _ M3 (by decide)
  go_wp2_with fail
  clear q2
  have D2 : Below w.heap.size w v2 := C3.grown h2 (by omega) (by intro k hk; cases hk; omega)
  have p2 : w1.heap.size < v2.heap.size := by omega
  clear h2 M3 C3
  refine (all_any _ _ _ _).mono ?_
  rintro e w4 ⟨f4, a4, b4, rfl, g4⟩
  have M4 := N2.below g4 (by first | exact lr | omega)
  have C4 : Below w.heap.size w w4 := D2.trans (g4.mono (by first | exact Nat.le_trans s1 cs | omega))
  have t4 := C4.size
  have u4 := M4.lt
  clear g4 N2 D2
  obtain ⟨v3, q3, N3, h3, z3⟩ := upd_op 58 9 56 Tryz.underlying58 Tryz.underlying9 w1.heap.size ⟨#[45]⟩ #[.int .i64 1, .int .i64 9223372036854775807, .func f4 a4 b4, .func (Fn.func 50) #[] #[]] rfl (op_one rfl rfl rfl rfl) _ M4 (by decide)
  go_wp2_with fail
  clear q3
  have D3 : Below w.heap.size w v3 := C4.grown h3 (by omega) (by intro k hk; cases hk; omega)
  have p3 : w1.heap.size < v3.heap.size := by omega
  clear h3 M4 C4
  refine (all_any _ _ _ _).mono ?_
  rintro e w5 ⟨f5, a5, b5, rfl, g5⟩
  have M5 := N3.below g5 (by first | exact lr | omega)
  have C5 : Below w.heap.size w w5 := D3.trans (g5.mono (by first | exact Nat.le_trans s1 cs | omega))
  have t5 := C5.size
  have u5 := M5.lt
  clear g5 N3 D3
  obtain ⟨v4, q4, N4, h4, z4⟩ := upd_op 58 9 56 Tryz.underlying58 Tryz.underlying9 w1.heap.size ⟨#[47]⟩ #[.int .i64 1, .int .i64 9223372036854775807, .func f5 a5 b5, .func (Fn.func 51) #[] #[]] rfl (op_one rfl rfl rfl rfl) _ M5 (by decide)
  go_wp2_with fail
  clear q4
  have D4 : Below w.heap.size w v4 := C5.grown h4 (by omega) (by intro k hk; cases hk; omega)
  have p4 : w1.heap.size < v4.heap.size := by omega
  clear h4 M5 C5
  refine (all_any _ _ _ _).mono ?_
  rintro e w6 ⟨f6, a6, b6, rfl, g6⟩
  have M6 := N4.below g6 (by first | exact lr | omega)
  have C6 : Below w.heap.size w w6 := D4.trans (g6.mono (by first | exact Nat.le_trans s1 cs | omega))
  have t6 := C6.size
  have u6 := M6.lt
  clear g6 N4 D4
  go_wp2_with fail
  refine (inOrder_any _ _ _).mono ?_
  rintro e w7 ⟨f7, a7, b7, rfl, g7⟩
  have M7 := M6.below g7 (by first | exact lr | omega)
  have C7 : Below w.heap.size w w7 := C6.trans (g7.mono (by first | exact Nat.le_trans s1 cs | omega))
  have t7 := C7.size
  have u7 := M7.lt
  clear g7 M6 C6
  obtain ⟨v5, q5, N5, h5, z5⟩ := upd_op 58 9 56 Tryz.underlying58 Tryz.underlying9 w1.heap.size ⟨#[61]⟩ #[.int .i64 1, .int .i64 9223372036854775807, .func f6 a6 b6, .func f7 a7 b7] rfl (op_one rfl rfl rfl rfl) _ M7 (by decide)
  go_wp2_with fail
  clear q5
  have D5 : Below w.heap.size w v5 := C7.grown h5 (by omega) (by intro k hk; cases hk; omega)
  have p5 : w1.heap.size < v5.heap.size := by omega
  clear h5 M7 C7
  refine (all_any _ _ _ _).mono ?_
  rintro e w8 ⟨f8, a8, b8, rfl, g8⟩
  have M8 := N5.below g8 (by first | exact lr | omega)
  have C8 : Below w.heap.size w w8 := D5.trans (g8.mono (by first | exact Nat.le_trans s1 cs | omega))
  have t8 := C8.size
  have u8 := M8.lt
  clear g8 N5 D5
  go_wp2_with fail
  refine (inOrder_any _ _ _).mono ?_
  rintro e w9 ⟨f9, a9, b9, rfl, g9⟩
  have M9 := M8.below g9 (by first | exact lr | omega)
  have C9 : Below w.heap.size w w9 := C8.trans (g9.mono (by first | exact Nat.le_trans s1 cs | omega))
  have t9 := C9.size
  have u9 := M9.lt
  clear g9 M8 C8
  obtain ⟨v6, q6, N6, h6, z6⟩ := upd_op 58 9 56 Tryz.underlying58 Tryz.underlying9 w1.heap.size ⟨#[60]⟩ #[.int .i64 1, .int .i64 9223372036854775807, .func f8 a8 b8, .func f9 a9 b9] rfl (op_one rfl rfl rfl rfl) _ M9 (by decide)
  go_wp2_with fail
  clear q6
  have D6 : Below w.heap.size w v6 := C9.grown h6 (by omega) (by intro k hk; cases hk; omega)
  have p6 : w1.heap.size < v6.heap.size := by omega
  clear h6 M9 C9
  refine (all_any _ _ _ _).mono ?_
  rintro e w10 ⟨f10, a10, b10, rfl, g10⟩
  have M10 := N6.below g10 (by first | exact lr | omega)
  have C10 : Below w.heap.size w w10 := D6.trans (g10.mono (by first | exact Nat.le_trans s1 cs | omega))
  have t10 := C10.size
  have u10 := M10.lt
  clear g10 N6 D6
  go_wp2_with fail
  refine (inOrder_any _ _ _).mono ?_
  rintro e w11 ⟨f11, a11, b11, rfl, g11⟩
  have M11 := M10.below g11 (by first | exact lr | omega)
  have C11 : Below w.heap.size w w11 := C10.trans (g11.mono (by first | exact Nat.le_trans s1 cs | omega))
  have t11 := C11.size
  have u11 := M11.lt
  clear g11 M10 C10
  obtain ⟨v7, q7, N7, h7, z7⟩ := upd_op 58 9 56 Tryz.underlying58 Tryz.underlying9 w1.heap.size ⟨#[62]⟩ #[.int .i64 1, .int .i64 9223372036854775807, .func f10 a10 b10, .func f11 a11 b11] rfl (op_one rfl rfl rfl rfl) _ M11 (by decide)
  go_wp2_with fail
  clear q7
  have D7 : Below w.heap.size w v7 := C11.grown h7 (by omega) (by intro k hk; cases hk; omega)
  have p7 : w1.heap.size < v7.heap.size := by omega
  clear h7 M11 C11
  refine (all_any _ _ _ _).mono ?_
  rintro e w12 ⟨f12, a12, b12, rfl, g12⟩
  have M12 := N7.below g12 (by first | exact lr | omega)
  have C12 : Below w.heap.size w w12 := D7.trans (g12.mono (by first | exact Nat.le_trans s1 cs | omega))
  have t12 := C12.size
  have u12 := M12.lt
  clear g12 N7 D7
  go_wp2_with fail
  refine (inOrder_any _ _ _).mono ?_
  rintro e w13 ⟨f13, a13, b13, rfl, g13⟩
  have M13 := M12.below g13 (by first | exact lr | omega)
  have C13 : Below w.heap.size w w13 := C12.trans (g13.mono (by first | exact Nat.le_trans s1 cs | omega))
  have t13 := C13.size
  have u13 := M13.lt
  clear g13 M12 C12
  obtain ⟨v8, q8, N8, h8, z8⟩ := upd_op 58 9 56 Tryz.underlying58 Tryz.underlying9 w1.heap.size ⟨#[60, 61]⟩ #[.int .i64 1, .int .i64 9223372036854775807, .func f12 a12 b12, .func f13 a13 b13] rfl (op_one rfl rfl rfl rfl) _ M13 (by decide)
  go_wp2_with fail
  clear q8
  have D8 : Below w.heap.size w v8 := C13.grown h8 (by omega) (by intro k hk; cases hk; omega)
  have p8 : w1.heap.size < v8.heap.size := by omega
  clear h8 M13 C13
  refine (all_any _ _ _ _).mono ?_
  rintro e w14 ⟨f14, a14, b14, rfl, g14⟩
  have M14 := N8.below g14 (by first | exact lr | omega)
  have C14 : Below w.heap.size w w14 := D8.trans (g14.mono (by first | exact Nat.le_trans s1 cs | omega))
  have t14 := C14.size
  have u14 := M14.lt
  clear g14 N8 D8
  go_wp2_with fail
  refine (inOrder_any _ _ _).mono ?_
  rintro e w15 ⟨f15, a15, b15, rfl, g15⟩
  have M15 := M14.below g15 (by first | exact lr | omega)
  have C15 : Below w.heap.size w w15 := C14.trans (g15.mono (by first | exact Nat.le_trans s1 cs | omega))
  have t15 := C15.size
  have u15 := M15.lt
  clear g15 M14 C14
  obtain ⟨v9, q9, N9, h9, z9⟩ := upd_op 58 9 56 Tryz.underlying58 Tryz.underlying9 w1.heap.size ⟨#[62, 61]⟩ #[.int .i64 1, .int .i64 9223372036854775807, .func f14 a14 b14, .func f15 a15 b15] rfl (op_one rfl rfl rfl rfl) _ M15 (by decide)
  go_wp2_with fail
  clear q9
  have D9 : Below w.heap.size w v9 := C15.grown h9 (by omega) (by intro k hk; cases hk; omega)
  have p9 : w1.heap.size < v9.heap.size := by omega
  clear h9 M15 C15
  refine (all_any _ _ _ _).mono ?_
  rintro e w16 ⟨f16, a16, b16, rfl, g16⟩
  have M16 := N9.below g16 (by first | exact lr | omega)
  have C16 : Below w.heap.size w w16 := D9.trans (g16.mono (by first | exact Nat.le_trans s1 cs | omega))
  have t16 := C16.size
  have u16 := M16.lt
  clear g16 N9 D9
  obtain ⟨v10, q10, N10, h10, z10⟩ := upd_op 58 9 56 Tryz.underlying58 Tryz.underlying9 w1.heap.size ⟨#[113, 117, 111, 116, 105, 101, 110, 116]⟩ #[.int .i64 2, .int .i64 2, .func f16 a16 b16, .func (Fn.func 54) #[] #[]] rfl (op_one rfl rfl rfl rfl) _ M16 (by decide)
  go_wp2_with fail
  clear q10
  have D10 : Below w.heap.size w v10 := C16.grown h10 (by omega) (by intro k hk; cases hk; omega)
  have p10 : w1.heap.size < v10.heap.size := by omega
  clear h10 M16 C16
  refine (all_any _ _ _ _).mono ?_
  rintro e w17 ⟨f17, a17, b17, rfl, g17⟩
  have M17 := N10.below g17 (by first | exact lr | omega)
  have C17 : Below w.heap.size w w17 := D10.trans (g17.mono (by first | exact Nat.le_trans s1 cs | omega))
  have t17 := C17.size
  have u17 := M17.lt
  clear g17 N10 D10
  obtain ⟨v11, q11, N11, h11, z11⟩ := upd_op 58 9 56 Tryz.underlying58 Tryz.underlying9 w1.heap.size ⟨#[114, 101, 109, 97, 105, 110, 100, 101, 114]⟩ #[.int .i64 2, .int .i64 2, .func f17 a17 b17, .func (Fn.func 55) #[] #[]] rfl (op_one rfl rfl rfl rfl) _ M17 (by decide)
  go_wp2_with fail
  clear q11
  have D11 : Below w.heap.size w v11 := C17.grown h11 (by omega) (by intro k hk; cases hk; omega)
  have p11 : w1.heap.size < v11.heap.size := by omega
  clear h11 M17 C17
  refine (all_any _ _ _ _).mono ?_
  rintro e w18 ⟨f18, a18, b18, rfl, g18⟩
  have M18 := N11.below g18 (by first | exact lr | omega)
  have C18 : Below w.heap.size w w18 := D11.trans (g18.mono (by first | exact Nat.le_trans s1 cs | omega))
  have t18 := C18.size
  have u18 := M18.lt
  clear g18 N11 D11
  obtain ⟨v12, q12, N12, h12, z12⟩ := upd_op 58 9 56 Tryz.underlying58 Tryz.underlying9 w1.heap.size ⟨#[102, 108, 111, 111, 114]⟩ #[.int .i64 1, .int .i64 1, .func f18 a18 b18, .func (Fn.func 56) #[] #[]] rfl (op_one rfl rfl rfl rfl) _ M18 (by decide)
  go_wp2_with fail
  clear q12
  have D12 : Below w.heap.size w v12 := C18.grown h12 (by omega) (by intro k hk; cases hk; omega)
  have p12 : w1.heap.size < v12.heap.size := by omega
  clear h12 M18 C18
  refine (all_any _ _ _ _).mono ?_
  rintro e w19 ⟨f19, a19, b19, rfl, g19⟩
  have M19 := N12.below g19 (by first | exact lr | omega)
  have C19 : Below w.heap.size w w19 := D12.trans (g19.mono (by first | exact Nat.le_trans s1 cs | omega))
  have t19 := C19.size
  have u19 := M19.lt
  clear g19 N12 D12
  obtain ⟨v13, q13, N13, h13, z13⟩ := upd_op 58 9 56 Tryz.underlying58 Tryz.underlying9 w1.heap.size ⟨#[99, 111, 110, 115]⟩ #[.int .i64 2, .int .i64 2, .func f19 a19 b19, .func (Fn.func 58) #[] #[]] rfl (op_one rfl rfl rfl rfl) _ M19 (by decide)
  go_wp2_with fail
  clear q13
  have D13 : Below w.heap.size w v13 := C19.grown h13 (by omega) (by intro k hk; cases hk; omega)
  have p13 : w1.heap.size < v13.heap.size := by omega
  clear h13 M19 C19
  refine (all_any _ _ _ _).mono ?_
  rintro e w20 ⟨f20, a20, b20, rfl, g20⟩
  have M20 := N13.below g20 (by first | exact lr | omega)
  have C20 : Below w.heap.size w w20 := D13.trans (g20.mono (by first | exact Nat.le_trans s1 cs | omega))
  have t20 := C20.size
  have u20 := M20.lt
  clear g20 N13 D13
  obtain ⟨v14, q14, N14, h14, z14⟩ := upd_op 58 9 56 Tryz.underlying58 Tryz.underlying9 w1.heap.size ⟨#[99, 97, 114]⟩ #[.int .i64 1, .int .i64 1, .func f20 a20 b20, .func (Fn.func 60) #[] #[]] rfl (op_one rfl rfl rfl rfl) _ M20 (by decide)
  go_wp2_with fail
  clear q14
  have D14 : Below w.heap.size w v14 := C20.grown h14 (by omega) (by intro k hk; cases hk; omega)
  have p14 : w1.heap.size < v14.heap.size := by omega
  clear h14 M20 C20
  refine (all_any _ _ _ _).mono ?_
  rintro e w21 ⟨f21, a21, b21, rfl, g21⟩
  have M21 := N14.below g21 (by first | exact lr | omega)
  have C21 : Below w.heap.size w w21 := D14.trans (g21.mono (by first | exact Nat.le_trans s1 cs | omega))
  have t21 := C21.size
  have u21 := M21.lt
  clear g21 N14 D14
  obtain ⟨v15, q15, N15, h15, z15⟩ := upd_op 58 9 56 Tryz.underlying58 Tryz.underlying9 w1.heap.size ⟨#[99, 100, 114]⟩ #[.int .i64 1, .int .i64 1, .func f21 a21 b21, .func (Fn.func 61) #[] #[]] rfl (op_one rfl rfl rfl rfl) _ M21 (by decide)
  go_wp2_with fail
  clear q15
  have D15 : Below w.heap.size w v15 := C21.grown h15 (by omega) (by intro k hk; cases hk; omega)
  have p15 : w1.heap.size < v15.heap.size := by omega
  clear h15 M21 C21
  refine (all_any _ _ _ _).mono ?_
  rintro e w22 ⟨f22, a22, b22, rfl, g22⟩
  have M22 := N15.below g22 (by first | exact lr | omega)
  have C22 : Below w.heap.size w w22 := D15.trans (g22.mono (by first | exact Nat.le_trans s1 cs | omega))
  have t22 := C22.size
  have u22 := M22.lt
  clear g22 N15 D15
  obtain ⟨v16, q16, N16, h16, z16⟩ := upd_op 58 9 56 Tryz.underlying58 Tryz.underlying9 w1.heap.size ⟨#[108, 105, 115, 116]⟩ #[.int .i64 0, .int .i64 9223372036854775807, .func f22 a22 b22, .func (Fn.func 62) #[] #[]] rfl (op_one rfl rfl rfl rfl) _ M22 (by decide)
  go_wp2_with fail
  clear q16
  have D16 : Below w.heap.size w v16 := C22.grown h16 (by omega) (by intro k hk; cases hk; omega)
  have p16 : w1.heap.size < v16.heap.size := by omega
  clear h16 M22 C22
  refine (all_any _ _ _ _).mono ?_
  rintro e w23 ⟨f23, a23, b23, rfl, g23⟩
  have M23 := N16.below g23 (by first | exact lr | omega)
  have C23 : Below w.heap.size w w23 := D16.trans (g23.mono (by first | exact Nat.le_trans s1 cs | omega))
  have t23 := C23.size
  have u23 := M23.lt
  clear g23 N16 D16
  go_wp2_with fail
  refine (whether_any _ _ _ _).mono ?_
  rintro e w24 ⟨f24, a24, b24, rfl, g24⟩
  have M24 := M23.below g24 (by first | exact lr | omega)
  have C24 : Below w.heap.size w w24 := C23.trans (g24.mono (by first | exact Nat.le_trans s1 cs | omega))
  have t24 := C24.size
  have u24 := M24.lt
  clear g24 M23 C23
  obtain ⟨v17, q17, N17, h17, z17⟩ := upd_op 58 9 56 Tryz.underlying58 Tryz.underlying9 w1.heap.size ⟨#[110, 117, 108, 108, 63]⟩ #[.int .i64 1, .int .i64 1, .func f23 a23 b23, .func f24 a24 b24] rfl (op_one rfl rfl rfl rfl) _ M24 (by decide)
  go_wp2_with fail
  clear q17
  have D17 : Below w.heap.size w v17 := C24.grown h17 (by omega) (by intro k hk; cases hk; omega)
  have p17 : w1.heap.size < v17.heap.size := by omega
  clear h17 M24 C24
  refine (all_any _ _ _ _).mono ?_
  rintro e w25 ⟨f25, a25, b25, rfl, g25⟩
  have M25 := N17.below g25 (by first | exact lr | omega)
  have C25 : Below w.heap.size w w25 := D17.trans (g25.mono (by first | exact Nat.le_trans s1 cs | omega))
  have t25 := C25.size
  have u25 := M25.lt
  clear g25 N17 D17
  go_wp2_with fail
  refine (whether_any _ _ _ _).mono ?_
  rintro e w26 ⟨f26, a26, b26, rfl, g26⟩
  have M26 := M25.below g26 (by first | exact lr | omega)
  have C26 : Below w.heap.size w w26 := C25.trans (g26.mono (by first | exact Nat.le_trans s1 cs | omega))
  have t26 := C26.size
  have u26 := M26.lt
  clear g26 M25 C25
  obtain ⟨v18, q18, N18, h18, z18⟩ := upd_op 58 9 56 Tryz.underlying58 Tryz.underlying9 w1.heap.size ⟨#[112, 97, 105, 114, 63]⟩ #[.int .i64 1, .int .i64 1, .func f25 a25 b25, .func f26 a26 b26] rfl (op_one rfl rfl rfl rfl) _ M26 (by decide)
  go_wp2_with fail
  clear q18
  have D18 : Below w.heap.size w v18 := C26.grown h18 (by omega) (by intro k hk; cases hk; omega)
  have p18 : w1.heap.size < v18.heap.size := by omega
  clear h18 M26 C26
  refine (all_any _ _ _ _).mono ?_
  rintro e w27 ⟨f27, a27, b27, rfl, g27⟩
  have M27 := N18.below g27 (by first | exact lr | omega)
  have C27 : Below w.heap.size w w27 := D18.trans (g27.mono (by first | exact Nat.le_trans s1 cs | omega))
  have t27 := C27.size
  have u27 := M27.lt
  clear g27 N18 D18
  go_wp2_with fail
  refine (whether_any _ _ _ _).mono ?_
  rintro e w28 ⟨f28, a28, b28, rfl, g28⟩
  have M28 := M27.below g28 (by first | exact lr | omega)
  have C28 : Below w.heap.size w w28 := C27.trans (g28.mono (by first | exact Nat.le_trans s1 cs | omega))
  have t28 := C28.size
  have u28 := M28.lt
  clear g28 M27 C27
  obtain ⟨v19, q19, N19, h19, z19⟩ := upd_op 58 9 56 Tryz.underlying58 Tryz.underlying9 w1.heap.size ⟨#[110, 117, 109, 98, 101, 114, 63]⟩ #[.int .i64 1, .int .i64 1, .func f27 a27 b27, .func f28 a28 b28] rfl (op_one rfl rfl rfl rfl) _ M28 (by decide)
  go_wp2_with fail
  clear q19
  have D19 : Below w.heap.size w v19 := C28.grown h19 (by omega) (by intro k hk; cases hk; omega)
  have p19 : w1.heap.size < v19.heap.size := by omega
  clear h19 M28 C28
  refine (all_any _ _ _ _).mono ?_
  rintro e w29 ⟨f29, a29, b29, rfl, g29⟩
  have M29 := N19.below g29 (by first | exact lr | omega)
  have C29 : Below w.heap.size w w29 := D19.trans (g29.mono (by first | exact Nat.le_trans s1 cs | omega))
  have t29 := C29.size
  have u29 := M29.lt
  clear g29 N19 D19
  go_wp2_with fail
  refine (ofKind_any _ _).mono ?_
  rintro e w30 ⟨f30, a30, b30, rfl, g30⟩
  have M30 := M29.below g30 (by first | exact lr | omega)
  have C30 : Below w.heap.size w w30 := C29.trans (g30.mono (by first | exact Nat.le_trans s1 cs | omega))
  have t30 := C30.size
  have u30 := M30.lt
  clear g30 M29 C29
  go_wp2_with fail
  refine (whether_any _ _ _ _).mono ?_
  rintro e w31 ⟨f31, a31, b31, rfl, g31⟩
  have M31 := M30.below g31 (by first | exact lr | omega)
  have C31 : Below w.heap.size w w31 := C30.trans (g31.mono (by first | exact Nat.le_trans s1 cs | omega))
  have t31 := C31.size
  have u31 := M31.lt
  clear g31 M30 C30
  obtain ⟨v20, q20, N20, h20, z20⟩ := upd_op 58 9 56 Tryz.underlying58 Tryz.underlying9 w1.heap.size ⟨#[115, 121, 109, 98, 111, 108, 63]⟩ #[.int .i64 1, .int .i64 1, .func f29 a29 b29, .func f31 a31 b31] rfl (op_one rfl rfl rfl rfl) _ M31 (by decide)
  go_wp2_with fail
  clear q20
  have D20 : Below w.heap.size w v20 := C31.grown h20 (by omega) (by intro k hk; cases hk; omega)
  have p20 : w1.heap.size < v20.heap.size := by omega
  clear h20 M31 C31
  refine (all_any _ _ _ _).mono ?_
  rintro e w32 ⟨f32, a32, b32, rfl, g32⟩
  have M32 := N20.below g32 (by first | exact lr | omega)
  have C32 : Below w.heap.size w w32 := D20.trans (g32.mono (by first | exact Nat.le_trans s1 cs | omega))
  have t32 := C32.size
  have u32 := M32.lt
  clear g32 N20 D20
  go_wp2_with fail
  refine (ofKind_any _ _).mono ?_
  rintro e w33 ⟨f33, a33, b33, rfl, g33⟩
  have M33 := M32.below g33 (by first | exact lr | omega)
  have C33 : Below w.heap.size w w33 := C32.trans (g33.mono (by first | exact Nat.le_trans s1 cs | omega))
  have t33 := C33.size
  have u33 := M33.lt
  clear g33 M32 C32
  go_wp2_with fail
  refine (whether_any _ _ _ _).mono ?_
  rintro e w34 ⟨f34, a34, b34, rfl, g34⟩
  have M34 := M33.below g34 (by first | exact lr | omega)
  have C34 : Below w.heap.size w w34 := C33.trans (g34.mono (by first | exact Nat.le_trans s1 cs | omega))
  have t34 := C34.size
  have u34 := M34.lt
  clear g34 M33 C33
  obtain ⟨v21, q21, N21, h21, z21⟩ := upd_op 58 9 56 Tryz.underlying58 Tryz.underlying9 w1.heap.size ⟨#[115, 116, 114, 105, 110, 103, 63]⟩ #[.int .i64 1, .int .i64 1, .func f32 a32 b32, .func f34 a34 b34] rfl (op_one rfl rfl rfl rfl) _ M34 (by decide)
  go_wp2_with fail
  clear q21
  have D21 : Below w.heap.size w v21 := C34.grown h21 (by omega) (by intro k hk; cases hk; omega)
  have p21 : w1.heap.size < v21.heap.size := by omega
  clear h21 M34 C34
  refine (all_any _ _ _ _).mono ?_
  rintro e w35 ⟨f35, a35, b35, rfl, g35⟩
  have M35 := N21.below g35 (by first | exact lr | omega)
  have C35 : Below w.heap.size w w35 := D21.trans (g35.mono (by first | exact Nat.le_trans s1 cs | omega))
  have t35 := C35.size
  have u35 := M35.lt
  clear g35 N21 D21
  go_wp2_with fail
  refine (ofKind_any _ _).mono ?_
  rintro e w36 ⟨f36, a36, b36, rfl, g36⟩
  have M36 := M35.below g36 (by first | exact lr | omega)
  have C36 : Below w.heap.size w w36 := C35.trans (g36.mono (by first | exact Nat.le_trans s1 cs | omega))
  have t36 := C36.size
  have u36 := M36.lt
  clear g36 M35 C35
  go_wp2_with fail
  refine (whether_any _ _ _ _).mono ?_
  rintro e w37 ⟨f37, a37, b37, rfl, g37⟩
  have M37 := M36.below g37 (by first | exact lr | omega)
  have C37 : Below w.heap.size w w37 := C36.trans (g37.mono (by first | exact Nat.le_trans s1 cs | omega))
  have t37 := C37.size
  have u37 := M37.lt
  clear g37 M36 C36
  obtain ⟨v22, q22, N22, h22, z22⟩ := upd_op 58 9 56 Tryz.underlying58 Tryz.underlying9 w1.heap.size ⟨#[98, 111, 111, 108, 101, 97, 110, 63]⟩ #[.int .i64 1, .int .i64 1, .func f35 a35 b35, .func f37 a37 b37] rfl (op_one rfl rfl rfl rfl) _ M37 (by decide)
  go_wp2_with fail
  clear q22
  have D22 : Below w.heap.size w v22 := C37.grown h22 (by omega) (by intro k hk; cases hk; omega)
  have p22 : w1.heap.size < v22.heap.size := by omega
  clear h22 M37 C37
  refine (all_any _ _ _ _).mono ?_
  rintro e w38 ⟨f38, a38, b38, rfl, g38⟩
  have M38 := N22.below g38 (by first | exact lr | omega)
  have C38 : Below w.heap.size w w38 := D22.trans (g38.mono (by first | exact Nat.le_trans s1 cs | omega))
  have t38 := C38.size
  have u38 := M38.lt
  clear g38 N22 D22
  go_wp2_with fail
  refine (whether_any _ _ _ _).mono ?_
  rintro e w39 ⟨f39, a39, b39, rfl, g39⟩
  have M39 := M38.below g39 (by first | exact lr | omega)
  have C39 : Below w.heap.size w w39 := C38.trans (g39.mono (by first | exact Nat.le_trans s1 cs | omega))
  have t39 := C39.size
  have u39 := M39.lt
  clear g39 M38 C38
  obtain ⟨v23, q23, N23, h23, z23⟩ := upd_op 58 9 56 Tryz.underlying58 Tryz.underlying9 w1.heap.size ⟨#[112, 114, 111, 99, 101, 100, 117, 114, 101, 63]⟩ #[.int .i64 1, .int .i64 1, .func f38 a38 b38, .func f39 a39 b39] rfl (op_one rfl rfl rfl rfl) _ M39 (by decide)
  go_wp2_with fail
  clear q23
  have D23 : Below w.heap.size w v23 := C39.grown h23 (by omega) (by intro k hk; cases hk; omega)
  have p23 : w1.heap.size < v23.heap.size := by omega
  clear h23 M39 C39
  refine (all_any _ _ _ _).mono ?_
  rintro e w40 ⟨f40, a40, b40, rfl, g40⟩
  have M40 := N23.below g40 (by first | exact lr | omega)
  have C40 : Below w.heap.size w w40 := D23.trans (g40.mono (by first | exact Nat.le_trans s1 cs | omega))
  have t40 := C40.size
  have u40 := M40.lt
  clear g40 N23 D23
  go_wp2_with fail
  refine (whether_any _ _ _ _).mono ?_
  rintro e w41 ⟨f41, a41, b41, rfl, g41⟩
  have M41 := M40.below g41 (by first | exact lr | omega)
  have C41 : Below w.heap.size w w41 := C40.trans (g41.mono (by first | exact Nat.le_trans s1 cs | omega))
  have t41 := C41.size
  have u41 := M41.lt
  clear g41 M40 C40
  obtain ⟨v24, q24, N24, h24, z24⟩ := upd_op 58 9 56 Tryz.underlying58 Tryz.underlying9 w1.heap.size ⟨#[110, 111, 116]⟩ #[.int .i64 1, .int .i64 1, .func f40 a40 b40, .func f41 a41 b41] rfl (op_one rfl rfl rfl rfl) _ M41 (by decide)
  go_wp2_with fail
  clear q24
  have D24 : Below w.heap.size w v24 := C41.grown h24 (by omega) (by intro k hk; cases hk; omega)
  have p24 : w1.heap.size < v24.heap.size := by omega
  clear h24 M41 C41
  refine (all_any _ _ _ _).mono ?_
  rintro e w42 ⟨f42, a42, b42, rfl, g42⟩
  have M42 := N24.below g42 (by first | exact lr | omega)
  have C42 : Below w.heap.size w w42 := D24.trans (g42.mono (by first | exact Nat.le_trans s1 cs | omega))
  have t42 := C42.size
  have u42 := M42.lt
  clear g42 N24 D24
  obtain ⟨v25, q25, N25, h25, z25⟩ := upd_op 58 9 56 Tryz.underlying58 Tryz.underlying9 w1.heap.size ⟨#[101, 113, 63]⟩ #[.int .i64 2, .int .i64 2, .func f42 a42 b42, .func (Fn.func 67) #[] #[]] rfl (op_one rfl rfl rfl rfl) _ M42 (by decide)
  go_wp2_with fail
  clear q25
  have D25 : Below w.heap.size w v25 := C42.grown h25 (by omega) (by intro k hk; cases hk; omega)
  have p25 : w1.heap.size < v25.heap.size := by omega
  clear h25 M42 C42
  refine (all_any _ _ _ _).mono ?_
  rintro e w43 ⟨f43, a43, b43, rfl, g43⟩
  have M43 := N25.below g43 (by first | exact lr | omega)
  have C43 : Below w.heap.size w w43 := D25.trans (g43.mono (by first | exact Nat.le_trans s1 cs | omega))
  have t43 := C43.size
  have u43 := M43.lt
  clear g43 N25 D25
  obtain ⟨v26, q26, N26, h26, z26⟩ := upd_op 58 9 56 Tryz.underlying58 Tryz.underlying9 w1.heap.size ⟨#[101, 113, 117, 97, 108, 63]⟩ #[.int .i64 2, .int .i64 2, .func f43 a43 b43, .func (Fn.func 68) #[] #[]] rfl (op_one rfl rfl rfl rfl) _ M43 (by decide)
  go_wp2_with fail
  clear q26
  have D26 : Below w.heap.size w v26 := C43.grown h26 (by omega) (by intro k hk; cases hk; omega)
  have p26 : w1.heap.size < v26.heap.size := by omega
  clear h26 M43 C43
  refine (all_any _ _ _ _).mono ?_
  rintro e w44 ⟨f44, a44, b44, rfl, g44⟩
  have M44 := N26.below g44 (by first | exact lr | omega)
  have C44 : Below w.heap.size w w44 := D26.trans (g44.mono (by first | exact Nat.le_trans s1 cs | omega))
  have t44 := C44.size
  have u44 := M44.lt
  clear g44 N26 D26
  obtain ⟨v27, q27, N27, h27, z27⟩ := upd_op 58 9 56 Tryz.underlying58 Tryz.underlying9 w1.heap.size ⟨#[108, 101, 110, 103, 116, 104]⟩ #[.int .i64 1, .int .i64 1, .func f44 a44 b44, .func (Fn.func 70) #[] #[]] rfl (op_one rfl rfl rfl rfl) _ M44 (by decide)
  go_wp2_with fail
  clear q27
  have D27 : Below w.heap.size w v27 := C44.grown h27 (by omega) (by intro k hk; cases hk; omega)
  have p27 : w1.heap.size < v27.heap.size := by omega
  clear h27 M44 C44
  refine (both_any _ _ _ _ _ _ _).mono ?_
  rintro e w45 ⟨f45, a45, b45, rfl, g45⟩
  have M45 := N27.below g45 (by first | exact lr | omega)
  have C45 : Below w.heap.size w w45 := D27.trans (g45.mono (by first | exact Nat.le_trans s1 cs | omega))
  have t45 := C45.size
  have u45 := M45.lt
  clear g45 N27 D27
  obtain ⟨v28, q28, N28, h28, z28⟩ := upd_op 58 9 56 Tryz.underlying58 Tryz.underlying9 w1.heap.size ⟨#[97, 112, 112, 101, 110, 100]⟩ #[.int .i64 2, .int .i64 2, .func f45 a45 b45, .func (Fn.func 72) #[] #[]] rfl (op_one rfl rfl rfl rfl) _ M45 (by decide)
  go_wp2_with fail
  clear q28
  have D28 : Below w.heap.size w v28 := C45.grown h28 (by omega) (by intro k hk; cases hk; omega)
  have p28 : w1.heap.size < v28.heap.size := by omega
  clear h28 M45 C45
  refine (all_any _ _ _ _).mono ?_
  rintro e w46 ⟨f46, a46, b46, rfl, g46⟩
  have M46 := N28.below g46 (by first | exact lr | omega)
  have C46 : Below w.heap.size w w46 := D28.trans (g46.mono (by first | exact Nat.le_trans s1 cs | omega))
  have t46 := C46.size
  have u46 := M46.lt
  clear g46 N28 D28
  obtain ⟨v29, q29, N29, h29, z29⟩ := upd_op 58 9 56 Tryz.underlying58 Tryz.underlying9 w1.heap.size ⟨#[114, 101, 118, 101, 114, 115, 101]⟩ #[.int .i64 1, .int .i64 1, .func f46 a46 b46, .func (Fn.func 73) #[] #[]] rfl (op_one rfl rfl rfl rfl) _ M46 (by decide)
  go_wp2_with fail
  clear q29
  have D29 : Below w.heap.size w v29 := C46.grown h29 (by omega) (by intro k hk; cases hk; omega)
  have p29 : w1.heap.size < v29.heap.size := by omega
  clear h29 M46 C46
  refine (all_any _ _ _ _).mono ?_
  rintro e w47 ⟨f47, a47, b47, rfl, g47⟩
  have M47 := N29.below g47 (by first | exact lr | omega)
  have C47 : Below w.heap.size w w47 := D29.trans (g47.mono (by first | exact Nat.le_trans s1 cs | omega))
  have t47 := C47.size
  have u47 := M47.lt
  clear g47 N29 D29
  obtain ⟨v30, q30, N30, h30, z30⟩ := upd_op 58 9 56 Tryz.underlying58 Tryz.underlying9 w1.heap.size ⟨#[100, 105, 115, 112, 108, 97, 121]⟩ #[.int .i64 1, .int .i64 1, .func f47 a47 b47, .func (Fn.func 74) #[] #[]] rfl (op_one rfl rfl rfl rfl) _ M47 (by decide)
  go_wp2_with fail
  clear q30
  have D30 : Below w.heap.size w v30 := C47.grown h30 (by omega) (by intro k hk; cases hk; omega)
  have p30 : w1.heap.size < v30.heap.size := by omega
  clear h30 M47 C47
  refine (all_any _ _ _ _).mono ?_
  rintro e w48 ⟨f48, a48, b48, rfl, g48⟩
  have M48 := N30.below g48 (by first | exact lr | omega)
  have C48 : Below w.heap.size w w48 := D30.trans (g48.mono (by first | exact Nat.le_trans s1 cs | omega))
  have t48 := C48.size
  have u48 := M48.lt
  clear g48 N30 D30
  obtain ⟨v31, q31, N31, h31, z31⟩ := upd_op 58 9 56 Tryz.underlying58 Tryz.underlying9 w1.heap.size ⟨#[119, 114, 105, 116, 101]⟩ #[.int .i64 1, .int .i64 1, .func f48 a48 b48, .func (Fn.func 75) #[] #[]] rfl (op_one rfl rfl rfl rfl) _ M48 (by decide)
  go_wp2_with fail
  clear q31
  have D31 : Below w.heap.size w v31 := C48.grown h31 (by omega) (by intro k hk; cases hk; omega)
  have p31 : w1.heap.size < v31.heap.size := by omega
  clear h31 M48 C48
  refine (all_any _ _ _ _).mono ?_
  rintro e w49 ⟨f49, a49, b49, rfl, g49⟩
  have M49 := N31.below g49 (by first | exact lr | omega)
  have C49 : Below w.heap.size w w49 := D31.trans (g49.mono (by first | exact Nat.le_trans s1 cs | omega))
  have t49 := C49.size
  have u49 := M49.lt
  clear g49 N31 D31
  obtain ⟨v32, q32, N32, h32, z32⟩ := upd_op 58 9 56 Tryz.underlying58 Tryz.underlying9 w1.heap.size ⟨#[110, 101, 119, 108, 105, 110, 101]⟩ #[.int .i64 0, .int .i64 0, .func f49 a49 b49, .func (Fn.func 76) #[] #[]] rfl (op_one rfl rfl rfl rfl) _ M49 (by decide)
  go_wp2_with fail
  clear q32
  have D32 : Below w.heap.size w v32 := C49.grown h32 (by omega) (by intro k hk; cases hk; omega)
  have p32 : w1.heap.size < v32.heap.size := by omega
  clear h32 M49 C49
  refine (both_any _ _ _ _ _ _ _).mono ?_
  rintro e w50 ⟨f50, a50, b50, rfl, g50⟩
  have M50 := N32.below g50 (by first | exact lr | omega)
  have C50 : Below w.heap.size w w50 := D32.trans (g50.mono (by first | exact Nat.le_trans s1 cs | omega))
  have t50 := C50.size
  have u50 := M50.lt
  clear g50 N32 D32
  obtain ⟨v33, q33, N33, h33, z33⟩ := upd_op 58 9 56 Tryz.underlying58 Tryz.underlying9 w1.heap.size ⟨#[97, 112, 112, 108, 121]⟩ #[.int .i64 2, .int .i64 2, .func f50 a50 b50, .nilFunc] rfl (op_one rfl rfl rfl rfl) _ M50 (by decide)
  go_wp2_with fail
  clear q33
  have D33 : Below w.heap.size w v33 := C50.grown h33 (by omega) (by intro k hk; cases hk; omega)
  have p33 : w1.heap.size < v33.heap.size := by omega
  clear h33 M50 C50
  refine (all_any _ _ _ _).mono ?_
  rintro e w51 ⟨f51, a51, b51, rfl, g51⟩
  have M51 := N33.below g51 (by first | exact lr | omega)
  have C51 : Below w.heap.size w w51 := D33.trans (g51.mono (by first | exact Nat.le_trans s1 cs | omega))
  have t51 := C51.size
  have u51 := M51.lt
  clear g51 N33 D33
  obtain ⟨v34, q34, N34, h34, z34⟩ := upd_op 58 9 56 Tryz.underlying58 Tryz.underlying9 w1.heap.size ⟨#[99, 97, 108, 108, 47, 99, 99]⟩ #[.int .i64 1, .int .i64 1, .func f51 a51 b51, .nilFunc] rfl (op_one rfl rfl rfl rfl) _ M51 (by decide)
  go_wp2_with fail
  clear q34
  have D34 : Below w.heap.size w v34 := C51.grown h34 (by omega) (by intro k hk; cases hk; omega)
  have p34 : w1.heap.size < v34.heap.size := by omega
  clear h34 M51 C51
  go_ret
  exact ⟨w1.heap.size, rfl, N34, s1, D34⟩
end Go.Proofs.YtjgpjafndaikcaaGreatDoor
