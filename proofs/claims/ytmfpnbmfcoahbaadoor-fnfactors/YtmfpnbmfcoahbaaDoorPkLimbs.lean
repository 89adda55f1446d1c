/-
  The texts Limbs, SpecCarry, one behind the other.
-/
import Derived.Test.YtmfpnbmfcoahbaaDoorPkGood
import Derived.Test.YtmfpnbmfcoahbaaDoorPkMath
import Derived.Deep.LoopGhost

/-
  What spec.l1Limbs answers: a number's text as parts of four digits, in new memory.
-/
namespace Go.Proofs.YtmfpnbmfcoahbaaDoor
open Go.RowKit
set_option linter.unusedVariables false

/-- Numbers as cells. -/
def ints (l : List Int) : List Value := l.map (Value.int .i64)
theorem ints_len (l : List Int) : (ints l).length = l.length := by simp [ints]

/-- After j rounds: the last 4 j digits lie in j parts. -/
structure Lot (s : List UInt8) (j : Nat) (l : List Int) : Prop where
  len : l.length = j
  bd : ∀ x ∈ l, 0 ≤ x ∧ x < 10000
  val : vb 10000 l = (dval (s.drop (s.length - 4 * j)) : Int)

theorem Lot.zero (s : List UInt8) : Lot s 0 [] := ⟨rfl, by simp, by simp [vb, dval]⟩

theorem sub_digs {l : List UInt8} (h : l.all isDig = true) (f e : Nat) : ((l.take e).drop f).all isDig = true := by
  rw [List.all_eq_true] at *
  intro x hx
  exact h x (List.mem_of_mem_take (List.mem_of_mem_drop hx))

theorem drop_part (l : List UInt8) (f e : Nat) (h : f ≤ e) (he : e ≤ l.length) : l.drop f = (l.take e).drop f ++ l.drop e := by
  conv => lhs; rw [← List.take_append_drop e l]
  rw [List.drop_append_of_le_length (by simp; omega)]

theorem part_more (l : List UInt8) (f a : Nat) (h : f ≤ a) (ha : a < l.length) (hd : l.all isDig = true) :
    (dval ((l.take (a + 1)).drop f) : Int) = 10 * dval ((l.take a).drop f) + (((l[a].toNat : Nat) : Int) - 48) := by
  rw [List.take_succ_eq_append_getElem ha, List.drop_append_of_le_length (by simp; omega), dval_snoc]
  have := isDig_bd (List.all_eq_true.1 hd l[a] (List.getElem_mem ha))
  unfold dv; omega
theorem part_empty (l : List UInt8) (f : Nat) : dval ((l.take f).drop f) = 0 := by
  rw [List.drop_take]; simp [dval]

theorem Lot.step {s : List UInt8} {j : Nat} {l : List Int} (h : Lot s j l) (hs : s.all isDig = true) (he : 4 * j < s.length) :
    Lot s (j + 1) (l ++ [(dval ((s.take (s.length - 4 * j)).drop (s.length - 4 * (j + 1))) : Int)]) := by
  have hd := sub_digs hs (s.length - 4 * (j + 1)) (s.length - 4 * j)
  have h1 := dval_lt _ hd
  have h2 : ((s.take (s.length - 4 * j)).drop (s.length - 4 * (j + 1))).length ≤ 4 := by simp; omega
  have h3 : 10 ^ ((s.take (s.length - 4 * j)).drop (s.length - 4 * (j + 1))).length ≤ 10 ^ 4 := Nat.pow_le_pow_right (by omega) h2
  refine ⟨by simp [h.len], fun x hx => ?_, ?_⟩
  · rcases List.mem_append.1 hx with hx | hx
    · exact h.bd x hx
    · simp only [List.mem_singleton] at hx; subst hx; omega
  · rw [vb_snoc, h.val, h.len, drop_part s (s.length - 4 * (j + 1)) (s.length - 4 * j) (by omega) (by omega), dval_append]
    have e2 : (s.drop (s.length - 4 * j)).length = 4 * j := by simp; omega
    rw [e2]
    have e3 : (10000 : Int) ^ j = ((10 ^ (4 * j) : Nat) : Int) := by rw [Nat.pow_mul]; simp
    rw [e3]
    simp only [Int.natCast_add, Int.natCast_mul]
    rw [Int.mul_comm]; omega

theorem one_cell (v : Int) : ∀ u ∈ [Value.int .i64 v], u.oneCell' = true := by
  intro u hu; simp at hu; subst hu; rfl
theorem own_ge {w : World} {B e n : Nat} {v : Value} {xs : List Value} (h : w.ownsRow B e 1 v n xs) {k : Nat} (hk : v.ownBlock = some k) : B ≤ k := by
  rcases h.2 with ⟨rfl, _⟩ | ⟨g, cap, cur, rfl, hg, _⟩
  · simp [Value.ownBlock] at hk
  · simp [Value.ownBlock] at hk; omega
theorem Tryd.info_int : (Tryd.prog.info? 3).map (fun i => (i.zero, i.size, i.bytes)) = some (some (.int .i64 0), 1, 8) := by kernel_rfl

set_option maxHeartbeats 1000000 in
set_option maxRecDepth 100000 in
theorem l1Limbs_any (s : ByteArray) (w : World) (hs : s.size ≤ 4000) (hall0 : s.data.toList.all isDig = true) :
    Calls Tryd.prog 75 #[.string s] w fun e w' => ∃ (v : Value) (l : List Int), e = .returned v ∧ w'.ownsRow w.heap.size 3 1 v l.length (ints l) ∧ s.size ≤ 4 * l.length ∧ 4 * l.length < s.size + 4 ∧ (∀ x ∈ l, 0 ≤ x ∧ x < 10000) ∧ vb 10000 l = (dval s.data.toList : Int) ∧ Below w.heap.size w w' := by
  have hall : Hid (s.data.toList.all isDig = true) := hall0
  have HL : Hid (s.data.toList.length = s.size) := by unfold Hid; simp
  clear hall0
  obtain ⟨i0, hi, hz0, hz1, hz2⟩ := info_parts Tryd.info_int
  go_enter Tryd.func75, Tryd.ntmps75
  go_wp2
  go_loopg [3, 4] (s.size) (fun g v x wr => ∃ (j : Nat) (l : List Int), g = s.size - j ∧ 4 * j < s.size + 4 ∧ x = .int .i64 ((s.size : Int) - 4 * (j : Int)) ∧ wr.ownsRow w.heap.size 3 1 v l.length (ints l) ∧ Lot s.data.toList j l ∧ Below w.heap.size w wr)
  case atStart => exact ⟨0, [], rfl, by omega, by simp, World.ownsRow_nil _ _ _ _, Lot.zero _, Below.refl _ _⟩
  case round =>
    obtain ⟨j, l, rfl, hj, rfl, hown, hlot, hW⟩ := hrel
    have hll : l.length = j := hlot.len
    have GG : Hid (Lot s.data.toList j l) := hlot
    have hWs := hW.size
    clear hlot hll
    by_cases hend : (0 : Int) < (s.size : Int) - 4 * (j : Int)
    · obtain ⟨e, he⟩ : ∃ e : Nat, e = s.size - 4 * j := ⟨_, rfl⟩
      obtain ⟨f, hf⟩ : ∃ f : Nat, f = s.size - 4 * (j + 1) := ⟨_, rfl⟩
      have hee : (s.size : Int) - 4 * (j : Int) = (e : Int) := by omega
      have hfe : f < e := by omega
      have hes : e ≤ s.size := by omega
      have HEF : Hid (e = s.size - 4 * j ∧ f = s.size - 4 * (j + 1)) := ⟨he, hf⟩
      rw [hee] at hend ⊢
      have hff : Hid (((4 : Int) ≤ e ∧ (f : Int) = e - 4) ∨ ((e : Int) < 4 ∧ f = 0)) := by unfold Hid; omega
      clear he hf hee
      by_cases h4 : (4 : Int) ≤ (e : Int)
      all_goals
        go_wp2
        go_loopg [6, 7] (e - f) (fun g n i wq => wr = wq ∧ ∃ a : Nat, g = e - a ∧ f ≤ a ∧ a ≤ e ∧ i = .int .i64 (a : Int) ∧ n = .int .i64 (dval ((s.data.toList.take a).drop f) : Int))
        case atStart =>
          refine ⟨rfl, f, rfl, Nat.le_refl _, by omega, ?_, ?_⟩
          · have := hff.out; go_num
          · rw [part_empty]; rfl
        case round =>
          obtain ⟨rfl, a, rfl, hfa, hae, rfl, rfl⟩ := hrel
          obtain ⟨v, hv⟩ : ∃ v : Int, v = (dval ((s.data.toList.take a).drop f) : Int) := ⟨_, rfl⟩
          rw [← hv]
          have hv0 : 0 ≤ v := by omega
          have hv1 : v < 10000 := by
            have hL := HL.out
            have h1 := dval_lt _ (sub_digs hall.out f a)
            have h2 : ((s.data.toList.take a).drop f).length ≤ 4 := by
              have := HEF.out
              simp; omega
            have h3 : 10 ^ ((s.data.toList.take a).drop f).length ≤ 10 ^ 4 := Nat.pow_le_pow_right (by omega) h2
            omega
          have HV : Hid (v = (dval ((s.data.toList.take a).drop f) : Int)) := hv
          clear hv
          by_cases hlt : (a : Int) < (e : Int)
          · have ha' : a < s.size := by omega
            have hstep : Hid ((dval ((s.data.toList.take (a + 1)).drop f) : Int) = 10 * v + (((s[a]'ha').toNat : Int) - 48)) := by
              have hL := HL.out
              have := part_more s.data.toList f a hfa (by omega) hall.out
              unfold Hid; rw [this, HV.out]; rfl
            have hdig : 48 ≤ (s[a]'ha').toNat ∧ (s[a]'ha').toNat ≤ 57 := by
              have hL := HL.out
              exact isDig_bd (List.all_eq_true.1 hall.out (s.data.toList[a]'(by omega)) (List.getElem_mem _))
            have hd0 : (48 : Int) ≤ ((s[a]'ha').toNat : Int) := by omega
            have hd1 : ((s[a]'ha').toNat : Int) ≤ 57 := by omega
            clear hdig
            go_wp2
            go_roundg (e - (a + 1))
            case measure => omega
            case rel =>
              refine ⟨rfl, a + 1, rfl, by omega, by omega, by go_num, ?_⟩
              rw [hstep.out]
          · have hll : l.length = j := GG.out.len
            go_wp2_with (first | (at_builtin; refine wpList_append_own _ rfl _ _ 102 rfl w.heap.size 3 i0 (.int .i64 0) 1 8 Tryd.underlying102 hi hz0 hz1 hz2 rfl (by decide) _ _ _ rfl (hown.alloc _) ⟨wr.heap.size, 0, none⟩ 1 1 [.int .i64 v] rfl rfl (cell_one_new _ _ _) (one_cell _) (by unfold maxLen; omega) (by omega) (by simp; omega) ?_; intro v' w1 hown' hgrow _))
            go_roundg (s.size - (j + 1))
            case measure => have := HEF.out; omega
            case rel =>
              have hL := HL.out
              obtain ⟨he1, he2⟩ := HEF.out
              have hst := GG.out.step hall.out (by omega)
              have hae' : a = e := by omega
              rw [hL, ← he1, ← he2, ← hae', ← HV.out] at hst
              refine ⟨j + 1, l ++ [v], rfl, by omega, by go_num, ?_, hst, ?_⟩
              · have hlen : (l ++ [v]).length = l.length + 1 := by simp
                rw [hlen]; simpa [ints] using hown'
              · refine Below.grown (hW.alloc hWs _) hgrow (by simp; omega) ?_
                intro k hk; exact own_ge hown hk
    · go_wp2
      go_ret
      have hL := HL.out
      have h1 := GG.out.len
      have h2 := GG.out.val
      have h3 : s.data.toList.length - 4 * j = 0 := by omega
      rw [h3, List.drop_zero] at h2
      exact ⟨_, rfl, l, hown, by omega, by omega, GG.out.bd, h2, hW⟩

end Go.Proofs.YtmfpnbmfcoahbaaDoor

/-
  What spec.l1Carry answers: parts within their bounds, the same number.
-/
namespace Go.Proofs.YtmfpnbmfcoahbaaDoor
open Go.RowKit
set_option linter.unusedVariables false

/-- Where l1Carry stands. -/
structure Car (l0 : List Int) (t : Nat) (o : Int) (r : List Int) : Prop where
  len : r.length = l0.length
  lo : ∀ i, i < t → 0 ≤ r.getD i 0 ∧ r.getD i 0 < 10000
  rest : ∀ i, t ≤ i → r.getD i 0 = l0.getD i 0
  val : vb 10000 r + 10000 ^ t * o = vb 10000 l0
  bd : -1000000000 ≤ o ∧ o ≤ 1000000000

theorem getDset (p : List Int) (j i : Nat) (v : Int) (h : j < p.length) : (p.set j v).getD i 0 = if i = j then v else p.getD i 0 := by
  simp only [List.getD, List.getElem?_set]
  by_cases e : j = i
  · subst e; simp [h]
  · rw [if_neg e, if_neg (fun h => e h.symm)]

theorem Car.start (l : List Int) : Car l 0 0 l := ⟨rfl, fun i hi => by omega, fun _ _ => rfl, by simp, by omega⟩

theorem Car.step {l0 r : List Int} {t : Nat} {o q x : Int} (h : Car l0 t o r) (ht : t < l0.length) (hb : -1000000000000 ≤ l0.getD t 0 ∧ l0.getD t 0 ≤ 1000000000000)
    (hx : r.getD t 0 + o = 10000 * q + x) (x0 : 0 ≤ x) (x1 : x < 10000) : Car l0 (t + 1) q (r.set t x) := by
  have hr := h.rest t (Nat.le_refl _)
  have hl := h.len
  have ho := h.bd
  refine ⟨by simp [hl], fun i hi => ?_, fun i hi => ?_, ?_, by omega⟩
  · rw [getDset _ _ _ _ (by omega)]; split
    · exact ⟨x0, x1⟩
    · exact h.lo i (by omega)
  · rw [getDset _ _ _ _ (by omega), if_neg (by omega)]; exact h.rest i (by omega)
  · rw [vb_set _ _ _ _ (by omega), ← h.val, Int.pow_succ, Int.mul_assoc]
    have : (10000 : Int) ^ t * (x - r.getD t 0) + 10000 ^ t * (10000 * q) = 10000 ^ t * o := by
      rw [← Int.mul_add]; congr 1; omega
    omega

/-- All parts done: what is over comes behind them. -/
structure Tail (l0 : List Int) (o : Int) (r : List Int) : Prop where
  bd : ∀ x ∈ r, 0 ≤ x ∧ x < 10000
  val : vb 10000 r + 10000 ^ r.length * o = vb 10000 l0
  len : (r.length = l0.length ∧ -1000000000 ≤ o ∧ o ≤ 1000000000) ∨ (r.length = l0.length + 1 ∧ 0 ≤ o ∧ o ≤ 100000) ∨ (r.length = l0.length + 2 ∧ 0 ≤ o ∧ o ≤ 10) ∨ (r.length = l0.length + 3 ∧ o = 0)
  grow : r.length = l0.length ∨ (10000 : Int) ^ (r.length - 1) ≤ vb 10000 l0

theorem Car.tail {l0 r : List Int} {t : Nat} {o : Int} (h : Car l0 t o r) (ht : t = l0.length) : Tail l0 o r := by
  subst ht
  refine ⟨fun x hx => ?_, by rw [h.len]; exact h.val, .inl ⟨h.len, h.bd⟩, .inl h.len⟩
  obtain ⟨i, hi, rfl⟩ := List.getElem_of_mem hx
  have := h.lo i (by rw [← h.len]; exact hi)
  simpa [List.getD, hi] using this

theorem vb_nonneg (B : Int) (hB : 0 < B) (r : List Int) (k : Nat) (bd : ∀ x ∈ r, 0 ≤ x ∧ x < B) : 0 ≤ vb B r ∧ vb B r < B ^ r.length := by
  induction r with
  | nil => simp [vb]
  | cons x r ih =>
    have h1 := bd x (by simp)
    have h2 := ih (fun y hy => bd y (by simp [hy]))
    simp only [vb, List.length_cons, Int.pow_succ]
    have hm : B * (vb B r + 1) ≤ B * B ^ r.length := Int.mul_le_mul_of_nonneg_left (by omega) (by omega)
    have hn : 0 ≤ B * vb B r := Int.mul_nonneg (by omega) h2.1
    rw [Int.mul_add, Int.mul_comm B (B ^ r.length)] at hm
    omega

theorem Tail.step {l0 r : List Int} {o : Int} (h : Tail l0 o r) (ho : 0 < o) : Tail l0 (o / 10000) (r ++ [o % 10000]) := by
  refine ⟨fun x hx => ?_, ?_, ?_, .inr ?_⟩
  · rcases List.mem_append.1 hx with hx | hx
    · exact h.bd x hx
    · simp only [List.mem_singleton] at hx; omega
  · rw [vb_snoc, List.length_append, List.length_singleton, Int.pow_succ, Int.mul_assoc, ← h.val]
    have : (10000 : Int) ^ r.length * (o % 10000) + 10000 ^ r.length * (10000 * (o / 10000)) = 10000 ^ r.length * o := by
      rw [← Int.mul_add]; congr 1; omega
    omega
  · have := h.len
    simp only [List.length_append, List.length_singleton]
    omega
  · rw [List.length_append, List.length_singleton, Nat.add_sub_cancel, ← h.val]
    have hn := vb_nonneg 10000 (by omega) r 0 h.bd
    have hm : (10000 : Int) ^ r.length * 1 ≤ 10000 ^ r.length * o := Int.mul_le_mul_of_nonneg_left (by omega) (Int.le_of_lt (Int.pow_pos (by omega)))
    omega

theorem Tail.end {l0 r : List Int} {o : Int} (h : Tail l0 o r) (ho : ¬ 0 < o) (h0 : 0 ≤ vb 10000 l0) : vb 10000 r = vb 10000 l0 := by
  have hv := h.val
  have hn := vb_nonneg 10000 (by omega) r 0 h.bd
  by_cases e : o = 0
  · subst e; simpa using hv
  · have hm : (10000 : Int) ^ r.length * o ≤ 10000 ^ r.length * (-1) := Int.mul_le_mul_of_nonneg_left (by omega) (by omega)
    omega

/-- A cell of an owned row is written. -/
theorem own_set {w : World} {B g n cap : Nat} {l : List Int} (h : w.ownsRow B 3 1 (.slice (some ⟨g, 0, none⟩) n cap) n (ints l)) (j : Nat) (u : Int) :
    (w.setCell ⟨g, j, none⟩ (.int .i64 u)).ownsRow B 3 1 (.slice (some ⟨g, 0, none⟩) n cap) n (ints (l.set j u)) := by
  refine ⟨by have := h.1; simpa [ints] using this, ?_⟩
  rcases h.2 with ⟨e, _⟩ | ⟨g', cap', cur, e, hB, hg, h1, h2, h3, h4⟩
  · cases e
  · cases e
    refine .inr ⟨g, cap, _, rfl, hB, heap_setCell_same w g j cur 3 _ hg, h1, h2, by simpa using h3, ?_⟩
    rw [Array.toList_setIfInBounds, List.take_set, h4]
    simp [ints, List.map_set]
theorem own_cell {w : World} {B g n cap : Nat} {l : List Int} (h : w.ownsRow B 3 1 (.slice (some ⟨g, 0, none⟩) n cap) n (ints l)) (j : Nat) (hj : j < l.length) : w.cell? ⟨g, j, none⟩ = some (.int .i64 (l.getD j 0)) := by
  have := h.cells (g := g) rfl j (.int .i64 (l.getD j 0)) (by simp [ints, List.getD, List.getElem?_eq_getElem hj])
  have e : (⟨g, 0, none⟩ : Addr).add j = ⟨g, j, none⟩ := by unfold Addr.add; split <;> simp_all
  rw [e] at this; exact this
theorem own_fr {w : World} {B g n cap : Nat} {l : List Int} (h : w.ownsRow B 3 1 (.slice (some ⟨g, 0, none⟩) n cap) n (ints l)) (j : Nat) : w.frozen? ⟨g, j, none⟩ = false := by
  rcases h.2 with ⟨e, _⟩ | ⟨g', cap', cur, e, hB, hg, _⟩
  · cases e
  · cases e; exact frozen_of_row w g j cur 3 hg
/-- An owned row that is not empty lies somewhere. -/
theorem own_form {w : World} {B n : Nat} {v : Value} {l : List Int} (h : w.ownsRow B 3 1 v n (ints l)) (hn : 0 < n) : ∃ g cap, v = .slice (some ⟨g, 0, none⟩) n cap ∧ B ≤ g ∧ g < w.heap.size ∧ n ≤ cap ∧ cap ≤ maxLen := by
  rcases h.2 with ⟨_, e⟩ | ⟨g, cap, cur, rfl, hB, hg, h1, h2, _⟩
  · omega
  · exact ⟨g, cap, rfl, hB, (Array.getElem?_eq_some_iff.1 hg).1, h1, h2⟩

set_option maxHeartbeats 1000000 in
set_option maxRecDepth 100000 in
theorem l1Carry_more (B : Nat) (v : Value) (l : List Int) (w : World) (hown : w.ownsRow B 3 1 v l.length (ints l)) (hB : B ≤ w.heap.size) (hn : 0 < l.length) (hl : l.length ≤ 3000) (hbd0 : ∀ i, -1000000000000 ≤ l.getD i 0 ∧ l.getD i 0 ≤ 1000000000000) :
    Calls Tryd.prog 76 #[v] w fun e w' => ∃ (v' : Value) (r : List Int), e = .returned v' ∧ w'.ownsRow B 3 1 v' r.length (ints r) ∧ (∀ x ∈ r, 0 ≤ x ∧ x < 10000) ∧ (0 ≤ vb 10000 l → vb 10000 r = vb 10000 l) ∧ l.length ≤ r.length ∧ r.length ≤ l.length + 3 ∧ Below B w w' ∧ (r.length = l.length ∨ (10000 : Int) ^ (r.length - 1) ≤ vb 10000 l) := by
  obtain ⟨g, cap, rfl, hBg, hgs, hnc, hcm⟩ := own_form hown hn
  have hbd : Hid (∀ i, -1000000000000 ≤ l.getD i 0 ∧ l.getD i 0 ≤ 1000000000000) := hbd0
  obtain ⟨n, hnl⟩ : ∃ n, n = l.length := ⟨_, rfl⟩
  have HN : Hid (n = l.length) := hnl
  rw [← hnl] at hown hn hl hnc
  rw [← hnl]
  obtain ⟨i0, hi, hz0, hz1, hz2⟩ := info_parts Tryd.info_int
  unfold maxLen at hcm
  clear hbd0 hnl
  go_enter Tryd.func76, Tryd.ntmps76
  go_wp2
  go_loopg [3, 8] n (fun gh o i wr => ∃ (t : Nat) (oo : Int) (r : List Int), gh = n - t ∧ t ≤ n ∧ o = .int .i64 oo ∧ i = .int .i64 (t : Int) ∧ wr.ownsRow B 3 1 (.slice (some ⟨g, 0, none⟩) n cap) n (ints r) ∧ Hid (Car l t oo r) ∧ Below B w wr)
  case atStart => exact ⟨0, 0, l, rfl, by omega, rfl, rfl, hown, Car.start l, Below.refl _ _⟩
  case round =>
    obtain ⟨t, o, r, rfl, ht, rfl, rfl, hr, hC, hW⟩ := hrel
    have hrl : r.length = n := by rw [hC.out.len]; exact HN.out.symm
    have hob := hC.out.bd
    obtain ⟨ho1, ho2⟩ := hob
    have hWs := hW.size
    clear hown
    by_cases hlt : (t : Int) < (n : Int)
    · have c1 := own_cell hr t (by omega)
      have hfr := own_fr hr t
      obtain ⟨y, hy⟩ : ∃ y, y = r.getD t 0 := ⟨_, rfl⟩
      have hyb : -1000000000000 ≤ y ∧ y ≤ 1000000000000 := by rw [hy, hC.out.rest t (Nat.le_refl _)]; exact hbd.out t
      obtain ⟨hy1, hy2⟩ := hyb
      rw [← hy] at c1
      have HY : Hid (y = r.getD t 0 ∧ t < l.length) := ⟨hy, by have := HN.out; omega⟩
      clear hy hrl
      by_cases hx : 0 ≤ y + o
      · go_wp2
        go_roundg (n - (t + 1))
        case measure => omega
        case rel =>
          obtain ⟨hy, htl⟩ := HY.out
          refine ⟨t + 1, (y + o) / 10000, r.set t ((y + o) % 10000), rfl, by omega, rfl, by go_num, own_set hr t ((y + o) % 10000), ?_, hW.setCell hBg _⟩
          exact hC.out.step htl (hbd.out t) (by rw [← hy]; omega) (by omega) (by omega)
      · obtain ⟨q0, hq0⟩ : ∃ q, (y + o).tdiv 10000 = q := ⟨_, rfl⟩
        obtain ⟨r0, hr0⟩ : ∃ r, (y + o).tmod 10000 = r := ⟨_, rfl⟩
        have hxy := Int.mul_tdiv_add_tmod (y + o) 10000
        rw [hq0, hr0] at hxy
        have hr1 : -10000 < r0 := by rw [← hr0]; have := Int.lt_tmod_of_pos (y + o) (b := 10000) (by omega); omega
        have hr2 : r0 ≤ 0 := by
          rw [← hr0]; have := Int.tmod_nonneg 10000 (a := -(y + o)) (by omega); rw [Int.neg_tmod] at this; omega
        have HXY : Hid (10000 * q0 + r0 = y + o) := hxy
        have hq1 : -1000000000 ≤ q0 := by omega
        have hq2 : q0 ≤ 0 := by omega
        clear hxy
        by_cases hz : r0 = 0
        · subst hz
          go_wp2
          go_roundg (n - (t + 1))
          case measure => omega
          case rel =>
            obtain ⟨hy, htl⟩ := HY.out
            refine ⟨t + 1, q0, r.set t (0), rfl, by omega, rfl, by go_num, own_set hr t (0), ?_, hW.setCell hBg _⟩
            exact hC.out.step htl (hbd.out t) (by rw [← hy]; have := HXY.out; omega) (by omega) (by omega)
        · have hrn : r0 < 0 := by omega
          clear hz
          go_wp2
          go_roundg (n - (t + 1))
          case measure => omega
          case rel =>
            obtain ⟨hy, htl⟩ := HY.out
            refine ⟨t + 1, q0 - 1, r.set t (r0 + 10000), rfl, by omega, rfl, by go_num, own_set hr t (r0 + 10000), ?_, hW.setCell hBg _⟩
            exact hC.out.step htl (hbd.out t) (by rw [← hy]; have := HXY.out; omega) (by omega) (by omega)
    · have htn : t = n := by omega
      subst htn
      have hT : Hid (Tail l o r) := hC.out.tail HN.out
      clear hC
      go_wp2
      go_loopg [0, 3] 4 (fun gh v o wq => ∃ (oo : Int) (r : List Int), gh = t + 4 - r.length ∧ t ≤ r.length ∧ r.length ≤ t + 3 ∧ o = .int .i64 oo ∧ -1000000000 ≤ oo ∧ oo ≤ 1000000000 ∧ wq.ownsRow B 3 1 v r.length (ints r) ∧ Hid (Tail l oo r) ∧ Below B w wq)
      case atStart => exact ⟨o, r, by omega, by omega, by omega, rfl, by omega, by omega, by rw [hrl]; exact hr, hT, hW⟩
      case round =>
        obtain ⟨o2, r2, rfl, hr2l, hr2u, rfl, ho3, ho4, hown2, hT2, hW2⟩ := hrel
        clear hr hT hW
        have hWs2 := hW2.size
        by_cases hpos : 0 < o2
        · obtain ⟨x, hx⟩ : ∃ x, x = o2 % 10000 := ⟨_, rfl⟩
          have hlen := hT2.out.len
          have hNN := HN.out
          have hr3 : r2.length ≤ t + 2 := by omega
          have hge : ∀ k, Value.ownBlock u0 = some k → B ≤ k := fun k hk => own_ge hown2 hk
          clear hlen hNN
          go_wp2_with (first | (at_builtin; refine wpList_append_own _ rfl _ _ 102 rfl B 3 i0 (.int .i64 0) 1 8 Tryd.underlying102 hi hz0 hz1 hz2 rfl (by decide) _ _ _ rfl (hown2.alloc _) ⟨wr.heap.size, 0, none⟩ 1 1 [.int .i64 (o2 % 10000)] rfl rfl (cell_one_new _ _ _) (one_cell _) (by unfold maxLen; omega) (by omega) (by simp; omega) ?_; intro v' w1 hown' hgrow _))
          go_roundg (t + 4 - (r2 ++ [o2 % 10000]).length)
          case measure => simp; omega
          case rel =>
            refine ⟨o2 / 10000, r2 ++ [o2 % 10000], rfl, by simp; omega, by simp; omega, rfl, by omega, by omega, ?_, hT2.out.step hpos, ?_⟩
            · have hl2 : (r2 ++ [o2 % 10000]).length = r2.length + 1 := by simp
              rw [hl2]; simpa [ints] using hown'
            · exact Below.grown (hW2.alloc (by omega) _) hgrow (by simp; omega) hge
        · go_wp2
          go_ret
          have hlen := hT2.out.len
          have hNN := HN.out
          exact ⟨_, rfl, r2, hown2, hT2.out.bd, fun h => hT2.out.end (by omega) h, by omega, by omega, hW2, by rw [HN.out]; exact hT2.out.grow⟩

theorem l1Carry_any (B : Nat) (v : Value) (l : List Int) (w : World) (hown : w.ownsRow B 3 1 v l.length (ints l)) (hB : B ≤ w.heap.size) (hn : 0 < l.length) (hl : l.length ≤ 3000) (hbd0 : ∀ i, -1000000000000 ≤ l.getD i 0 ∧ l.getD i 0 ≤ 1000000000000) :
    Calls Tryd.prog 76 #[v] w fun e w' => ∃ (v' : Value) (r : List Int), e = .returned v' ∧ w'.ownsRow B 3 1 v' r.length (ints r) ∧ (∀ x ∈ r, 0 ≤ x ∧ x < 10000) ∧ (0 ≤ vb 10000 l → vb 10000 r = vb 10000 l) ∧ l.length ≤ r.length ∧ r.length ≤ l.length + 3 ∧ Below B w w' := by
  refine (l1Carry_more B v l w hown hB hn hl hbd0).mono ?_
  rintro e w' ⟨v', r, h1, h2, h3, h4, h5, h6, h7, _⟩
  exact ⟨v', r, h1, h2, h3, h4, h5, h6, h7⟩

end Go.Proofs.YtmfpnbmfcoahbaaDoor
