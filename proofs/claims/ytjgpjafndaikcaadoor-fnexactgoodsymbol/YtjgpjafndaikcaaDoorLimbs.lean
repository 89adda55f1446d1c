/-
  What spec.l1Limbs answers: a number's text as parts of four digits, in new memory.
-/
import Derived.Test.YtjgpjafndaikcaaDoorCmp
import Derived.Test.YtjgpjafndaikcaaDoorRep
import Derived.Deep.LoopGhost
namespace Go.Proofs.YtjgpjafndaikcaaDoor
open Go.RowKit
set_option linter.unusedVariables false

/-- Numbers as cells. -/
def ints (l : List Int) : List Value := l.map (Value.int .i64)
theorem ints_len (l : List Int) : (ints l).length = l.length := by simp [ints]

/-- After j rounds: the last 4 j digits lie in j parts. -/
structure Lot (s : List UInt8) (j : Nat) (l : List Int) : Prop where
  len : l.length = j
  bd : ∀ x ∈ l, 0 ≤ x ∧ x < 10000
  val : vb 10000 l = (dval (s.drop (s.length - 4 * j)) : Int)

theorem Lot.zero (s : List UInt8) : Lot s 0 [] := ⟨rfl, by simp, by simp [vb, dval]⟩

theorem sub_digs {l : List UInt8} (h : l.all isDig = true) (f e : Nat) : ((l.take e).drop f).all isDig = true := by
  rw [List.all_eq_true] at *
  intro x hx
  exact h x (List.mem_of_mem_take (List.mem_of_mem_drop hx))

theorem drop_part (l : List UInt8) (f e : Nat) (h : f ≤ e) (he : e ≤ l.length) : l.drop f = (l.take e).drop f ++ l.drop e := by
  conv => lhs; rw [← List.take_append_drop e l]
  rw [List.drop_append_of_le_length (by simp; omega)]

theorem part_more (l : List UInt8) (f a : Nat) (h : f ≤ a) (ha : a < l.length) (hd : l.all isDig = true) :
    (dval ((l.take (a + 1)).drop f) : Int) = 10 * dval ((l.take a).drop f) + (((l[a].toNat : Nat) : Int) - 48) := by
  rw [List.take_succ_eq_append_getElem ha, List.drop_append_of_le_length (by simp; omega), dval_snoc]
  have := isDig_bd (List.all_eq_true.1 hd l[a] (List.getElem_mem ha))
  unfold dv; omega
theorem part_empty (l : List UInt8) (f : Nat) : dval ((l.take f).drop f) = 0 := by
  rw [List.drop_take]; simp [dval]

theorem Lot.step {s : List UInt8} {j : Nat} {l : List Int} (h : Lot s j l) (hs : s.all isDig = true) (he : 4 * j < s.length) :
    Lot s (j + 1) (l ++ [(dval ((s.take (s.length - 4 * j)).drop (s.length - 4 * (j + 1))) : Int)]) := by
  have hd := sub_digs hs (s.length - 4 * (j + 1)) (s.length - 4 * j)
  have h1 := dval_lt _ hd
  have h2 : ((s.take (s.length - 4 * j)).drop (s.length - 4 * (j + 1))).length ≤ 4 := by simp; omega
  have h3 : 10 ^ ((s.take (s.length - 4 * j)).drop (s.length - 4 * (j + 1))).length ≤ 10 ^ 4 := Nat.pow_le_pow_right (by omega) h2
  refine ⟨by simp [h.len], fun x hx => ?_, ?_⟩
  · rcases List.mem_append.1 hx with hx | hx
    · exact h.bd x hx
    · simp only [List.mem_singleton] at hx; subst hx; omega
  · rw [vb_snoc, h.val, h.len, drop_part s (s.length - 4 * (j + 1)) (s.length - 4 * j) (by omega) (by omega), dval_append]
    have e2 : (s.drop (s.length - 4 * j)).length = 4 * j := by simp; omega
    rw [e2]
    have e3 : (10000 : Int) ^ j = ((10 ^ (4 * j) : Nat) : Int) := by rw [Nat.pow_mul]; simp
    rw [e3]
    simp only [Int.natCast_add, Int.natCast_mul]
    rw [Int.mul_comm]; omega

theorem one_cell (v : Int) : ∀ u ∈ [Value.int .i64 v], u.oneCell' = true := by
  intro u hu; simp at hu; subst hu; rfl
theorem own_ge {w : World} {B e n : Nat} {v : Value} {xs : List Value} (h : w.ownsRow B e 1 v n xs) {k : Nat} (hk : v.ownBlock = some k) : B ≤ k := by
  rcases h.2 with ⟨rfl, _⟩ | ⟨g, cap, cur, rfl, hg, _⟩
  · simp [Value.ownBlock] at hk
  · simp [Value.ownBlock] at hk; omega
theorem Tryd.info_int : (Tryd.prog.info? 3).map (fun i => (i.zero, i.size, i.bytes)) = some (some (.int .i64 0), 1, 8) := by kernel_rfl

set_option maxHeartbeats 1000000 in
set_option maxRecDepth 100000 in
theorem l1Limbs_any (s : ByteArray) (w : World) (hs : s.size ≤ 4000) (hall0 : s.data.toList.all isDig = true) :
    Calls Tryd.prog 61 #[.string s] w fun e w' => ∃ (v : Value) (l : List Int), e = .returned v ∧ w'.ownsRow w.heap.size 3 1 v l.length (ints l) ∧ s.size ≤ 4 * l.length ∧ 4 * l.length < s.size + 4 ∧ (∀ x ∈ l, 0 ≤ x ∧ x < 10000) ∧ vb 10000 l = (dval s.data.toList : Int) ∧ Below w.heap.size w w' := by
  have hall : Hid (s.data.toList.all isDig = true) := hall0
  have HL : Hid (s.data.toList.length = s.size) := by unfold Hid; simp
  clear hall0
  obtain ⟨i0, hi, hz0, hz1, hz2⟩ := info_parts Tryd.info_int
  go_enter Tryd.func61, Tryd.ntmps61
  go_wp2
  go_loopg [3, 4] (s.size) (fun g v x wr => ∃ (j : Nat) (l : List Int), g = s.size - j ∧ 4 * j < s.size + 4 ∧ x = .int .i64 ((s.size : Int) - 4 * (j : Int)) ∧ wr.ownsRow w.heap.size 3 1 v l.length (ints l) ∧ Lot s.data.toList j l ∧ Below w.heap.size w wr)
  case atStart => exact ⟨0, [], rfl, by omega, by simp, World.ownsRow_nil _ _ _ _, Lot.zero _, Below.refl _ _⟩
  case round =>
    obtain ⟨j, l, rfl, hj, rfl, hown, hlot, hW⟩ := hrel
    have hll : l.length = j := hlot.len
    have GG : Hid (Lot s.data.toList j l) := hlot
    have hWs := hW.size
    clear hlot hll
    by_cases hend : (0 : Int) < (s.size : Int) - 4 * (j : Int)
    · obtain ⟨e, he⟩ : ∃ e : Nat, e = s.size - 4 * j := ⟨_, rfl⟩
      obtain ⟨f, hf⟩ : ∃ f : Nat, f = s.size - 4 * (j + 1) := ⟨_, rfl⟩
      have hee : (s.size : Int) - 4 * (j : Int) = (e : Int) := by omega
      have hfe : f < e := by omega
      have hes : e ≤ s.size := by omega
      have HEF : Hid (e = s.size - 4 * j ∧ f = s.size - 4 * (j + 1)) := ⟨he, hf⟩
      rw [hee] at hend ⊢
      have hff : Hid (((4 : Int) ≤ e ∧ (f : Int) = e - 4) ∨ ((e : Int) < 4 ∧ f = 0)) := by unfold Hid; omega
      clear he hf hee
      by_cases h4 : (4 : Int) ≤ (e : Int)
      all_goals
        go_wp2
        go_loopg [6, 7] (e - f) (fun g n i wq => wr = wq ∧ ∃ a : Nat, g = e - a ∧ f ≤ a ∧ a ≤ e ∧ i = .int .i64 (a : Int) ∧ n = .int .i64 (dval ((s.data.toList.take a).drop f) : Int))
        case atStart =>
          refine ⟨rfl, f, rfl, Nat.le_refl _, by omega, ?_, ?_⟩
          · have := hff.out; go_num
          · rw [part_empty]; rfl
        case round =>
          obtain ⟨rfl, a, rfl, hfa, hae, rfl, rfl⟩ := hrel
          obtain ⟨v, hv⟩ : ∃ v : Int, v = (dval ((s.data.toList.take a).drop f) : Int) := ⟨_, rfl⟩
          rw [← hv]
          have hv0 : 0 ≤ v := by omega
          have hv1 : v < 10000 := by
            have hL := HL.out
            have h1 := dval_lt _ (sub_digs hall.out f a)
            have h2 : ((s.data.toList.take a).drop f).length ≤ 4 := by
              have := HEF.out
              simp; omega
            have h3 : 10 ^ ((s.data.toList.take a).drop f).length ≤ 10 ^ 4 := Nat.pow_le_pow_right (by omega) h2
            omega
          have HV : Hid (v = (dval ((s.data.toList.take a).drop f) : Int)) := hv
          clear hv
          by_cases hlt : (a : Int) < (e : Int)
          · have ha' : a < s.size := by omega
            have hstep : Hid ((dval ((s.data.toList.take (a + 1)).drop f) : Int) = 10 * v + (((s[a]'ha').toNat : Int) - 48)) := by
              have hL := HL.out
              have := part_more s.data.toList f a hfa (by omega) hall.out
              unfold Hid; rw [this, HV.out]; rfl
            have hdig : 48 ≤ (s[a]'ha').toNat ∧ (s[a]'ha').toNat ≤ 57 := by
              have hL := HL.out
              exact isDig_bd (List.all_eq_true.1 hall.out (s.data.toList[a]'(by omega)) (List.getElem_mem _))
            have hd0 : (48 : Int) ≤ ((s[a]'ha').toNat : Int) := by omega
            have hd1 : ((s[a]'ha').toNat : Int) ≤ 57 := by omega
            clear hdig
            go_wp2
            go_roundg (e - (a + 1))
            case measure => omega
            case rel =>
              refine ⟨rfl, a + 1, rfl, by omega, by omega, by go_num, ?_⟩
              rw [hstep.out]
          · have hll : l.length = j := GG.out.len
            go_wp2_with (first | (at_builtin; refine wpList_append_own _ rfl _ _ 56 rfl w.heap.size 3 i0 (.int .i64 0) 1 8 Tryd.underlying56 hi hz0 hz1 hz2 rfl (by decide) _ _ _ rfl (hown.alloc _) ⟨wr.heap.size, 0, none⟩ 1 1 [.int .i64 v] rfl rfl (cell_one_new _ _ _) (one_cell _) (by unfold maxLen; omega) (by omega) (by simp; omega) ?_; intro v' w1 hown' hgrow _))
            go_roundg (s.size - (j + 1))
            case measure => have := HEF.out; omega
            case rel =>
              have hL := HL.out
              obtain ⟨he1, he2⟩ := HEF.out
              have hst := GG.out.step hall.out (by omega)
              have hae' : a = e := by omega
              rw [hL, ← he1, ← he2, ← hae', ← HV.out] at hst
              refine ⟨j + 1, l ++ [v], rfl, by omega, by go_num, ?_, hst, ?_⟩
              · have hlen : (l ++ [v]).length = l.length + 1 := by simp
                rw [hlen]; simpa [ints] using hown'
              · refine Below.grown (hW.alloc hWs _) hgrow (by simp; omega) ?_
                intro k hk; exact own_ge hown hk
    · go_wp2
      go_ret
      have hL := HL.out
      have h1 := GG.out.len
      have h2 := GG.out.val
      have h3 : s.data.toList.length - 4 * j = 0 := by omega
      rw [h3, List.drop_zero] at h2
      exact ⟨_, rfl, l, hown, by omega, by omega, GG.out.bd, h2, hW⟩

end Go.Proofs.YtjgpjafndaikcaaDoor
