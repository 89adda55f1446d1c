/-
  What spec.l1OfRadix answers.
-/
import Derived.Test.YtjgpjafndaikcaaDoorSpecTextW
import Derived.Test.YtjgpjafndaikcaaDoorSpecCarry
import Derived.Test.YtjgpjafndaikcaaDoorMinus
import Derived.Test.YtjgpjafndaikcaaDoorRadix
import Derived.Test.YtjgpjafndaikcaaDoorTimesSmall
namespace Go.Proofs.YtjgpjafndaikcaaDoor
open Go.RowKit
set_option linter.unusedVariables false

theorem rval_lt (b : Nat) (l : List UInt8) (h : rdigs b l = true) : rval b l < b ^ l.length := by
  have key : ∀ (m : List UInt8) (n k : Nat), n < b ^ k → m.all (fun c => decide (dg c < b)) = true → m.foldl (fun n c => b * n + dg c) n < b ^ (k + m.length) := by
    intro m
    induction m with
    | nil => intro n k hn _; simpa using hn
    | cons c m ih =>
      intro n k hn hm
      rw [List.all_cons, Bool.and_eq_true] at hm
      have hc := of_decide_eq_true hm.1
      have h1 : b * n + dg c < b ^ (k + 1) := by
        rw [Nat.pow_succ, Nat.mul_comm (b ^ k) b]
        have : b * (n + 1) ≤ b * b ^ k := Nat.mul_le_mul_left b hn
        rw [Nat.mul_add] at this
        omega
      have := ih (b * n + dg c) (k + 1) h1 hm.2
      rw [List.foldl_cons, List.length_cons, show k + (m.length + 1) = k + 1 + m.length by omega]
      exact this
  have := key l 0 0 (by simp) h
  rw [Nat.zero_add] at this
  exact this

theorem few_gen {b n V t T : Nat} (hb : b ≤ 2 ^ 4) (ht : t ≤ T) (hV : V < b ^ t) (h : (10000 : Nat) ^ (n - 1) ≤ V) : 13 * (n - 1) < 4 * T := by
  have h1 : (2 : Nat) ^ (13 * (n - 1)) ≤ 10000 ^ (n - 1) := by
    rw [Nat.pow_mul]; exact Nat.pow_le_pow_left (by decide) _
  have h2 : b ^ t ≤ (2 ^ 4) ^ T := Nat.le_trans (Nat.pow_le_pow_left hb t) (Nat.pow_le_pow_right (by decide) ht)
  rw [← Nat.pow_mul] at h2
  have h3 : (2 : Nat) ^ (13 * (n - 1)) < 2 ^ (4 * T) := Nat.lt_of_le_of_lt (Nat.le_trans h1 h) (Nat.lt_of_lt_of_le hV h2)
  exact (Nat.pow_lt_pow_iff_right (by decide)).1 h3

/-- Few parts are enough for 2000 digits. -/
theorem few_parts {b n V t : Nat} (hb : b ≤ 16) (ht : t ≤ 2000) (hV : V < b ^ t) (h : (10000 : Int) ^ (n - 1) ≤ (V : Int)) : n ≤ 700 := by
  have e : ((10000 ^ (n - 1) : Nat) : Int) = (10000 : Int) ^ (n - 1) := by rw [Int.natCast_pow]; rfl
  have h1 : (10000 : Nat) ^ (n - 1) ≤ V := by rw [← e] at h; exact Int.ofNat_le.1 h
  have := few_gen (b := b) (by omega) ht hV h1
  omega

theorem one_own (w : World) (B : Nat) (x : Int) (hB : B ≤ w.heap.size) : (w.alloc (.cells #[.int .i64 x] 3)).ownsRow B 3 1 (.slice (some ⟨w.heap.size, 0, none⟩) 1 1) 1 (ints [x]) := by
  refine ⟨by simp [ints], .inr ⟨w.heap.size, 1, #[.int .i64 x], rfl, hB, heap_alloc_new _ _, by omega, by unfold maxLen; omega, rfl, by simp [ints]⟩⟩

/-- What l1OfRadix should answer. -/
def OfR (b : Nat) (s : ByteArray) (e : Ending) : Prop := ∃ t : ByteArray, e = .returned (.tuple #[.string t, .bool (decide (0 < s.size) && rdigs b s.data.toList)]) ∧ (rdigs b s.data.toList = true → canonB t.data.toList = true ∧ dval t.data.toList = rval b s.data.toList) ∧ (rdigs b s.data.toList = false → t = ⟨#[]⟩)

set_option maxHeartbeats 1000000 in
set_option maxRecDepth 100000 in
theorem l1OfRadix_any (s : ByteArray) (b : Nat) (r : Int) (w : World) (hs : s.size ≤ 2000) (hr : r = (b : Int)) (hr0 : 2 ≤ r) (hr1 : r ≤ 16) :
    Calls Tryd.prog 21 #[.string s, .int .i64 r] w fun e w' => OfR b s e ∧ Below w.heap.size w w' := by
  have HR := hide hr
  have hown := one_own w w.heap.size 0 (Nat.le_refl _)
  have hB : Below w.heap.size w (w.alloc (.cells #[.int .i64 0] 3)) := (Below.refl _ _).alloc (Nat.le_refl _) _
  clear hr
  go_enter Tryd.func21, Tryd.ntmps21
  go_wp2
  go_loopg [6, 7] s.size (fun g v x wr => ∃ (t : Nat) (l : List Int), g = s.size - t ∧ t ≤ s.size ∧ x = .int .i64 (t : Int) ∧ wr.ownsRow w.heap.size 3 1 v l.length (ints l) ∧ 0 < l.length ∧ l.length ≤ 700 ∧ Hid (∀ x ∈ l, 0 ≤ x ∧ x < 10000) ∧ Hid (vb 10000 l = (rval b (s.data.toList.take t) : Int)) ∧ Hid (rdigs b (s.data.toList.take t) = true) ∧ Hid (l.length = 1 ∨ (10000 : Int) ^ (l.length - 1) ≤ (rval b (s.data.toList.take t) : Int)) ∧ Below w.heap.size w wr)
  case atStart => exact ⟨0, [0], rfl, by omega, rfl, hown, by simp, by simp, by simp [Hid], by simp [Hid, vb, rval], rfl, .inl rfl, hB⟩
  case round =>
    obtain ⟨t, l, rfl, ht, rfl, hown1, hl0, hl7, HBD, HV, HDG, HLEN, hW⟩ := hrel
    clear hown hB
    have hWs := hW.size
    obtain ⟨g, cap, rfl, hBg, hgs, hnc, hcm⟩ := own_form hown1 hl0
    obtain ⟨n, hnl⟩ : ∃ n, n = l.length := ⟨_, rfl⟩
    have HN := hide hnl
    rw [← hnl] at hown1 hl0 hl7 hnc ⊢
    unfold maxLen at hcm
    clear hnl
    by_cases hlt : (t : Int) < (s.size : Int)
    · have ht' : t < s.size := by omega
      have hcb : ((s[t]'ht').toNat : Int) ≤ 255 := by have := (s[t]'ht').toNat_lt; omega
      have hdd := dig1_of s[t] b (by have := HR.out; omega)
      go_wp2_with fail
      refine (l1Digit_any ((s[t]'ht').toNat : Int) r _ (by omega) hcb hr0 hr1).mono ?_
      rintro e w' ⟨rfl, rfl⟩
      rw [HR.out]
      by_cases hbad : dg s[t] < b
      · rw [hdd.1 hbad, ← HR.out]
        obtain ⟨d, hd⟩ : ∃ d : Int, d = (dg s[t] : Int) := ⟨_, rfl⟩
        rw [← hd]
        have hd0 : 0 ≤ d := by omega
        have hd1 : d ≤ 16 := by have := dg_le s[t]; omega
        have HD := hide (And.intro hd hbad)
        clear hd hbad hdd
        go_wp2
        go_loopg [26] n (fun gh x wq => ∃ (k : Nat), gh = n - k ∧ k ≤ n ∧ x = .int .i64 (k : Int) ∧ wq.ownsRow w.heap.size 3 1 (.slice (some ⟨g, 0, none⟩) n cap) n (ints (subTo l l (-(r - 1)) 0 k)) ∧ Below w.heap.size w wq)
        case atStart => exact ⟨0, rfl, by omega, rfl, hown1, hW⟩
        case round =>
          obtain ⟨k, rfl, hk, rfl, hownk, hWk⟩ := hrel
          clear hown1 hW
          have hll : (subTo l l (-(r - 1)) 0 k).length = n := by rw [subTo_len]; exact HN.out.symm
          have hbl := fun i => getD_bd HBD.out i
          by_cases hkn : (k : Int) < (n : Int)
          · have c1 := own_cell hownk k (by omega)
            have hfr := own_fr hownk k
            obtain ⟨x, hx⟩ : ∃ x, x = (subTo l l (-(r - 1)) 0 k).getD k 0 := ⟨_, rfl⟩
            have hxp : x = l.getD k 0 := by rw [hx, subTo_get _ _ _ _ _ _ (by have := HN.out; omega), if_neg (by omega)]
            obtain ⟨hx0, hx1⟩ : 0 ≤ x ∧ x < 10000 := by rw [hxp]; exact hbl k
            rw [← hx] at c1
            have HX := hide (And.intro hx hxp)
            obtain ⟨z, hzz⟩ : ∃ z, x * r = z := ⟨_, rfl⟩
            have hz0 : 0 ≤ z := by rw [← hzz]; exact Int.mul_nonneg hx0 (by omega)
            have hz1 : z ≤ 160000 := by
              rw [← hzz]
              have h1 : x * r ≤ 10000 * r := Int.mul_le_mul_of_nonneg_right (by omega) (by omega)
              omega
            have hwz : IntKind.i64.wrap z = z := by rw [IntKind.wrap_i64]; omega
            clear hx hxp hbl hll
            go_wp2
            go_roundg (n - (k + 1))
            case measure => omega
            case rel =>
              obtain ⟨hx, hxp⟩ := HX.out
              refine ⟨k + 1, rfl, by omega, by go_num, ?_, hWk.setCell hBg _⟩
              show World.ownsRow _ _ _ _ _ _ (ints ((subTo l l (-(r - 1)) 0 k).set (0 + k) ((subTo l l (-(r - 1)) 0 k).getD (0 + k) 0 - -(r - 1) * l.getD k 0)))
              rw [Nat.zero_add, ← hx, ← hxp, times_self, hzz]
              exact own_set hownk k z
          · have hkn' : k = n := by omega
            subst hkn'
            have hget : Hid (∀ i, (subTo l l (-(r - 1)) 0 k).getD i 0 = l.getD i 0 * r) := fun i => by
              rw [subTo_get _ _ _ _ _ _ (by have := HN.out; omega)]
              split
              · rw [Nat.sub_zero, times_self]
              · rename_i h
                have : l.getD i 0 = 0 := by simp [List.getD, List.getElem?_eq_none (show l.length ≤ i by have := HN.out; omega)]
                rw [this]; simp
            have hgb : Hid (∀ i, 0 ≤ l.getD i 0 * r ∧ l.getD i 0 * r ≤ 160000) := fun i => by
              have h0 := (hbl i).1; have h1 := (hbl i).2
              have h2 : l.getD i 0 * r ≤ 10000 * r := Int.mul_le_mul_of_nonneg_right (by omega) (by omega)
              exact ⟨Int.mul_nonneg h0 (by omega), by omega⟩
            have c1 := own_cell hownk 0 (by omega)
            have hfr := own_fr hownk 0
            obtain ⟨x, hx⟩ : ∃ x, x = (subTo l l (-(r - 1)) 0 k).getD 0 0 := ⟨_, rfl⟩
            rw [← hx] at c1
            obtain ⟨hx0, hx1⟩ : 0 ≤ x ∧ x ≤ 160000 := by rw [hx, hget.out 0]; exact hgb.out 0
            have hk0 : (0 : Int) < (k : Int) := by omega
            have hown2 := own_set hownk 0 (x + d)
            have hlen2 : ((subTo l l (-(r - 1)) 0 k).set 0 (x + d)).length = k := by rw [List.length_set]; exact hll
            have hW2 : Below w.heap.size w (wr.setCell ⟨g, 0, none⟩ (.int .i64 (x + d))) := hWk.setCell hBg _
            have hq : Hid (∀ i, -1000000000000 ≤ ((subTo l l (-(r - 1)) 0 k).set 0 (x + d)).getD i 0 ∧ ((subTo l l (-(r - 1)) 0 k).set 0 (x + d)).getD i 0 ≤ 1000000000000) := fun i => by
              rw [getDset _ _ _ _ (by omega), hget.out i]
              have := hgb.out i
              split <;> omega
            have hval : Hid (vb 10000 ((subTo l l (-(r - 1)) 0 k).set 0 (x + d)) = (rval b (s.data.toList.take (t + 1)) : Int)) := by
              unfold Hid
              have e1 : (vb 10000 l) - -(r - 1) * (10000 ^ 0 * vb 10000 l) = vb 10000 l * r := by rw [Int.pow_zero, Int.one_mul]; exact times_self _ _
              have e2 : l.take k = l := List.take_of_length_le (by have := HN.out; omega)
              rw [vb_set _ _ _ _ (by omega), ← hx, subTo_val _ _ _ _ _ _ (by have := HN.out; omega) (by have := HN.out; omega), e2, e1, HV.out, Int.pow_zero, Int.one_mul, take_snoc s t ht', rval_snoc, HR.out, HD.out.1, Int.natCast_add, Int.natCast_mul, Int.mul_comm]
              omega
            have HDG2 : Hid (rdigs b (s.data.toList.take (t + 1)) = true) := by
              unfold Hid rdigs
              rw [take_snoc s t ht', List.all_append]
              have h1 := HDG.out
              unfold rdigs at h1
              rw [h1]
              simp
              exact HD.out.2
            have hmono : Hid ((rval b (s.data.toList.take t) : Int) ≤ (rval b (s.data.toList.take (t + 1)) : Int)) := by
              unfold Hid
              rw [take_snoc s t ht']
              exact Int.ofNat_le.2 (rval_mono b (by have := HR.out; omega) _ _)
            have HX := hide hx
            clear hx hbl
            go_wp2_with fail
            refine (l1Carry_more w.heap.size _ ((subTo l l (-(r - 1)) 0 k).set 0 (x + d)) _ (by rw [hlen2]; exact hown2) hW2.size (by omega) (by omega) hq.out).mono ?_
            rintro e w3 ⟨v', q, rfl, hown3, hbd3, hval3, hle3, hle4, hW3, hgrow⟩
            have hW3' : Below w.heap.size w w3 := hW2.trans hW3
            rw [hlen2, hval.out] at hgrow
            rw [hlen2] at hle3 hle4
            have hv3 : vb 10000 q = (rval b (s.data.toList.take (t + 1)) : Int) := by rw [hval3 (by rw [hval.out]; omega), hval.out]
            have hlast : q.length = 1 ∨ (10000 : Int) ^ (q.length - 1) ≤ (rval b (s.data.toList.take (t + 1)) : Int) := by
              rcases hgrow with h | h
              · rcases HLEN.out with h1 | h1
                · left; rw [h, HN.out]; exact h1
                · right; rw [h, HN.out]; exact Int.le_trans h1 hmono.out
              · exact .inr h
            have hq7 : q.length ≤ 700 := by
              rcases hlast with h | h
              · omega
              · refine few_parts (b := b) (t := t + 1) (by have := HR.out; omega) (by omega) ?_ h
                have := rval_lt b _ HDG2.out
                rw [List.length_take, Nat.min_eq_left (by simp; omega)] at this
                exact this
            have H3 := hide (And.intro hbd3 (And.intro hv3 hlast))
            have hq0 : 0 < q.length := by omega
            clear hbd3 hval3 hv3 hlast hgrow hle3 hle4 hownk hWk hown2 hW2 hW3 c1 hfr
            go_wp2
            go_roundg (s.size - (t + 1))
            case measure => omega
            case rel => exact ⟨t + 1, q, rfl, by omega, by go_num, hown3, hq0, hq7, H3.out.1, H3.out.2.1, HDG2, H3.out.2.2, hW3'⟩
      · rw [hdd.2 hbad]
        have HB : Hid (rdigs b s.data.toList = false) := by
          unfold Hid rdigs
          rw [List.all_eq_false]
          exact ⟨s.data.toList[t]'(by simpa using ht'), List.getElem_mem _, fun h => hbad (of_decide_eq_true h)⟩
        clear hdd hbad
        go_wp2
        go_ret2
        have hA : OfR b s (.returned (.tuple #[.string ⟨#[]⟩, .bool false])) := by
          refine ⟨⟨#[]⟩, ?_, ?_, fun _ => rfl⟩
          · rw [HB.out, Bool.and_false]
          · intro h; rw [HB.out] at h; cases h
        exact ⟨hA, hW⟩
    · have hts : t = s.size := by omega
      have htk : s.data.toList.take t = s.data.toList := by rw [hts]; exact List.take_of_length_le (by simp)
      rw [htk] at HV HDG
      clear hts htk
      go_wp2_with fail
      refine (l1Text_any w.heap.size _ l _ (by rw [← HN.out]; exact hown1) (by rw [← HN.out]; exact hl0) (by rw [← HN.out]; omega) HBD.out).mono ?_
      rintro e w2 ⟨tt, rfl, hc, hv, hW2⟩
      have HT : Hid (canonB tt.data.toList = true ∧ dval tt.data.toList = rval b s.data.toList) := ⟨hc, by have := HV.out; omega⟩
      have hW2' : Below w.heap.size w w2 := hW.trans (hW2.mono hWs)
      clear hc hv
      by_cases h0 : 0 < (s.size : Int)
      · have HZ : Hid (decide (0 < s.size) = true) := decide_eq_true (by omega)
        go_wp2
        go_ret2
        exact ⟨⟨tt, by rw [HZ.out, HDG.out]; rfl, fun _ => HT.out, fun h => by rw [HDG.out] at h; cases h⟩, hW2'⟩
      · have HZ : Hid (decide (0 < s.size) = false) := decide_eq_false (by omega)
        go_wp2
        go_ret2
        exact ⟨⟨tt, by rw [HZ.out]; rfl, fun _ => HT.out, fun h => by rw [HDG.out] at h; cases h⟩, hW2'⟩
end Go.Proofs.YtjgpjafndaikcaaDoor
