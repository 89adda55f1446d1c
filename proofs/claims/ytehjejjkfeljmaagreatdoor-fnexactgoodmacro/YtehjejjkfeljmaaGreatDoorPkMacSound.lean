/-
  The texts MacSound, MacSnd, MacRead, one behind the other.
-/
import Derived.Test.YtehjejjkfeljmaaGreatDoorPkShapeSpec
import Derived.Test.YtehjejjkfeljmaaGreatDoorPkReadNumA
import Derived.Test.YtehjejjkfeljmaaGreatDoorRecs

/-
  What isSymbol, endsInRow, isLiteral and binds of impl answer; that sound and soundAll come back.
-/
namespace Go.Proofs.YtehjejjkfeljmaaGreatDoor
open Go.RowKit
set_option linter.unusedVariables false

def symIs (k : Int) (t s : ByteArray) : Bool := decide (k = 2) && (t.toList == s.toList)
def dotsB : ByteArray := ⟨#[46, 46, 46]⟩

set_option maxHeartbeats 1000000 in
theorem isSymbol_any (k : Int) (t : ByteArray) (o : Option Addr) (n c : Nat) (s : ByteArray) (w : World) :
    Calls Tryz.prog 170 #[.agg (fmC k t (.slice o n c)), .string s] w fun e w' => e = .returned (.bool (symIs k t s)) ∧ Below w.heap.size w w' := by
  have hR := RowAt.new w 73 (fmC k t (.slice o n c))
  have c0 := (fm_c hR).1
  have c1 := (fm_c hR).2.1
  have hB : Below w.heap.size w (w.alloc (.cells (fmC k t (.slice o n c)) 73)) := (Below.refl _ _).alloc (Nat.le_refl _) _
  clear hR
  by_cases hk : k = 2
  · have hkb : (k == 2) = true := by simp [hk]
    have HE : Hid (symIs k t s = (t.toList == s.toList)) := by unfold Hid symIs; simp [hk]
    clear hk
    obtain ⟨b, hb⟩ : ∃ b, b = (t.toList == s.toList) := ⟨_, rfl⟩
    have HB := hideT' hb
    have hb' := hb.symm
    clear hb
    go_enter Tryz.func170, Tryz.ntmps170
    go_wp2
    go_ret
    exact ⟨by rw [HE.out, ← HB.out]; rfl, hB⟩
  · have hkb : (k == 2) = false := by simp [hk]
    have HE : Hid (symIs k t s = false) := by unfold Hid symIs; simp [hk]
    clear hk
    go_enter Tryz.func170, Tryz.ntmps170
    go_wp2
    go_ret
    exact ⟨by rw [HE.out]; rfl, hB⟩

/-- A list that ends with something and dots. -/
def endsP (As : List Tr) : Bool := decide (2 ≤ As.length) && (match As.getLast? with | some A => symIs A.k A.t dotsB | none => false)

set_option maxHeartbeats 1000000 in
theorem endsInRow_any (As : List Tr) (z : Value) (w : World) (hK : RowO w 73 z As) (h300 : As.length ≤ 300) :
    Calls Tryz.prog 107 #[z] w fun e w' => e = .returned (.bool (endsP As)) ∧ Below w.heap.size w w' := by
  obtain ⟨o, cap, hzz⟩ := hK.len
  obtain ⟨n, hn⟩ : ∃ n, n = As.length := ⟨_, rfl⟩
  rw [← hn] at hzz h300
  subst hzz
  by_cases h2 : n < 2
  · have h2b : decide ((2 : Int) ≤ (n : Int)) = false := by rw [decide_eq_false]; omega
    have h2c : ¬ (2 : Int) ≤ (n : Int) := by omega
    have HE : Hid (endsP As = false) := by unfold Hid endsP; rw [decide_eq_false (by omega)]; rfl
    clear hK hn
    go_enter Tryz.func107, Tryz.ntmps107
    go_wp2
    go_ret
    exact ⟨by rw [HE.out]; rfl, Below.refl _ _⟩
  · obtain ⟨m, hm⟩ : ∃ m, m = n - 1 := ⟨_, rfl⟩
    have hmn : m < n := by omega
    have hmi : (m : Int) < (n : Int) := by omega
    have h2b : (2 : Int) ≤ (n : Int) := by omega
    have hwr : IntKind.i64.wrap ((n : Int) - 1) = (m : Int) := by rw [IntKind.wrap_i64]; omega
    have hwr2 : (n : Int) - 1 = (m : Int) := by omega
    obtain ⟨g, off, cap', k1, t1, ks1, z1, hz, hA, d0, d1, d2, hr⟩ := hK.at m (by omega)
    obtain ⟨o1, p1, rfl⟩ := hr.len
    injection hz with hz1 hz2 hz3
    subst hz1
    have HE : Hid (endsP As = symIs k1 t1 dotsB) := by
      unfold Hid endsP
      have hl : As.getLast? = some (.mk k1 t1 ks1) := by rw [List.getLast?_eq_getElem?, ← hA]; congr 1; omega
      rw [decide_eq_true (by omega), hl]; rfl
    have HCALL := hideT' (isSymbol_any k1 t1 o1 ks1.length p1 dotsB w)
    have HW := hideT' hwr2
    clear hK hn hA hr hz2 hz3 h2 hm hwr2
    go_enter Tryz.func107, Tryz.ntmps107
    go_wp2_with fail
    refine HCALL.out.mono ?_
    rintro e w1 ⟨rfl, hB1⟩
    obtain ⟨b, hb⟩ : ∃ b, b = symIs k1 t1 dotsB := ⟨_, rfl⟩
    rw [← hb]
    have HB := hideT' hb
    clear hb
    go_wp2
    go_ret
    exact ⟨by rw [HE.out, ← HB.out]; rfl, hB1⟩

set_option maxHeartbeats 1000000 in
set_option maxRecDepth 100000 in
theorem index_any {w : World} {z : Value} {l : List ByteArray} (h : StrRow w z l) (hl : l.length < 2 ^ 40) (s : ByteArray) :
    Calls Tryz.prog 256 #[z, .string s] w fun e w' => (∃ i : Int, e = .returned (.int .i64 i) ∧ decide (0 ≤ i) = inL l s) ∧ w' = w := by
  obtain ⟨o, cap, rfl⟩ := h.len
  obtain ⟨n, hn⟩ : ∃ n, n = l.length := ⟨_, rfl⟩
  have hn40 : n < 2 ^ 40 := by omega
  rw [← hn] at h ⊢
  have HT := hideT' h
  have HNN := hideT' hn
  clear h hn hl
  go_enter Tryz.func256, Tryz.ntmps256
  go_wp2_with fail
  go_loopg [8] n (fun g i wr => ∃ (k : Nat), g = n - k ∧ k ≤ n ∧ i = .int .i64 (k : Int) ∧ Hid (inL (l.take k) s = false) ∧ wr = w)
  case atStart => exact ⟨0, rfl, by omega, by go_num, rfl, rfl⟩
  case round =>
    obtain ⟨k, rfl, hk, rfl, HN, rfl⟩ := hrel
    by_cases h : k < n
    · have hk' : k < l.length := by have := HNN.out; omega
      rcases HT.out with ⟨_, h2⟩ | ⟨g, off, cap', h1, h2, h3, h4⟩
      · rw [h2] at hk'; simp at hk'
      · injection h1 with h1 h1b h1c
        subst h1
        subst h1c
        have hc := h3 k hk'
        obtain ⟨x, hx⟩ : ∃ x, x = l.getD k default := ⟨_, rfl⟩
        rw [← hx] at hc
        have HX := hideT' hx
        have hlt : (k : Int) < (n : Int) := by omega
        have HK' := hideT' hk'
        clear h1b h2 h3 h4 hx hk'
        cases he : (s.toList == x.toList) with
        | true =>
          have HY : Hid (inL l s = true) := inL_at HK'.out (by rw [← HX.out, Bool.beq_comm]; exact he)
          go_wp2
          go_ret
          exact ⟨⟨(k : Int), rfl, by rw [HY.out, decide_eq_true]; omega⟩, rfl⟩
        | false =>
          have HE : Hid (inL (l.take (k + 1)) s = false) := inL_take HK'.out HN.out (by rw [← HX.out, Bool.beq_comm]; exact he)
          go_wp2_with fail
          go_roundg (n - (k + 1))
          case measure => omega
          case rel => exact ⟨k + 1, rfl, by omega, by go_num, HE.out, rfl⟩
    · have HY : Hid (inL l s = false) := by
        have := HN.out
        rwa [List.take_of_length_le (by have := HNN.out; omega)] at this
      have hge : ¬ (k : Int) < (n : Int) := by omega
      go_wp2
      go_ret
      exact ⟨⟨-1, rfl, by rw [HY.out]; rfl⟩, rfl⟩

set_option maxHeartbeats 1000000 in
theorem contains_any {w : World} {z : Value} {l : List ByteArray} (h : StrRow w z l) (hl : l.length < 2 ^ 40) (s : ByteArray) :
    Calls Tryz.prog 225 #[z, .string s] w fun e w' => e = .returned (.bool (inL l s)) ∧ w' = w := by
  have HC := hideT' (index_any h hl s)
  obtain ⟨o, cap, rfl⟩ := h.len
  clear h
  go_enter Tryz.func225, Tryz.ntmps225
  go_wp2_with fail
  refine HC.out.mono ?_
  rintro e w1 ⟨⟨i, rfl, hi⟩, rfl⟩
  have HI := hideT' hi
  clear hi
  go_wp2
  go_ret
  exact ⟨by rw [← HI.out]; rfl, rfl⟩

/-- A macro that is read: its literals and its rules. -/
def MfAt (w : World) (M : Nat) (zl vr : Value) : Prop := RowAt w M 68 #[zl, vr]

set_option maxHeartbeats 1000000 in
theorem isLiteral_any (M : Nat) (zl vr : Value) (lits : List ByteArray) (s : ByteArray) (w : World) (hM : MfAt w M zl vr) (hl : StrRow w zl lits) (h40 : lits.length < 2 ^ 40) :
    Calls Tryz.prog 172 #[.pointer (some ⟨M, 0, none⟩), .string s] w fun e w' => e = .returned (.bool (inL lits s)) ∧ w' = w := by
  have c0 : w.cell? ⟨M, 0, none⟩ = some zl := by rw [cell_of_row w M _ _ _ _ hM]; rfl
  have HC := hideT' (contains_any hl h40 s)
  obtain ⟨o, cap, rfl⟩ := hl.len
  clear hM hl
  go_enter Tryz.func172, Tryz.ntmps172
  go_wp2_with fail
  refine HC.out.mono ?_
  rintro e w1 ⟨rfl, rfl⟩
  obtain ⟨b, hb⟩ : ∃ b, b = inL lits s := ⟨_, rfl⟩
  rw [← hb]
  have HB := hideT' hb
  clear hb
  go_wp2
  go_ret
  exact ⟨by rw [← HB.out]; rfl, rfl⟩

/-- A pattern that is bound to what it matches. -/
def bindsP (lits : List ByteArray) (k : Int) (t : ByteArray) : Bool := (decide (k = 2) && !(t.toList == [95])) && !inL lits t

set_option maxHeartbeats 1000000 in
theorem binds_any (M : Nat) (zl vr : Value) (lits : List ByteArray) (k : Int) (t : ByteArray) (o : Option Addr) (n c : Nat) (w : World) (hM : MfAt w M zl vr) (hl : StrRow w zl lits) (h40 : lits.length < 2 ^ 40) :
    Calls Tryz.prog 171 #[.pointer (some ⟨M, 0, none⟩), .agg (fmC k t (.slice o n c))] w fun e w' => e = .returned (.bool (bindsP lits k t)) ∧ Below w.heap.size w w' := by
  have hR := RowAt.new w 73 (fmC k t (.slice o n c))
  have c0 := (fm_c hR).1
  have c1 := (fm_c hR).2.1
  have hB : Below w.heap.size w (w.alloc (.cells (fmC k t (.slice o n c)) 73)) := (Below.refl _ _).alloc (Nat.le_refl _) _
  have hMl : M < w.heap.size := RowAt.lt hM
  have HC := hideT' (isLiteral_any M zl vr lits t _ (RowAt.below hM hB hMl) (hl.below hB) h40)
  clear hR hM hl
  by_cases hk : k = 2
  · have hkb : (k == 2) = true := by simp [hk]
    cases hu : (t.toList == [95]) with
    | true =>
      have HE : Hid (bindsP lits k t = false) := by unfold Hid bindsP; simp [hu]
      have hub : (t.toList != [95]) = false := by simp [bne, hu]
      clear hk
      go_enter Tryz.func171, Tryz.ntmps171
      go_wp2
      go_ret
      exact ⟨by rw [HE.out]; rfl, hB⟩
    | false =>
      have HE : Hid (bindsP lits k t = !inL lits t) := by unfold Hid bindsP; simp [hk, hu]
      have hub : (t.toList != [95]) = true := by simp [bne, hu]
      clear hk
      go_enter Tryz.func171, Tryz.ntmps171
      go_wp2_with fail
      refine HC.out.mono ?_
      rintro e w1 ⟨rfl, rfl⟩
      obtain ⟨b, hb⟩ : ∃ b, b = inL lits t := ⟨_, rfl⟩
      rw [← hb]
      have HB := hideT' hb
      clear hb
      go_wp2
      go_ret
      exact ⟨by rw [HE.out, ← HB.out]; rfl, hB⟩
  · have hkb : (k == 2) = false := by simp [hk]
    have HE : Hid (bindsP lits k t = false) := by unfold Hid bindsP; simp [hk]
    clear hk
    go_enter Tryz.func171, Tryz.ntmps171
    go_wp2
    go_ret
    exact ⟨by rw [HE.out]; rfl, hB⟩
end Go.Proofs.YtehjejjkfeljmaaGreatDoor

/-
  sound and soundAll of impl come back, whatever they tell.
-/
namespace Go.Proofs.YtehjejjkfeljmaaGreatDoor
open Go.RowKit
set_option linter.unusedVariables false

/-- A map from texts to numbers. -/
def MapI (w : World) (r : Nat) : Prop := ∃ m, StrMap w r m ∧ ∀ p ∈ m, ∃ n : Int, p.2 = .int .i64 n
theorem putM_mem (s : ByteArray) (x : Value) : ∀ (m : List (ByteArray × Value)) (p : ByteArray × Value), p ∈ putM m s x → p.2 = x ∨ p ∈ m
  | [], p, h => by rw [putM] at h; simp at h; subst h; exact .inl rfl
  | (k, v) :: m, p, h => by
    rw [putM] at h
    split at h
    · rcases List.mem_cons.1 h with h | h
      · subst h; exact .inl rfl
      · exact .inr (List.mem_cons_of_mem _ h)
    · rcases List.mem_cons.1 h with h | h
      · subst h; exact .inr (by simp)
      · rcases putM_mem s x m p h with h | h
        · exact .inl h
        · exact .inr (List.mem_cons_of_mem _ h)
theorem getM_mem (s : ByteArray) (v : Value) : ∀ (m : List (ByteArray × Value)), getM m s = some v → ∃ p ∈ m, p.2 = v
  | [], h => by cases h
  | (k, u) :: m, h => by
    rw [getM] at h
    split at h
    · injection h with h; exact ⟨(k, u), by simp, h⟩
    · obtain ⟨p, hp, e⟩ := getM_mem s v m h
      exact ⟨p, List.mem_cons_of_mem _ hp, e⟩
theorem MapI.look {w : World} {r : Nat} (h : MapI w r) (s : ByteArray) : ∃ n : Int, (Instr.lookup 168 (.map (some r)) (.string s) false).run Tryz.prog w = .ok (.int .i64 n) w := by
  obtain ⟨m, hM, hv⟩ := h
  have hl := (look_str 168 9 3 Tryz.underlying168 Tryz.underlying9 (.int .i64 0) (zero_int w) r s m hM).2
  cases hg : getM m s with
  | none => rw [hg] at hl; exact ⟨0, hl⟩
  | some v =>
    obtain ⟨p, hp, e⟩ := getM_mem s v m hg
    obtain ⟨n, hn⟩ := hv p hp
    rw [hg] at hl
    exact ⟨n, by rw [hl, ← e, hn]; rfl⟩
theorem MapI.put {w : World} {r : Nat} (h : MapI w r) (s : ByteArray) (n : Int) : ∃ w', (Instr.mapUpdate 168 (.map (some r)) (.string s) (.int .i64 n)).run Tryz.prog w = .ok () w' ∧ MapI w' r ∧ w.grownBy w' (some r) ∧ w'.heap.size = w.heap.size := by
  obtain ⟨m, hM, hv⟩ := h
  obtain ⟨w', h1, h2, h3, h4⟩ := upd_str 168 9 3 Tryz.underlying168 Tryz.underlying9 r s (.int .i64 n) m hM
  refine ⟨w', h1, ⟨_, h2, fun p hp => ?_⟩, h3, h4⟩
  rcases putM_mem s _ m p hp with e | e
  · exact ⟨n, e⟩
  · exact hv p e
theorem MapI.below {w w' : World} {r B : Nat} (h : MapI w r) (hg : Below B w w') (hr : r < B) : MapI w' r := by
  obtain ⟨m, h1, h2⟩ := h
  exact ⟨m, h1.below hg hr, h2⟩
theorem MapI.lt {w : World} {r : Nat} (h : MapI w r) : r < w.heap.size := by
  obtain ⟨m, h1, h2⟩ := h
  exact h1.lt

/-- What is left behind a look at patterns: a map of numbers as it may be, all ahead of it as it was. -/
def SndAns (w0 w : World) (e : Ending) (w' : World) : Prop := (∃ b : Bool, e = .returned (.bool b)) ∧ MapI w' w0.heap.size ∧ Below w0.heap.size w0 w' ∧ w.heap.size ≤ w'.heap.size

def SndN (w0 : World) (M : Nat) (N : Nat) : Prop := ∀ (k : Int) (t : ByteArray) (ks : List Tr), 1 + szs ks ≤ N → 1 + szs ks ≤ 300 → ∀ (z : Value) (w : World) (r : Bool), RowRd w0 73 z ks → Below w0.heap.size w0 w → MapI w w0.heap.size →
  Calls Tryz.prog 169 #[.pointer (some ⟨M, 0, none⟩), .agg (fmC k t z), .bool r, .map (some w0.heap.size)] w fun e w' => SndAns w0 w e w'
def SndAllN (w0 : World) (M : Nat) (N : Nat) : Prop := ∀ (As : List Tr), szs As ≤ N → szs As ≤ 300 → ∀ (z : Value) (w : World) (r : Bool), RowO w0 73 z As → Below w0.heap.size w0 w → MapI w w0.heap.size →
  Calls Tryz.prog 106 #[.pointer (some ⟨M, 0, none⟩), z, .bool r, .map (some w0.heap.size)] w fun e w' => SndAns w0 w e w'

set_option maxHeartbeats 4000000 in
set_option maxRecDepth 100000 in
theorem sound_step (w0 : World) (M : Nat) (zl vr : Value) (lits : List ByteArray) (hM : MfAt w0 M zl vr) (hl : StrRow w0 zl lits) (h40 : lits.length < 2 ^ 40) (N : Nat) (IH : ∀ K, K < N → SndAllN w0 M K) : SndN w0 M N := by
  intro k t ks hN h300 z w r hK hB hMap
  obtain ⟨o, cap, rfl⟩ := hK.len
  have hMl : M < w0.heap.size := RowAt.lt hM
  have hsB := hB.size
  have hmlt := hMap.lt
  obtain ⟨n, hn⟩ : ∃ n, n = ks.length := ⟨_, rfl⟩
  rw [← hn] at hK ⊢
  have hR := RowAt.new w 73 (fmC k t (.slice o n cap))
  have c0 := (fm_c hR).1
  have c1 := (fm_c hR).2.1
  have c2 := (fm_c hR).2.2
  have hBn : Below w.heap.size w (w.alloc (.cells (fmC k t (.slice o n cap)) 73)) := (Below.refl _ _).alloc (Nat.le_refl _) _
  have hB1 : Below w0.heap.size w0 (w.alloc (.cells (fmC k t (.slice o n cap)) 73)) := hB.trans (hBn.mono hsB)
  have hM1 : MapI (w.alloc (.cells (fmC k t (.slice o n cap)) 73)) w0.heap.size := hMap.below hBn hmlt
  have HFIN : Hid (∀ (b : Bool) (w' : World), MapI w' w0.heap.size → Below w0.heap.size w0 w' → w.heap.size ≤ w'.heap.size → SndAns w0 w (.returned (.bool b)) w') := fun b w' h1 h2 h3 => ⟨⟨b, rfl⟩, h1, h2, h3⟩
  have HM1 := hideT' hM1
  have HB1 := hideT' hB1
  have HMF := hideT' (And.intro hM hl)
  have HKD := hideT' hK
  have HIH := hideT' IH
  have HSZ := hideT' (And.intro hN h300)
  have HR := hideT' hR
  have hsz1 : w.heap.size ≤ (w.alloc (.cells (fmC k t (.slice o n cap)) 73)).heap.size := by simp
  clear hM hl hK IH hN h300 hR hBn hB1 hM1 hB hMap hn
  by_cases hk6 : k = 6
  · have hkb : (k == 6) = true := by simp [hk6]
    clear hk6
    go_enter Tryz.func169, Tryz.ntmps169
    go_wp2
    go_ret
    exact HFIN.out _ _ HM1.out HB1.out hsz1
  have hkb6 : (k == 6) = false := by simp [hk6]
  have HC1 := hideT' (isSymbol_any k t o n cap dotsB (w.alloc (.cells (fmC k t (.slice o n cap)) 73)))
  clear hk6
  go_enter Tryz.func169, Tryz.ntmps169
  go_wp2_with fail
  refine HC1.out.mono ?_
  rintro e w1 ⟨rfl, hW1⟩
  have hs1 := hW1.size
  simp only [World.size_alloc] at hs1
  have HB2 := hideT' (HB1.out.trans (hW1.mono (by simp; omega)))
  have HM2 := hideT' (HM1.out.below hW1 (by simp; omega))
  have hr1 := RowAt.below HR.out hW1 (by simp)
  have d0 := (fm_c hr1).1
  have d1 := (fm_c hr1).2.1
  have d2 := (fm_c hr1).2.2
  obtain ⟨q, hq⟩ : ∃ q, q = symIs k t dotsB := ⟨_, rfl⟩
  rw [← hq]
  have HR1 := hideT' hr1
  clear hq hW1 hr1 c0 c1 c2
  cases q with
  | true =>
    go_wp2
    go_ret
    exact HFIN.out _ _ HM2.out HB2.out (by omega)
  | false =>
    by_cases hk5 : k = 5
    · have hkb : (k == 5) = true := by simp [hk5]
      have HC2 := hideT' (HIH.out (szs ks) (by have := HSZ.out.1; omega) ks (Nat.le_refl _) (by have := HSZ.out.2; omega) (.slice o n cap) w1 r HKD.out.rowO HB2.out HM2.out)
      clear hk5
      go_wp2_with fail
      refine HC2.out.mono ?_
      rintro e w2 ⟨⟨b, rfl⟩, hM3, hB3, hs3⟩
      have HE3 := hideT' (And.intro hM3 hB3)
      clear hM3 hB3
      go_wp2
      go_ret
      exact HFIN.out _ _ HE3.out.1 HE3.out.2 (by omega)
    · have hkb : (k == 5) = false := by simp [hk5]
      have HC3 := hideT' (binds_any M zl vr lits k t o n cap w1 (RowAt.below HMF.out.1 HB2.out hMl) (HMF.out.2.below HB2.out) h40)
      clear hk5
      go_wp2_with fail
      refine HC3.out.mono ?_
      rintro e w2 ⟨rfl, hW2⟩
      have hs2 := hW2.size
      have HB3 := hideT' (HB2.out.trans (hW2.mono (by omega)))
      have hM3 := HM2.out.below hW2 (by omega)
      have hr2 := RowAt.below HR1.out hW2 (by omega)
      have e1 := (fm_c hr2).2.1
      obtain ⟨q2, hq2⟩ : ∃ q, q = bindsP lits k t := ⟨_, rfl⟩
      rw [← hq2]
      clear hq2 hW2 d0 d1 d2
      cases q2 with
      | false =>
        have HM3 := hideT' hM3
        go_wp2
        go_ret
        exact HFIN.out _ _ HM3.out HB3.out (by omega)
      | true =>
        obtain ⟨v, hlook⟩ := hM3.look t
        obtain ⟨x, hx⟩ : ∃ x, x = IntKind.i64.wrap (v + 1) := ⟨_, rfl⟩
        obtain ⟨w3, hput, hM4, hg4, hs4⟩ := hM3.put t x
        obtain ⟨v2, hlook2⟩ := hM4.look t
        have hr3 := RowAt.grown hr2 hg4 (by intro e; injection e; omega)
        have f1 := (fm_c hr3).2.1
        have HB4 := hideT' (HB3.out.grown hg4 (by omega) (by intro k hk; cases hk; omega))
        have HM4 := hideT' hM4
        have hxx := hx.symm
        clear hx hM3 hM4 hg4 hr2 hr3
        go_wp2
        go_ret
        exact HFIN.out _ _ HM4.out HB4.out (by omega)

theorem cell_block' {w : World} {a : Addr} {v : Value} (h : w.cell? a = some v) : a.block < w.heap.size := by
  rcases Nat.lt_or_ge a.block w.heap.size with h1 | h1
  · exact h1
  · have h2 : w.heap[a.block]? = none := Array.getElem?_eq_none h1
    simp [World.cell?, h2] at h
/-- A row up to one. -/
theorem RowO.to {w : World} {T S : TypeId} {z : Value} {As : List Tr} (h : RowO w T z As) (hS : Tryz.prog.underlying S = some (.slice T)) (h3 : (Tryz.prog.info? T).map (·.size) = some 3) (m : Nat) (hm : m ≤ As.length) :
    ∃ z', (∀ w' : World, (Instr.sliceAt S z none (some (.int .i64 (m : Int))) none).run Tryz.prog w' = .ok z' w') ∧ RowO w T z' (As.take m) := by
  have hsz : ∀ w' : World, (sizeOf T).run Tryz.prog w' = .ok 3 w' := fun w' => by
    cases hq : Tryz.prog.info? T with
    | none => simp [hq] at h3
    | some i => simp [hq] at h3; simp [sizeOf, typeInfo, hq, h3]
  have key : ∀ (o : Option Addr) (cap : Nat), m ≤ cap → ∀ (w' : World), (Instr.sliceAt S (.slice o As.length cap) none (some (.int .i64 (m : Int))) none).run Tryz.prog w' = .ok (.slice (if cap = 0 then o else o.map (·.add 0)) m cap) w' := fun o cap hc w' => by
    simp [Instr.sliceAt, Instr.slice, run_underlying hS, Instr.sliceBounds, Instr.sliceBound, asIntOf, hc, hsz, Result.andThen]
  have hl : (As.take m).length = m := by rw [List.length_take]; omega
  rcases h with ⟨rfl, rfl⟩ | ⟨g, cap, pre, post, cap0, rfl, h2, h4⟩
  · have : m = 0 := by simpa using hm
    subst this
    exact ⟨_, key none 0 (by omega), .inl ⟨rfl, by simp⟩⟩
  · refine ⟨_, key _ cap (by omega), ?_⟩
    refine .inr ⟨g, cap, pre, As.drop m ++ post, cap0, ?_, by omega, ?_⟩
    · rw [hl]
      split
      · rfl
      · rw [Option.map_some, addr_mid, Nat.add_zero]
    · have e : pre ++ As.take m ++ (As.drop m ++ post) = pre ++ As ++ post := by
        rw [← List.append_assoc (pre ++ As.take m), List.append_assoc pre, List.take_append_drop]
      rw [e]; exact h4
theorem szs_take : ∀ (As : List Tr) (m : Nat), szs (As.take m) ≤ szs As
  | [], m => by simp
  | A :: As, 0 => by rw [List.take_zero, szs]; omega
  | A :: As, m + 1 => by
    have := szs_take As m
    rw [List.take_succ_cons, szs, szs]; omega

set_option maxHeartbeats 8000000 in
set_option maxRecDepth 100000 in
theorem soundAll_step (w0 : World) (M : Nat) (N : Nat) (HSN : SndN w0 M N) : SndAllN w0 M N := by
  intro As hN h300 z w r hK hB hMap
  have hz := zero_fm.1
  have hls := len_szs As
  obtain ⟨o, cap, rfl⟩ := hK.len
  have hK' := hK
  have HS := hideT' HSN
  have HK := hideT' hK
  have HSZ := hideT' (And.intro hN h300)
  have HFIN : Hid (∀ (b : Bool) (w' : World), MapI w' w0.heap.size → Below w0.heap.size w0 w' → w.heap.size ≤ w'.heap.size → SndAns w0 w (.returned (.bool b)) w') := fun b w' h1 h2 h3 => ⟨⟨b, rfl⟩, h1, h2, h3⟩
  have HC1 := hideT' (endsInRow_any As (.slice o As.length cap) w (hK.below hB) (by omega))
  have HMB := hideT' (And.intro hMap hB)
  obtain ⟨n, hn⟩ : ∃ n, n = As.length := ⟨_, rfl⟩
  have hn300 : n ≤ 300 := by omega
  have HNN := hideT' hn
  clear hN h300 hK hK' HSN hMap hB hls
  go_enter Tryz.func106, Tryz.ntmps106
  go_wp2_with fail
  refine HC1.out.mono ?_
  rintro e w1 ⟨rfl, hW1⟩
  have hs1 := hW1.size
  have HB1 := hideT' (HMB.out.2.trans (hW1.mono HMB.out.2.size))
  have HM1 := hideT' (HMB.out.1.below hW1 HMB.out.1.lt)
  have HEE : Hid (endsP As = true → 2 ≤ As.length) := fun h => by
    unfold endsP at h
    rw [Bool.and_eq_true] at h
    exact of_decide_eq_true h.1
  obtain ⟨q, hq⟩ : ∃ q, q = endsP As := ⟨_, rfl⟩
  rw [← hq]
  have HQ := hideT' hq
  clear hq hW1 hn
  cases q with
  | false =>
    obtain ⟨nn, hnn⟩ : ∃ nn, nn = As.length := ⟨_, rfl⟩
    rw [← hnn]
    have hnn300 : nn ≤ 300 := by have := len_szs (As); have := HSZ.out.2; omega
    have HN2 := hideT' hnn
    clear hnn
    go_wp2_with fail
    skip
    go_loopg [33] nn (fun gg i wr => ∃ (j : Nat), gg = nn - j ∧ j ≤ nn ∧ i = .int .i64 (j : Int) ∧ Hid (MapI wr w0.heap.size ∧ Below w0.heap.size w0 wr) ∧ w.heap.size ≤ wr.heap.size)
    case atStart => exact ⟨0, rfl, by omega, by go_num, ⟨HM1.out, HB1.out⟩, by omega⟩
    case round =>
      obtain ⟨j, rfl, hjn, rfl, HX, hsr⟩ := hrel
      by_cases hlt : (j : Int) < (nn : Int)
      · have hj' : j < (As).length := by have := HN2.out; omega
        obtain ⟨g, off, cap', k1, t1, ks1, z1, hzz, hA, d0, d1, d2, hr⟩ := ((HK.out).below HX.out.2).at j hj'
        have hkid := szs_kid (As) j hA
        have hr0 : RowRd w0 73 z1 ks1 := by
          obtain ⟨g', off', cap2, k2, t2, ks2, z2, hzz2, hA2, c0, c1, c2, hr2⟩ := (HK.out).at j hj'
          rw [hA] at hA2
          injection hA2 with hA2
          injection hA2 with _ _ hA2
          subst hA2
          have hbl : ∀ p : Addr, ∀ v, w0.cell? p = some v → wr.cell? p = some v := fun p v h => by
            rw [HX.out.2.cell (p := p) (cell_block' h)]; exact h
          have e2 := hbl _ _ c2
          rw [hzz] at hzz2
          injection hzz2 with q1 q2 q3
          injection q1 with q1
          injection q1 with q1 q4
          subst q1
          subst q4
          rw [d2] at e2
          injection e2 with e2
          rw [e2]
          exact hr2
        obtain ⟨o1, p1, rfl⟩ := hr.len
        injection hzz with hz1 hz2 hz3
        first | subst hz1 | (injection hz1 with hz1; injection hz1 with hz1; subst hz1)
        have hsW := HX.out.2.size
        have hml := HX.out.1.lt
        have hBn : Below wr.heap.size wr (wr.alloc (.cells #[.int .i64 k1, .string t1, .slice o1 ks1.length p1] 73)) := (Below.refl _ _).alloc (Nat.le_refl _) _
        have HCALL := hideT' (HS.out k1 t1 ks1 (by have := HSZ.out.1; omega) (by have := HSZ.out.2; omega) (.slice o1 ks1.length p1) (wr.alloc (.cells #[.int .i64 k1, .string t1, .slice o1 ks1.length p1] 73)) r hr0 (HX.out.2.trans (hBn.mono hsW)) (HX.out.1.below hBn hml))
        have hsn : (wr.alloc (.cells #[.int .i64 k1, .string t1, .slice o1 ks1.length p1] 73)).heap.size = wr.heap.size + 1 := by simp
        clear hA hr hr0 hz2 hz3 hkid hBn
        go_wp2_with fail
        refine HCALL.out.mono ?_
        rintro e w3 ⟨⟨b, rfl⟩, hM3, hB3, hs3⟩
        have HE3 := hideT' (And.intro hM3 hB3)
        clear hM3 hB3
        cases b with
        | false =>
          go_wp2
          go_ret
          exact HFIN.out _ _ HE3.out.1 HE3.out.2 (by omega)
        | true =>
          go_wp2
          go_roundg (nn - (j + 1))
          case measure => omega
          case rel => exact ⟨j + 1, rfl, by omega, by go_num, HE3, by omega⟩
      · go_wp2
        go_ret
        exact HFIN.out _ _ HX.out.1 HX.out.2 hsr
  | true =>
    have h2 : 2 ≤ n := by have := HEE.out HQ.out.symm; have := HNN.out; omega
    obtain ⟨m, hm⟩ : ∃ m, m = n - 2 := ⟨_, rfl⟩
    have hmn : m < n := by omega
    have hmi : (m : Int) < (n : Int) := by omega
    have hwr : IntKind.i64.wrap ((n : Int) - 2) = (m : Int) := by rw [IntKind.wrap_i64]; omega
    have hwr2 : (n : Int) - 2 = (m : Int) := by omega
    rw [← HNN.out]
    cases r with
    | true =>
      clear hm hwr2
      go_wp2
      go_ret
      exact HFIN.out _ _ HM1.out HB1.out (by omega)
    | false =>
      obtain ⟨g, off, cap', k1, t1, ks1, z1, hzz, hA, d0, d1, d2, hr⟩ := (HK.out.below HB1.out).at m (by have := HNN.out; omega)
      have hkid := szs_kid As m hA
      have hr0 : RowRd w0 73 z1 ks1 := by
        obtain ⟨g', off', cap2, k2, t2, ks2, z2, hzz2, hA2, c0, c1, c2, hr2⟩ := HK.out.at m (by have := HNN.out; omega)
        rw [hA] at hA2
        injection hA2 with hA2
        injection hA2 with _ _ hA2
        subst hA2
        have hbl : ∀ p : Addr, ∀ v, w0.cell? p = some v → w1.cell? p = some v := fun p v h => by
          rw [HB1.out.cell (p := p) (cell_block' h)]; exact h
        have e2 := hbl _ _ c2
        rw [hzz] at hzz2
        injection hzz2 with q1 q2 q3
        injection q1 with q1
        injection q1 with q1 q4
        subst q1
        subst q4
        rw [d2] at e2
        injection e2 with e2
        rw [e2]
        exact hr2
      obtain ⟨o1, p1, rfl⟩ := hr.len
      injection hzz with hz1 hz2 hz3
      subst hz1
      have hsW := HB1.out.size
      have HCALL := hideT' (HS.out k1 t1 ks1 (by have := HSZ.out.1; omega) (by have := HSZ.out.2; omega) (.slice o1 ks1.length p1) w1 true hr0 HB1.out HM1.out)
      obtain ⟨z5, hsl, hO5⟩ := HK.out.to Tryz.underlying71 zero_fm.2 m (by have := HNN.out; omega)
      rw [← HNN.out] at hsl
      have HSL := hideT' hsl
      have HO5 := hideT' hO5
      clear hA hr hr0 hz2 hz3 hkid hm hwr2 hsl hO5
      go_wp2_with fail
      refine HCALL.out.mono ?_
      rintro e w3 ⟨⟨b, rfl⟩, hM3, hB3, hs3⟩
      have HE3 := hideT' (And.intro hM3 hB3)
      clear hM3 hB3
      cases b with
      | false =>
        go_wp2
        go_ret
        exact HFIN.out _ _ HE3.out.1 HE3.out.2 (by omega)
      | true =>
        have HST := hideT' (szs_take As m)
        obtain ⟨nn, hnn⟩ : ∃ nn, nn = (As.take m).length := ⟨_, rfl⟩
        obtain ⟨o5, p5, hz5⟩ := HO5.out.len
        rw [← hnn] at hz5
        subst hz5
        have hsl3 := HSL.out w3
        have hnn300 : nn ≤ 300 := by have := len_szs (As.take m); have := And.intro HSZ.out.2 HST.out; omega
        have HN2 := hideT' hnn
        clear hnn
        go_wp2_with fail
        clear hwr hmi hsl3 d0 d1 d2 h2 hmn
        go_loopg [33] nn (fun gg i wr => ∃ (j : Nat), gg = nn - j ∧ j ≤ nn ∧ i = .int .i64 (j : Int) ∧ Hid (MapI wr w0.heap.size ∧ Below w0.heap.size w0 wr) ∧ w.heap.size ≤ wr.heap.size)
        case atStart => exact ⟨0, rfl, by omega, by go_num, ⟨HE3.out.1, HE3.out.2⟩, by omega⟩
        case round =>
          obtain ⟨j, rfl, hjn, rfl, HX, hsr⟩ := hrel
          by_cases hlt : (j : Int) < (nn : Int)
          · have hj' : j < (As.take m).length := by have := HN2.out; omega
            obtain ⟨g, off, cap', k1, t1, ks1, z1, hzz, hA, d0, d1, d2, hr⟩ := ((HO5.out).below HX.out.2).at j hj'
            have hkid := szs_kid (As.take m) j hA
            have hr0 : RowRd w0 73 z1 ks1 := by
              obtain ⟨g', off', cap2, k2, t2, ks2, z2, hzz2, hA2, c0, c1, c2, hr2⟩ := (HO5.out).at j hj'
              rw [hA] at hA2
              injection hA2 with hA2
              injection hA2 with _ _ hA2
              subst hA2
              have hbl : ∀ p : Addr, ∀ v, w0.cell? p = some v → wr.cell? p = some v := fun p v h => by
                rw [HX.out.2.cell (p := p) (cell_block' h)]; exact h
              have e2 := hbl _ _ c2
              rw [hzz] at hzz2
              injection hzz2 with q1 q2 q3
              injection q1 with q1
              injection q1 with q1 q4
              subst q1
              subst q4
              rw [d2] at e2
              injection e2 with e2
              rw [e2]
              exact hr2
            obtain ⟨o1, p1, rfl⟩ := hr.len
            injection hzz with hz1 hz2 hz3
            first | subst hz1 | (injection hz1 with hz1; injection hz1 with hz1; subst hz1)
            have hsW := HX.out.2.size
            have hml := HX.out.1.lt
            have hBn : Below wr.heap.size wr (wr.alloc (.cells #[.int .i64 k1, .string t1, .slice o1 ks1.length p1] 73)) := (Below.refl _ _).alloc (Nat.le_refl _) _
            have HCALL := hideT' (HS.out k1 t1 ks1 (by have := And.intro HSZ.out.1 HST.out; omega) (by have := And.intro HSZ.out.2 HST.out; omega) (.slice o1 ks1.length p1) (wr.alloc (.cells #[.int .i64 k1, .string t1, .slice o1 ks1.length p1] 73)) false hr0 (HX.out.2.trans (hBn.mono hsW)) (HX.out.1.below hBn hml))
            have hsn : (wr.alloc (.cells #[.int .i64 k1, .string t1, .slice o1 ks1.length p1] 73)).heap.size = wr.heap.size + 1 := by simp
            clear hA hr hr0 hz2 hz3 hkid hBn
            go_wp2_with fail
            refine HCALL.out.mono ?_
            rintro e w3 ⟨⟨b, rfl⟩, hM3, hB3, hs3⟩
            have HE3 := hideT' (And.intro hM3 hB3)
            clear hM3 hB3
            cases b with
            | false =>
              go_wp2
              go_ret
              exact HFIN.out _ _ HE3.out.1 HE3.out.2 (by omega)
            | true =>
              go_wp2
              go_roundg (nn - (j + 1))
              case measure => omega
              case rel => exact ⟨j + 1, rfl, by omega, by go_num, HE3, by omega⟩
          · go_wp2
            go_ret
            exact HFIN.out _ _ HX.out.1 HX.out.2 hsr
theorem snd_all (w0 : World) (M : Nat) (zl vr : Value) (lits : List ByteArray) (hM : MfAt w0 M zl vr) (hl : StrRow w0 zl lits) (h40 : lits.length < 2 ^ 40) : ∀ N, SndAllN w0 M N := by
  intro N
  induction N using Nat.strongRecOn with
  | _ N IH => exact soundAll_step w0 M N (sound_step w0 M zl vr lits hM hl h40 N IH)
end Go.Proofs.YtehjejjkfeljmaaGreatDoor

/-
  The one datum of a text: what readForm of impl and l4One of the model answer.
-/
namespace Go.Proofs.YtehjejjkfeljmaaGreatDoor
open Go.RowKit
set_option linter.unusedVariables false

/-- A struct and one value more are what is answered. -/
theorem res_row_tmp {fn : Func} {x u : Tmp} {T : TypeId} (h : fn.results = #[.cell x T, .tmp u]) (tmps : Array Value) (w : World) (b : Nat) (cs : Array Value) (v : Value) (fs : Array Field)
    (hp : tmps.getD x undef = .pointer (some ⟨b, 0, none⟩)) (hv : tmps.getD u undef = v) (hN : RowAt w b T cs) (hu : Tryz.prog.underlying T = some (.struct fs)) (hi : (Tryz.prog.info? T).map (·.size) = some cs.size) : (results fn tmps).run Tryz.prog w = .ok (.tuple #[.agg cs, v]) w := by
  rw [results_cell_tmp h, hp, hv]
  simp only [asAddr, Sem.run_pure, Result.andThen, run_loadVar_row w b T T cs (0, 0) (.struct fs) hN hu rfl hi]

/-- A row of forms whose blocks are as P says. -/
def RowP (w : World) (T : TypeId) (P : Nat → Prop) (z : Value) (As : List Tr) : Prop := ∃ ys, RowIn w T P z ys ∧ trsC w T P As ys
theorem RowP.mono {w w' : World} {T : TypeId} {P Q : Nat → Prop} {z : Value} {As : List Tr} (h : RowP w T P z As) (hP : ∀ g, P g → Q g ∧ (∀ o, w.heap[g]? = some o → w'.heap[g]? = some o)) : RowP w' T Q z As := by
  obtain ⟨ys, h1, h2⟩ := h
  exact ⟨ys, h1.mono hP, trsC_mono hP As ys h2⟩
theorem RowP.rd {w : World} {T : TypeId} {P : Nat → Prop} {z : Value} {As : List Tr} (h : RowP w T P z As) (hP : ∀ g, P g → g < w.heap.size) : RowRd w T z As := h.mono (fun g hg => ⟨hP g hg, fun o ho => ho⟩)
theorem RowP.at {w : World} {T : TypeId} {P : Nat → Prop} {z : Value} {As : List Tr} (h : RowP w T P z As) (i : Nat) (hi : i < As.length) :
    ∃ g cap k t ks z', z = .slice (some ⟨g, 0, none⟩) As.length cap ∧ As[i]? = some (.mk k t ks) ∧ w.cell? ⟨g, i * 3, none⟩ = some (.int .i64 k) ∧ w.cell? ⟨g, i * 3 + 1, none⟩ = some (.string t) ∧ w.cell? ⟨g, i * 3 + 2, none⟩ = some z' ∧ RowP w T P z' ks := by
  obtain ⟨ys, h1, h2⟩ := h
  have hl := trsC_len As ys h2
  obtain ⟨k, t, ks, z', ys', g1, g2, g3, g4, g5, g6⟩ := trsC_get As ys h2 i hi
  rcases h1 with ⟨rfl, rfl⟩ | ⟨g, n, cap, cur, rfl, _, hg, h5, h6, _⟩
  · simp at hl; omega
  · have hn : n = As.length := by omega
    subst hn
    have key : ∀ j, j < As.length * 3 → cur[j]? = ys[j]? := fun j hj => by
      rw [← h6, List.getElem?_take, if_pos hj]; simp
    refine ⟨g, cap, k, t, ks, z', rfl, g1, ?_, ?_, ?_, ⟨ys', g5, g6⟩⟩
    · rw [cell_of_row w g _ _ _ _ hg, key _ (by omega)]; exact g2
    · rw [cell_of_row w g _ _ _ _ hg, key _ (by omega)]; exact g3
    · rw [cell_of_row w g _ _ _ _ hg, key _ (by omega)]; exact g4
theorem RowP.len {w : World} {T : TypeId} {P : Nat → Prop} {z : Value} {As : List Tr} (h : RowP w T P z As) : ∃ o cap, z = .slice o As.length cap := by
  obtain ⟨ys, h1, h2⟩ := h
  have hl := trsC_len As ys h2
  rcases h1 with ⟨rfl, rfl⟩ | ⟨g, n, cap, cur, rfl, _, _, h5, _⟩
  · have : As.length = 0 := by simp at hl; omega
    exact ⟨none, 0, by rw [this]⟩
  · have : n = As.length := by omega
    exact ⟨_, _, by rw [this]⟩
/-- Rows that were made lie in new memory. -/
theorem rowP_of {w w' : World} {T : TypeId} {z : Value} {As : List Tr} {ys : List Value} {n : Nat} (h1 : w'.ownsRow w.heap.size T 3 z n ys) (h2 : trsC w' T (InB w w' z) As ys) : RowP w' T (NewB w w') z As :=
  ⟨ys, own_rowIn h1 (fun g hg => ⟨ownT_ge h1 hg, ownT_lt h1 hg⟩), trsC_mono (fun g hg => ⟨⟨hg.1, hg.2.1⟩, fun o ho => ho⟩) As ys h2⟩

def oneO : Option (List Tr) → Option Tr
  | some [T] => some T
  | _ => none
/-- The one datum of a text. -/
noncomputable def oneT (s : ByteArray) : Option Tr := oneO (treesP s)
/-- What is answered for it. -/
def OneAns (T : TypeId) (O : Option Tr) (w : World) (e : Ending) (w' : World) : Prop :=
  match O with
  | none => e = .returned (.tuple #[.agg (fmC 0 ⟨#[]⟩ (.slice none 0 0)), .bool false]) ∧ Below w.heap.size w w'
  | some (.mk k t ks) => ∃ z, e = .returned (.tuple #[.agg (fmC k t z), .bool true]) ∧ RowRd w' T z ks ∧ 1 + szs ks ≤ 300 ∧ Below w.heap.size w w'
theorem OneAns.no {T : TypeId} {O : Option Tr} {w w' : World} (h : O = none) (hB : Below w.heap.size w w') : OneAns T O w (.returned (.tuple #[.agg (fmC 0 ⟨#[]⟩ (.slice none 0 0)), .bool false])) w' := by
  subst h; exact ⟨rfl, hB⟩
theorem OneAns.yes {T : TypeId} {O : Option Tr} {w w' : World} {k : Int} {t : ByteArray} {ks : List Tr} {z : Value} (h : O = some (.mk k t ks)) (hR : RowRd w' T z ks) (h3 : 1 + szs ks ≤ 300) (hB : Below w.heap.size w w') : OneAns T O w (.returned (.tuple #[.agg (fmC k t z), .bool true])) w' := by
  subst h; exact ⟨z, rfl, hR, h3, hB⟩
theorem oneO_no {Ts : List Tr} (h : Ts.length ≠ 1) : oneO (some Ts) = none := by
  match Ts, h with
  | [], _ => rfl
  | [T], h => simp at h
  | _ :: _ :: _, _ => rfl

set_option maxHeartbeats 2000000 in
set_option maxRecDepth 100000 in
theorem readForm_any (s : ByteArray) (w : World) (hsz : s.size ≤ maxLen) (hT : Tab w.heap.size w) :
    Calls Tryz.prog 31 #[.string s] w fun e w' => OneAns 73 (oneT s) w e w' := by
  have hz := zero_fm.1
  have hB0 : Below w.heap.size w (w.alloc (.cells #[.int .i64 0, .string ⟨#[]⟩, .slice none 0 0] 73)) := (Below.refl _ _).alloc (Nat.le_refl _) _
  have hR0 := RowAt.new w 73 #[.int .i64 0, .string ⟨#[]⟩, .slice none 0 0]
  have HR0 := hideT' hR0
  have HCALL := hideT' (implRead_any s _ hsz ((hT.on hB0).up hB0.size))
  have HOE : Hid (oneT s = oneO (treesP s)) := rfl
  clear hsz hT hR0
  go_enter Tryz.func31, Tryz.ntmps31
  go_wp2_with fail
  refine HCALL.out.mono ?_
  intro e w1 hA
  have hA := hA.trees
  unfold TrAns at hA
  cases ho : treesP s with
  | none =>
    rw [ho] at hA
    obtain ⟨c, hc, rfl, hB⟩ := hA
    have HO : Hid (oneT s = none) := by unfold Hid; rw [HOE.out, ho]; rfl
    have hcb : (c != 0) = true := by simp [bne, hc]
    have HC2 := hideT' (formsOf_any [] (.slice none 0 0) w1 (.inl ⟨rfl, by rw [flats]⟩) (by rw [flats]; simp))
    clear ho
    go_wp2_with fail
    refine HC2.out.mono ?_
    rintro e w2 ⟨z, ys, rfl, h1, h2, hB2⟩
    have hBB : Below (w.heap.size + 1) (w.alloc (.cells #[.int .i64 0, .string ⟨#[]⟩, .slice none 0 0] 73)) w2 := (hB.mono (by simp)).trans (hB2.mono (by have := hB.size; simp at this; omega))
    have hR2 := RowAt.below HR0.out hBB (by omega)
    have hs2 := hBB.size
    simp only [World.size_alloc] at hs2
    have HBT := hideT' (hB0.trans (hBB.mono (by omega)))
    clear h1 h2 hB hB2 hBB
    go_wp2_with (refine store_3 rfl 73 _ _ rfl rfl zero_fm.2 w.heap.size (fmC 0 ⟨#[]⟩ (.slice none 0 0)) rfl (fmC_one _ _ _ rfl) rfl rfl _ rfl hR2 ?_; intro w3 hR3 hg3 hs3)
    have HB3 := hideT' (HBT.out.grown hg3 (by omega) (by intro k hk; cases hk; omega))
    refine bodyPost_ret (v := .tuple #[.agg (fmC 0 ⟨#[]⟩ (.slice none 0 0)), .bool false]) (res_row_tmp Tryz.results31 _ _ w.heap.size _ _ _ rfl rfl hR3 Tryz.underlying73 zero_fm.2) rfl (OneAns.no HO.out HB3.out)
  | some Ts =>
    rw [ho] at hA
    obtain ⟨v, rfl, hN, h300, hB⟩ := hA
    have HO : Hid (oneT s = oneO (some Ts)) := by unfold Hid; rw [HOE.out, ho]
    have HC2 := hideT' (formsOf_any Ts v w1 hN (by rw [flats_sz]; exact h300))
    have H300 := hideT' h300
    have hls := len_szs Ts
    have hl300 : Ts.length ≤ 300 := by omega
    clear ho hN h300 hls
    go_wp2_with fail
    refine HC2.out.mono ?_
    rintro e w2 ⟨z, ys, rfl, h1, h2, hB2⟩
    have hRd := rowP_of h1 h2
    obtain ⟨o, cap, rfl⟩ := hRd.len
    have hBB : Below (w.heap.size + 1) (w.alloc (.cells #[.int .i64 0, .string ⟨#[]⟩, .slice none 0 0] 73)) w2 := (hB.mono (by simp)).trans (hB2.mono (by have := hB.size; simp at this; omega))
    have hR2 := RowAt.below HR0.out hBB (by omega)
    have hs2 := hBB.size
    simp only [World.size_alloc] at hs2
    have HBT := hideT' (hB0.trans (hBB.mono (by omega)))
    have HSB := hideT' (And.intro hB.size hB2.size)
    clear hB hB2 hBB
    by_cases h1l : Ts.length = 1
    · obtain ⟨T, rfl⟩ : ∃ T, Ts = [T] := by
        match Ts, h1l with
        | [T], _ => exact ⟨T, rfl⟩
      obtain ⟨g, cap', k, t, ks, z1, hzz, hA, d0, d1, d2, hr⟩ := hRd.at 0 (by simp)
      obtain ⟨oz, cz, rfl⟩ := hr.len
      injection hzz with hz1 hz2 hz3
      subst hz1
      have hA' : T = .mk k t ks := by simpa using hA
      subst hA'
      simp only [Nat.zero_mul, Nat.zero_add] at d0 d1 d2
      have HRR := hideT' hr
      have HSZ : Hid (1 + szs ks ≤ 300) := by unfold Hid; have := H300.out; rw [szs, szs, Tr.sz] at this; omega
      have HO2 : Hid (oneT s = some (.mk k t ks)) := HO.out
      have HBK : Hid (∀ w3, w2.grownBy w3 (some w.heap.size) → RowRd w3 73 (.slice oz ks.length cz) ks) := by
        intro w3 hg3
        refine HRR.out.mono fun b hb => ⟨Nat.lt_of_lt_of_le hb.2 hg3.size, fun o ho => ?_⟩
        have hs := HSB.out.1
        simp only [World.size_alloc] at hs
        have h5 := hb.1
        rw [hg3.block b hb.2 (by intro e; injection e with e; omega)]; exact ho
      clear hA hRd hr hz2 hz3
      go_wp2_with (refine store_3 rfl 73 _ _ rfl rfl zero_fm.2 w.heap.size (fmC k t (.slice oz ks.length cz)) rfl (fmC_one _ _ _ rfl) rfl rfl _ rfl hR2 ?_; intro w3 hR3 hg3 hs3)
      have HB3 := hideT' (HBT.out.grown hg3 (by omega) (by intro k hk; cases hk; omega))
      refine bodyPost_ret (v := .tuple #[.agg (fmC k t (.slice oz ks.length cz)), .bool true]) (res_row_tmp Tryz.results31 _ _ w.heap.size _ _ _ rfl rfl hR3 Tryz.underlying73 zero_fm.2) rfl (OneAns.yes HO2.out (HBK.out w3 hg3) HSZ.out HB3.out)
    · have HO2 : Hid (oneT s = none) := by unfold Hid; rw [HO.out]; exact oneO_no h1l
      have hnb : ((Ts.length : Int) != 1) = true := by simp [bne]; omega
      clear hRd
      go_wp2_with (refine store_3 rfl 73 _ _ rfl rfl zero_fm.2 w.heap.size (fmC 0 ⟨#[]⟩ (.slice none 0 0)) rfl (fmC_one _ _ _ rfl) rfl rfl _ rfl hR2 ?_; intro w3 hR3 hg3 hs3)
      have HB3 := hideT' (HBT.out.grown hg3 (by omega) (by intro k hk; cases hk; omega))
      refine bodyPost_ret (v := .tuple #[.agg (fmC 0 ⟨#[]⟩ (.slice none 0 0)), .bool false]) (res_row_tmp Tryz.results31 _ _ w.heap.size _ _ _ rfl rfl hR3 Tryz.underlying73 zero_fm.2) rfl (OneAns.no HO2.out HB3.out)
set_option maxHeartbeats 2000000 in
set_option maxRecDepth 100000 in
theorem l4One_any (s : ByteArray) (w : World) (hsz : s.size ≤ maxLen) :
    Calls Tryz.prog 34 #[.string s] w fun e w' => OneAns 80 (oneT s) w e w' := by
  have hz := zero_t4.1
  have hB0 : Below w.heap.size w (w.alloc (.cells #[.int .i64 0, .string ⟨#[]⟩, .slice none 0 0] 80)) := (Below.refl _ _).alloc (Nat.le_refl _) _
  have hR0 := RowAt.new w 80 #[.int .i64 0, .string ⟨#[]⟩, .slice none 0 0]
  have HR0 := hideT' hR0
  have HCALL := hideT' (specRead_any s (w.alloc (.cells #[.int .i64 0, .string ⟨#[]⟩, .slice none 0 0] 80)) hsz)
  have HOE : Hid (oneT s = oneO (treesP s)) := rfl
  clear hsz hR0
  go_enter Tryz.func34, Tryz.ntmps34
  go_wp2_with fail
  refine HCALL.out.mono ?_
  intro e w1 hA
  have hA := hA.trees
  unfold TrAns at hA
  cases ho : treesP s with
  | none =>
    rw [ho] at hA
    obtain ⟨c, hc, rfl, hB⟩ := hA
    have HO : Hid (oneT s = none) := by unfold Hid; rw [HOE.out, ho]; rfl
    have hcb : (c != 0) = true := by simp [bne, hc]
    clear ho
    have hR2 := RowAt.below HR0.out hB (by simp)
    have hs2 := hB.size
    simp only [World.size_alloc] at hs2
    have HBT := hideT' (hB0.trans (hB.mono hB0.size))
    clear hB
    go_wp2_with (refine store_3 rfl 80 _ _ rfl rfl zero_t4.2 w.heap.size (fmC 0 ⟨#[]⟩ (.slice none 0 0)) rfl (fmC_one _ _ _ rfl) rfl rfl _ rfl hR2 ?_; intro w3 hR3 hg3 hs3)
    have HB3 := hideT' (HBT.out.grown hg3 (by omega) (by intro k hk; cases hk; omega))
    refine bodyPost_ret (v := .tuple #[.agg (fmC 0 ⟨#[]⟩ (.slice none 0 0)), .bool false]) (res_row_tmp Tryz.results34 _ _ w.heap.size _ _ _ rfl rfl hR3 Tryz.underlying80 zero_t4.2) rfl (OneAns.no HO.out HB3.out)
  | some Ts =>
    rw [ho] at hA
    obtain ⟨v, rfl, hN, h300, hB⟩ := hA
    have HO : Hid (oneT s = oneO (some Ts)) := by unfold Hid; rw [HOE.out, ho]
    have HC2 := hideT' (l4Trees_any Ts v w1 hN (by rw [flats_sz]; exact h300))
    have H300 := hideT' h300
    have hls := len_szs Ts
    have hl300 : Ts.length ≤ 300 := by omega
    clear ho hN h300 hls
    go_wp2_with fail
    refine HC2.out.mono ?_
    rintro e w2 ⟨z, ys, rfl, h1, h2, hB2⟩
    have hRd := rowP_of h1 h2
    obtain ⟨o, cap, rfl⟩ := hRd.len
    have hBB : Below (w.heap.size + 1) (w.alloc (.cells #[.int .i64 0, .string ⟨#[]⟩, .slice none 0 0] 80)) w2 := (hB.mono (by simp)).trans (hB2.mono (by have := hB.size; simp at this; omega))
    have hR2 := RowAt.below HR0.out hBB (by omega)
    have hs2 := hBB.size
    simp only [World.size_alloc] at hs2
    have HBT := hideT' (hB0.trans (hBB.mono (by omega)))
    have HSB := hideT' (And.intro hB.size hB2.size)
    clear hB hB2 hBB
    by_cases h1l : Ts.length = 1
    · obtain ⟨T, rfl⟩ : ∃ T, Ts = [T] := by
        match Ts, h1l with
        | [T], _ => exact ⟨T, rfl⟩
      obtain ⟨g, cap', k, t, ks, z1, hzz, hA, d0, d1, d2, hr⟩ := hRd.at 0 (by simp)
      obtain ⟨oz, cz, rfl⟩ := hr.len
      injection hzz with hz1 hz2 hz3
      subst hz1
      have hA' : T = .mk k t ks := by simpa using hA
      subst hA'
      simp only [Nat.zero_mul, Nat.zero_add] at d0 d1 d2
      have HRR := hideT' hr
      have HSZ : Hid (1 + szs ks ≤ 300) := by unfold Hid; have := H300.out; rw [szs, szs, Tr.sz] at this; omega
      have HO2 : Hid (oneT s = some (.mk k t ks)) := HO.out
      have HBK : Hid (∀ w3, w2.grownBy w3 (some w.heap.size) → RowRd w3 80 (.slice oz ks.length cz) ks) := by
        intro w3 hg3
        refine HRR.out.mono fun b hb => ⟨Nat.lt_of_lt_of_le hb.2 hg3.size, fun o ho => ?_⟩
        have hs := HSB.out.1
        simp only [World.size_alloc] at hs
        have h5 := hb.1
        rw [hg3.block b hb.2 (by intro e; injection e with e; omega)]; exact ho
      clear hA hRd hr hz2 hz3
      go_wp2_with (refine store_3 rfl 80 _ _ rfl rfl zero_t4.2 w.heap.size (fmC k t (.slice oz ks.length cz)) rfl (fmC_one _ _ _ rfl) rfl rfl _ rfl hR2 ?_; intro w3 hR3 hg3 hs3)
      have HB3 := hideT' (HBT.out.grown hg3 (by omega) (by intro k hk; cases hk; omega))
      refine bodyPost_ret (v := .tuple #[.agg (fmC k t (.slice oz ks.length cz)), .bool true]) (res_row_tmp Tryz.results34 _ _ w.heap.size _ _ _ rfl rfl hR3 Tryz.underlying80 zero_t4.2) rfl (OneAns.yes HO2.out (HBK.out w3 hg3) HSZ.out HB3.out)
    · have HO2 : Hid (oneT s = none) := by unfold Hid; rw [HO.out]; exact oneO_no h1l
      have hnb : ((Ts.length : Int) != 1) = true := by simp [bne]; omega
      clear hRd
      go_wp2_with (refine store_3 rfl 80 _ _ rfl rfl zero_t4.2 w.heap.size (fmC 0 ⟨#[]⟩ (.slice none 0 0)) rfl (fmC_one _ _ _ rfl) rfl rfl _ rfl hR2 ?_; intro w3 hR3 hg3 hs3)
      have HB3 := hideT' (HBT.out.grown hg3 (by omega) (by intro k hk; cases hk; omega))
      refine bodyPost_ret (v := .tuple #[.agg (fmC 0 ⟨#[]⟩ (.slice none 0 0)), .bool false]) (res_row_tmp Tryz.results34 _ _ w.heap.size _ _ _ rfl rfl hR3 Tryz.underlying80 zero_t4.2) rfl (OneAns.no HO2.out HB3.out)
end Go.Proofs.YtehjejjkfeljmaaGreatDoor
