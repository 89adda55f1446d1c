/-
  The texts RdStr, RdOne, RdFact, RdDot, one behind the other.
-/
import Derived.Test.YtohgdmebddinhaaDoorPkAppDatum

/-
  The model's reader: a string.
-/
namespace Go.Proofs.YtohgdmebddinhaaDoor
open Go.RowKit
set_option linter.unusedVariables false

theorem grown_alloc {w w' : World} {b : Nat} (h : w.grownBy w' (some b)) (x : Obj) : w.grownBy (w'.alloc x) (some b) := grown_trans h (World.grownBy_alloc w' x (some b))
theorem conv_byte (W : World) (b : Nat) (c : UInt8) (hc : W.cell? ⟨b, 0, none⟩ = some (.int .u8 (c.toNat : Int))) :
    (convert 85 9 (.slice (some ⟨b, 0, none⟩) 1 1)).run Tryd.prog W = .ok (.string ⟨#[c]⟩) W :=
  run_convert_bytes_back (P := Tryd.prog) W 85 9 5 ⟨b, 0, none⟩ 1 [c] Tryd.underlying85 Tryd.underlying5 Tryd.underlying9 (fun j hj => by
    have : j = 0 := by simp at hj; exact hj
    subst this
    simpa [Addr.add] using hc)
theorem one_more {o : ByteArray} (c : UInt8) (h : o.size ≤ 100) : (o ++ (⟨#[c]⟩ : ByteArray)).size ≤ maxLen := by
  rw [ByteArray.size_append]
  have : (⟨#[c]⟩ : ByteArray).size = 1 := rfl
  unfold maxLen
  omega
theorem one_list (o : ByteArray) (c : UInt8) : (o ++ (⟨#[c]⟩ : ByteArray)).data.toList = o.data.toList ++ [c] := by rw [ByteArray.data_append, Array.toList_append]
theorem strF_step {s : ByteArray} {g k : Nat} {t : List UInt8} (hk : k < s.size) (hg : s.size - k < g) : strF s g k t = if byteAt s k = 34 then some (k + 1, t) else match escP s k with
    | none => none
    | some (k', b) => if strOk (t ++ [b]) then strF s (g - 1) k' (t ++ [b]) else none := by
  obtain ⟨f, rfl⟩ : ∃ f, g = f + 1 := ⟨g - 1, by omega⟩
  rw [strF, if_neg (by omega)]
  rfl
theorem strF_quote {s : ByteArray} {g k : Nat} {t : List UInt8} (hk : k < s.size) (hg : s.size - k < g) (h : byteAt s k = 34) : strF s g k t = some (k + 1, t) := by rw [strF_step hk hg, if_pos h]
theorem strF_end {s : ByteArray} {g k : Nat} {t : List UInt8} (hk : k = s.size) : strF s g k t = none := by
  cases g with
  | zero => rfl
  | succ f => rw [strF, if_pos hk]
theorem strF_none {s : ByteArray} {g k : Nat} {t : List UInt8} (hk : k < s.size) (hg : s.size - k < g) (h : byteAt s k ≠ 34) (he : escP s k = none) : strF s g k t = none := by rw [strF_step hk hg, if_neg h, he]
theorem strF_no {s : ByteArray} {g k k' : Nat} {t : List UInt8} {c : UInt8} (hk : k < s.size) (hg : s.size - k < g) (h : byteAt s k ≠ 34) (he : escP s k = some (k', c)) (ho : strOk (t ++ [c]) = false) : strF s g k t = none := by
  rw [strF_step hk hg, if_neg h, he]; simp only [ho]; rfl
theorem strF_go {s : ByteArray} {g k k' : Nat} {t : List UInt8} {c : UInt8} (hk : k < s.size) (hg : s.size - k < g) (h : byteAt s k ≠ 34) (he : escP s k = some (k', c)) (ho : strOk (t ++ [c]) = true) : strF s g k t = strF s (g - 1) k' (t ++ [c]) := by
  rw [strF_step hk hg, if_neg h, he]; simp only [ho]; rfl
theorem esc_plain {s : ByteArray} {k : Nat} (h : byteAt s k ≠ 92) : escP s k = some (k + 1, byteAt s k) := by unfold escP; rw [if_neg h]
theorem esc_end {s : ByteArray} {k : Nat} (h : byteAt s k = 92) (he : k + 1 = s.size) : escP s k = none := by unfold escP; rw [if_pos h, if_pos he]
theorem esc_self {s : ByteArray} {k : Nat} (h : byteAt s k = 92) (he : k + 1 < s.size) (h2 : byteAt s (k + 1) = 34 ∨ byteAt s (k + 1) = 92) : escP s k = some (k + 2, byteAt s (k + 1)) := by unfold escP; rw [if_pos h, if_neg (by omega), if_pos h2]
theorem esc_n {s : ByteArray} {k : Nat} (h : byteAt s k = 92) (he : k + 1 < s.size) (h2 : byteAt s (k + 1) = 110) : escP s k = some (k + 2, 10) := by unfold escP; rw [if_pos h, if_neg (by omega), if_neg (by rw [h2]; decide), if_pos h2]
theorem esc_no {s : ByteArray} {k : Nat} (h : byteAt s k = 92) (he : k + 1 < s.size) (h1 : byteAt s (k + 1) ≠ 34) (h2 : byteAt s (k + 1) ≠ 92) (h3 : byteAt s (k + 1) ≠ 110) : escP s k = none := by unfold escP; rw [if_pos h, if_neg (by omega), if_neg (by simp [h1, h2]), if_neg h3]
/-- What a string leaves. -/
def strR (s : ByteArray) (p : Nat) (up : Int) (n : Nat) : Option (Nat × List Dm) :=
  match strP s p with
  | none => none
  | some (a', t) => if 300 ≤ n then none else some (a', [⟨3, ⟨t.toArray⟩, up⟩])
theorem strR_none {s : ByteArray} {p : Nat} {up : Int} {n : Nat} (h : strP s p = none) : strR s p up n = none := by unfold strR; rw [h]
theorem strR_some {s : ByteArray} {p : Nat} {up : Int} {n a' : Nat} {t : List UInt8} (h : strP s p = some (a', t)) : strR s p up n = if 300 ≤ n then none else some (a', [⟨3, ⟨t.toArray⟩, up⟩]) := by unfold strR; rw [h]

end Go.Proofs.YtohgdmebddinhaaDoor

/-
  The model's reader: a datum, case by case.
-/
namespace Go.Proofs.YtohgdmebddinhaaDoor
open Go.RowKit
set_option linter.unusedVariables false

/-- The list k is dotted. -/
def dotAt (l : List Dm) (k : Nat) (d : Bool) : List Dm := if d then l.set k ⟨6, (l.getD k default).t, (l.getD k default).u⟩ else l
theorem dotAt_len (l : List Dm) (k : Nat) (d : Bool) : (dotAt l k d).length = l.length := by unfold dotAt; split <;> simp
theorem dotAt_app (out ps : List Dm) (up : Int) (d : Bool) : dotAt (out ++ [⟨5, ⟨#[]⟩, up⟩] ++ ps) out.length d = out ++ (⟨if d then 6 else 5, ⟨#[]⟩, up⟩ :: ps) := by
  unfold dotAt
  cases d <;> simp
def lst (k : Nat) (out : List Dm) : Option (Nat × Bool × List Dm) → Prop → (Nat → List Dm → Prop) → Prop
  | none, p, _ => p
  | some (a', d, ps), _, q => q a' (dotAt (out ++ ps) k d)
/-- What a word leaves. -/
noncomputable def wordR (wd : ByteArray) (q' : Nat) (up : Int) (n : Nat) : Option (Nat × List Dm) :=
  match wordD wd with
  | none => none
  | some (k, t) => if 300 ≤ n then none else some (q', [⟨k, t, up⟩])
theorem tl_no {a : ByteArray} {x : Array UInt8} (h : a ≠ ⟨x⟩) : (a.toList == x.toList) = false := by
  rw [ByteArray.toList_eq, beq_eq_false_iff_ne]
  intro e
  exact h (ByteArray.ext (Array.ext' e))
theorem tl_yes {a : ByteArray} {x : Array UInt8} (h : a = ⟨x⟩) : (a.toList == x.toList) = true := by
  rw [ByteArray.toList_eq, h]; simp
theorem wD_t {w : ByteArray} (h : w = ⟨#[35, 116]⟩ ∨ w = ⟨#[35, 116, 114, 117, 101]⟩) : wordD w = some (4, ⟨#[116]⟩) := by unfold wordD; rw [if_pos h]
theorem wD_f {w : ByteArray} (h1 : ¬ (w = ⟨#[35, 116]⟩ ∨ w = ⟨#[35, 116, 114, 117, 101]⟩)) (h : w = ⟨#[35, 102]⟩ ∨ w = ⟨#[35, 102, 97, 108, 115, 101]⟩) : wordD w = some (4, ⟨#[102]⟩) := by unfold wordD; rw [if_neg h1, if_pos h]
theorem wD_n {w : ByteArray} (h1 : ¬ (w = ⟨#[35, 116]⟩ ∨ w = ⟨#[35, 116, 114, 117, 101]⟩)) (h2 : ¬ (w = ⟨#[35, 102]⟩ ∨ w = ⟨#[35, 102, 97, 108, 115, 101]⟩)) (h : numF w.data.toList = true) : wordD w = some (1, numTx w) := by unfold wordD; rw [if_neg h1, if_neg h2, if_pos h]
theorem wD_s {w : ByteArray} (h1 : ¬ (w = ⟨#[35, 116]⟩ ∨ w = ⟨#[35, 116, 114, 117, 101]⟩)) (h2 : ¬ (w = ⟨#[35, 102]⟩ ∨ w = ⟨#[35, 102, 97, 108, 115, 101]⟩)) (h3 : numF w.data.toList = false) : wordD w = if symT w.data.toList then some (2, w) else none := by unfold wordD; rw [if_neg h1, if_neg h2, if_neg (by rw [h3]; decide)]

end Go.Proofs.YtohgdmebddinhaaDoor

/-
  Plain facts of the plain reader.
-/
namespace Go.Proofs.YtohgdmebddinhaaDoor
open Go.RowKit
set_option linter.unusedVariables false

theorem esc_le {s : ByteArray} {k k' : Nat} {c : UInt8} (hk : k < s.size) (h : escP s k = some (k', c)) : k < k' ∧ k' ≤ s.size := by
  unfold escP at h
  repeat' split at h
  all_goals first
    | (simp only [Option.some.injEq, Prod.mk.injEq] at h; omega)
    | cases h
theorem strF_le {s : ByteArray} : ∀ (f k : Nat) (t : List UInt8) (k' : Nat) (t' : List UInt8), k ≤ s.size → strF s f k t = some (k', t') → k < k' ∧ k' ≤ s.size
  | 0, k, t, k', t', hk, h => by cases h
  | f + 1, k, t, k', t', hk, h => by
    rw [strF] at h
    split at h
    · cases h
    · rename_i hk2
      split at h
      · simp only [Option.some.injEq, Prod.mk.injEq] at h; omega
      · split at h
        · cases h
        · rename_i k2 c he
          have := esc_le (by omega) he
          split at h
          · have := strF_le f k2 _ k' t' (by omega) h
            omega
          · cases h
theorem wordD_nil : wordD ⟨#[]⟩ = none := by
  have h1 : numF (⟨#[]⟩ : ByteArray).data.toList = false := by decide
  have h2 : symT (⟨#[]⟩ : ByteArray).data.toList = false := by decide
  unfold wordD
  rw [h1, h2, if_neg (by decide), if_neg (by decide)]
  rfl
theorem extract_nil (s : ByteArray) (q : Nat) : s.extract q q = ⟨#[]⟩ := by
  apply ByteArray.ext
  rw [ByteArray.data_extract]
  apply Array.ext'
  simp
theorem wordD_kind {w : ByteArray} {k : Int} {t : ByteArray} (h : wordD w = some (k, t)) : isL k = false := by
  unfold wordD at h
  repeat' split at h
  all_goals first
    | (simp only [Option.some.injEq, Prod.mk.injEq] at h; rw [← h.1]; decide)
    | cases h
/-- A datum read: where it ends, how many nodes, and whether it is a list. -/
def OneF (s : ByteArray) (a : Nat) (n a' : Nat) (ps : List Dm) : Prop :=
  a < a' ∧ a' ≤ s.size ∧ n + ps.length ≤ 300 ∧ 1 ≤ ps.length ∧ isL (ps.getD 0 default).k = ((byteAt s (skipP s a) == 40) || (byteAt s (skipP s a) == 39))
mutual
theorem oneF_le {s : ByteArray} : ∀ (f a : Nat) (up deep : Int) (n a' : Nat) (ps : List Dm), a ≤ s.size → n ≤ 300 → oneF s f a up deep n = some (a', ps) → OneF s a n a' ps
  | 0, a, up, deep, n, a', ps, ha, hn, h => by rw [oneF] at h; cases h
  | f + 1, a, up, deep, n, a', ps, ha, hn, h => by
    have hq := skipP_le s a ha
    rw [oneF] at h
    split at h
    · cases h
    · rename_i h0
      split at h
      · rename_i h40
        split at h
        · cases h
        · rename_i hl
          split at h
          · cases h
          · rename_i a2 d ps2 he
            have h2 := listF_le f (skipP s a + 1) n (deep + 1) (n + 1) a2 d ps2 (by omega) (by omega) he
            simp only [Option.some.injEq, Prod.mk.injEq] at h
            obtain ⟨rfl, rfl⟩ := h
            refine ⟨by omega, by omega, by rw [List.length_cons]; omega, by simp, ?_⟩
            rw [h40]
            cases d <;> rfl
      · split at h
        · cases h
        · split at h
          · rename_i h39
            split at h
            · cases h
            · rename_i hl
              split at h
              · cases h
              · rename_i a2 ps2 he
                have h2 := oneF_le f (skipP s a + 1) n (deep + 1) (n + 2) a2 ps2 (by omega) (by omega) he
                simp only [Option.some.injEq, Prod.mk.injEq] at h
                obtain ⟨rfl, rfl⟩ := h
                unfold OneF at h2
                refine ⟨by omega, by omega, by rw [List.length_cons, List.length_cons]; omega, by simp, ?_⟩
                rw [h39]
                rfl
          · rename_i h40 h41 h39
            have e4 : ((byteAt s (skipP s a) == 40) || (byteAt s (skipP s a) == 39)) = false := by
              rw [beq_eq_false_iff_ne.2 h40, beq_eq_false_iff_ne.2 h39]; rfl
            unfold OneF
            rw [e4]
            split at h
            · split at h
              · cases h
              · rename_i a2 t he
                split at h
                · cases h
                · have h2 := strF_le _ _ _ _ _ (by omega : skipP s a + 1 ≤ s.size) he
                  simp only [Option.some.injEq, Prod.mk.injEq] at h
                  obtain ⟨rfl, rfl⟩ := h
                  exact ⟨by omega, by omega, by simp; omega, by simp, rfl⟩
            · split at h
              · cases h
              · rename_i k t he
                split at h
                · cases h
                · have hw := wordP_le s (skipP s a) hq.2
                  have hne : wordP s (skipP s a) ≠ skipP s a := by
                    intro e
                    rw [e, extract_nil, wordD_nil] at he
                    cases he
                  simp only [Option.some.injEq, Prod.mk.injEq] at h
                  obtain ⟨rfl, rfl⟩ := h
                  exact ⟨by omega, by omega, by simp; omega, by simp, wordD_kind he⟩
theorem listF_le {s : ByteArray} : ∀ (f a k : Nat) (deep : Int) (n a' : Nat) (d : Bool) (ps : List Dm), a ≤ s.size → n ≤ 300 → listF s f a k deep n = some (a', d, ps) → a < a' ∧ a' ≤ s.size ∧ n + ps.length ≤ 300
  | 0, a, k, deep, n, a', d, ps, ha, hn, h => by rw [listF] at h; cases h
  | f + 1, a, k, deep, n, a', d, ps, ha, hn, h => by
    have hq := skipP_le s a ha
    rw [listF] at h
    split at h
    · cases h
    · rename_i h0
      split at h
      · simp only [Option.some.injEq, Prod.mk.injEq] at h
        obtain ⟨rfl, rfl, rfl⟩ := h
        exact ⟨by omega, by omega, by simp; omega⟩
      · split at h
        · split at h
          · cases h
          · split at h
            · cases h
            · rename_i a2 ps2 he
              have h2 := oneF_le f (skipP s a + 1) k deep n a2 ps2 (by omega) hn he
              unfold OneF at h2
              split at h
              · rename_i h41
                have hq2 := skipP_le s a2 h2.2.1
                simp only [Option.some.injEq, Prod.mk.injEq] at h
                obtain ⟨rfl, rfl, rfl⟩ := h
                exact ⟨by omega, by omega, by omega⟩
              · cases h
        · split at h
          · cases h
          · rename_i a2 ps2 he
            have h2 := oneF_le f (skipP s a) k deep n a2 ps2 (by omega) hn he
            unfold OneF at h2
            split at h
            · cases h
            · rename_i a3 d3 qs he2
              have h3 := listF_le f a2 k deep (n + ps2.length) a3 d3 qs (by omega) (by omega) he2
              simp only [Option.some.injEq, Prod.mk.injEq] at h
              obtain ⟨rfl, rfl, rfl⟩ := h
              rw [List.length_append]
              exact ⟨by omega, by omega, by omega⟩
end
end Go.Proofs.YtohgdmebddinhaaDoor

/-
  The model's reader: what stands behind a dot.
-/
namespace Go.Proofs.YtohgdmebddinhaaDoor
open Go.RowKit
set_option linter.unusedVariables false

theorem flat_set : ∀ (l : List Dm) (k : Nat), k < l.length → (l.flatMap dmL).set (k * 3) (.int .i64 6) = (l.set k ⟨6, (l.getD k default).t, (l.getD k default).u⟩).flatMap dmL
  | [], k, h => by simp at h
  | d :: l, 0, h => by simp [dmL]
  | d :: l, k + 1, h => by
    have hk : k < l.length := by simpa using h
    have ih := flat_set l k hk
    rw [List.set_cons_succ, List.flatMap_cons, List.flatMap_cons, List.set_append_right _ _ (by simp [dmL]; omega)]
    have e : (k + 1) * 3 - (dmL d).length = k * 3 := by simp [dmL]; omega
    rw [e, ih]
    rfl
/-- What stands behind a dot leaves. -/
noncomputable def dotR (s : ByteArray) (f p k : Nat) (deep : Int) (n : Nat) : Option (Nat × Bool × List Dm) :=
  if n = k + 1 ∨ byteAt s (skipP s (p + 1)) = 40 ∨ byteAt s (skipP s (p + 1)) = 39 then none
  else match oneF s f (p + 1) k deep n with
    | none => none
    | some (a', ps) => if skipP s a' ≠ s.size ∧ byteAt s (skipP s a') = 41 then some (skipP s a' + 1, true, ps) else none
theorem dotR_none {s : ByteArray} {f p k : Nat} {deep : Int} {n : Nat} (h : oneF s f (p + 1) k deep n = none) : dotR s f p k deep n = none := by
  unfold dotR; rw [h]; split <;> rfl
theorem dotR_list {s : ByteArray} {f p k : Nat} {deep : Int} {n : Nat} (h : ((byteAt s (skipP s (p + 1)) == 40) || (byteAt s (skipP s (p + 1)) == 39)) = true) : dotR s f p k deep n = none := by
  unfold dotR
  rw [if_pos]
  simp only [Bool.or_eq_true, beq_iff_eq] at h
  exact .inr h
theorem dotR_some {s : ByteArray} {f p k : Nat} {deep : Int} {n a' : Nat} {ps : List Dm} (h0 : n ≠ k + 1) (h : ((byteAt s (skipP s (p + 1)) == 40) || (byteAt s (skipP s (p + 1)) == 39)) = false) (h1 : oneF s f (p + 1) k deep n = some (a', ps)) : dotR s f p k deep n = if skipP s a' ≠ s.size ∧ byteAt s (skipP s a') = 41 then some (skipP s a' + 1, true, ps) else none := by
  unfold dotR
  simp only [Bool.or_eq_false_iff, beq_eq_false_iff_ne] at h
  rw [if_neg (by simp only [h0, h.1, h.2, or_self, not_false_eq_true]), h1]

end Go.Proofs.YtohgdmebddinhaaDoor
