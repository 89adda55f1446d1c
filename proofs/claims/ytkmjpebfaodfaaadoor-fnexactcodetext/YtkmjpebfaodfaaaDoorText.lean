/-
  What text and tellNat of impl's nats answer: the number's text.
-/
import Derived.Test.YtkmjpebfaodfaaaDoorPkRead
import Derived.Test.YtkmjpebfaodfaaaDoorDec
import Derived.Test.YtkmjpebfaodfaaaDoorPkLimbs
import Derived.Test.YtkmjpebfaodfaaaDoorShelf
import Derived.Lib.AppendIntMem
import Derived.Sort.Grow
import Derived.Lib.AppendStr
import Derived.Laws.IdiomStrings
namespace Go.Proofs.YtkmjpebfaodfaaaDoor
open Go.RowKit
set_option linter.unusedVariables false

/-- The library's table of powers lies below B. -/
def Tab (B : Nat) (w : World) : Prop := Lib.TabBelow Tryd.prog B w ("internal/strconv.uint64pow10") .u64 Lib.pow10Tab
theorem Tab.on {B : Nat} {w w' : World} (h : Tab B w) (hb : Below B w w') : Tab B w' := Lib.TabBelow.on h hb
theorem Tab.up {B B' : Nat} {w : World} (h : Tab B w) (hB : B ≤ B') : Tab B' w := fun w' hw => h w' (hw.mono hB)

theorem info_u8 : (Tryd.prog.info? 5).map (fun i => (i.zero, i.size, i.bytes)) = some (some (.int .u8 0), 1, 1) := by kernel_rfl

theorem grown_grow (w : World) (k : Nat) (os : Array Obj) : w.grownBy (Sort.grow (w.drewN k) os) none :=
  ⟨rfl, rfl, rfl, by simp [Sort.grow], fun i hi _ => by
    show (w.heap ++ os)[i]? = _
    rw [Array.getElem?_append_left hi]⟩

theorem ext17 (c : UInt8) (m : List UInt8) (h : m.length = 6) : ((⟨(c :: m).toArray⟩ : ByteArray).extract 1 7).data.toList = m := by
  rw [ByteArray.data_extract]
  simp
  exact List.take_of_length_le (by omega)
theorem ext17_size (c : UInt8) (m : List UInt8) (h : m.length = 6) : ((⟨(c :: m).toArray⟩ : ByteArray).extract 1 7).size = 6 := by
  have := congrArg List.length (ext17 c m h)
  rw [Array.length_toList, h] at this
  exact this
/-- The numeral so far: the parts from g on. -/
structure Said (p : List Int) (g : Nat) (l : List UInt8) : Prop where
  canon : canonB l = true
  val : (dval l : Int) = vb 1000000 (p.drop g)
  pos : dval l ≠ 0
  len : l.length ≤ 6 * (204 - g) + 6

theorem drop_val (p : List Int) (g : Nat) (h : g < p.length) : vb 1000000 (p.drop g) = p.getD g 0 + 1000000 * vb 1000000 (p.drop (g + 1)) := by
  rw [List.drop_eq_getElem_cons h]; simp [vb, List.getD, h]

theorem Said.start {n k : Nat} {p : List Int} (h : Rep n k p) (hk : 0 < k) : Said p (k - 1) (Lib.itoa (p.getD (k - 1) 0)) := by
  have hlo := h.lo (k - 1)
  have hhi := h.hi (k - 1)
  have htop := h.top hk
  obtain ⟨x, hx⟩ := Int.eq_ofNat_of_zero_le hlo
  have hd := dec_canon x
  have hi : Lib.itoa (p.getD (k - 1) 0) = Lib.decDigits x := by
    rw [hx]; unfold Lib.itoa; rw [if_neg (by omega)]; simp
  rw [hi]
  refine ⟨hd.1, ?_, by rw [hd.2]; omega, ?_⟩
  · rw [hd.2, drop_val p (k - 1) (by rw [h.len]; have := h.le; omega), hx]
    have : k - 1 + 1 = k := by omega
    rw [this, vb_zero _ _ (fun i => by rw [getD_drop]; exact h.out _ (by omega))]; simp
  · have : (Lib.decDigits x).length ≤ 6 := (canon_len_le hd.1 6 (by omega)).2 (by rw [hd.2]; omega)
    omega

theorem Said.step {p : List Int} {g : Nat} {l m : List UInt8} (h : Said p (g + 1) l) (hg : g < p.length) (hl : p.length = 204) (hm : m.all isDig = true) (h6 : m.length = 6) (hv : (dval m : Int) = p.getD g 0) : Said p g (l ++ m) := by
  refine ⟨canon_append h.canon h.pos hm, ?_, ?_, ?_⟩
  · rw [dval_append, h6, drop_val p g hg, ← h.val, ← hv]; simp; omega
  · have := h.pos
    rw [dval_append, h6]
    have : 1 ≤ dval l * 10 ^ 6 := Nat.mul_pos (by omega) (by omega)
    omega
  · have := h.len; simp [h6]; omega

end Go.Proofs.YtkmjpebfaodfaaaDoor
