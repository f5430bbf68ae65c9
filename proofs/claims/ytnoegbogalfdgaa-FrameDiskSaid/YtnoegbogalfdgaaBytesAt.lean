/- A block of bytes that is known whole. -/
import Derived.WalkKit
import Derived.Below
import Derived.Laws.Rows
import Derived.Laws.Tables
import Derived.Lib.BufferWrite
set_option linter.unusedSimpArgs false
set_option linter.unusedVariables false
namespace Wire
open Go Go.RowKit
def u8c (b : UInt8) : Value := .int .u8 (b.toNat : Int)
/-- block B holds these bytes, and may be written -/
def BytesAt (W : World) (B : Nat) (t : TypeId) (l : List UInt8) : Prop := W.heap[B]? = some (.cells (l.map u8c).toArray t (0, 0))
section
variable {W : World} {B : Nat} {t : TypeId} {l : List UInt8}
theorem BytesAt.lt (h : BytesAt W B t l) : B < W.heap.size := (Array.getElem?_eq_some_iff.1 h).1
theorem BytesAt.cell (h : BytesAt W B t l) {i : Nat} (hi : i < l.length) : W.cell? ⟨B, i, none⟩ = some (u8c l[i]) := by
  rw [cell_of_row _ B i _ t (0, 0) h]; simp [hi]
theorem BytesAt.frozen (h : BytesAt W B t l) (i : Nat) : W.frozen? ⟨B, i, none⟩ = false := frozen_of_row _ B i _ t h
theorem BytesAt.set (h : BytesAt W B t l) (i : Nat) (x : UInt8) : BytesAt (W.setCell ⟨B, i, none⟩ (u8c x)) B t (l.set i x) := by
  unfold BytesAt
  rw [heap_setCell_same W B i _ t (u8c x) h]
  congr 2
  simp [List.map_set]
theorem BytesAt.other (h : BytesAt W B t l) (a : Addr) (v : Value) (ha : B ≠ a.block) : BytesAt (W.setCell a v) B t l := by
  unfold BytesAt
  rw [heap_setCell_other W a B v ha]; exact h
theorem BytesAt.alloc (h : BytesAt W B t l) (o : Obj) : BytesAt (W.alloc o) B t l := by
  unfold BytesAt
  rw [show (W.alloc o).heap[B]? = W.heap[B]? from Go.heap_alloc_old W o h.lt]; exact h
theorem BytesAt.drew (h : BytesAt W B t l) : BytesAt W.drew B t l := h
theorem BytesAt.below {W' : World} (h : BytesAt W B t l) (hb : Below W.heap.size W W') : BytesAt W' B t l := (hb.block B h.lt).trans h
theorem BytesAt.grown {W' : World} {row : Option Nat} (h : BytesAt W B t l) (hg : W.grownBy W' row) (hr : some B ≠ row) : BytesAt W' B t l := (hg.block B h.lt hr).trans h
theorem BytesAt.row (h : BytesAt W B t l) (m : List UInt8) : BytesAt (W.setRow B (m.map u8c).toArray) B t m := setRow_heap W B _ _ t (0, 0) h
/-- the same bytes as the copy of a text lays them -/
theorem BytesAt.copied (h : BytesAt W B t l) (s : ByteArray) (o : Nat) :
    BytesAt (W.setRow B (((l.map u8c).toArray.toList.take o ++ Lib.byteCells s.data.toList ++ (l.map u8c).toArray.toList.drop (o + s.size)).toArray)) B t (l.take o ++ s.data.toList ++ l.drop (o + s.size)) := by
  have e : ((l.map u8c).toArray.toList.take o ++ Lib.byteCells s.data.toList ++ (l.map u8c).toArray.toList.drop (o + s.size)) = (l.take o ++ s.data.toList ++ l.drop (o + s.size)).map u8c := by
    simp only [List.map_append, List.map_take, List.map_drop]
    rfl
  rw [e]
  exact h.row _
end
end Wire
