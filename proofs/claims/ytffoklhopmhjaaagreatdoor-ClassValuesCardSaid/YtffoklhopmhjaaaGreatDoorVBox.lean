/- A value's box. -/
import Derived.Test.YtffoklhopmhjaaaGreatDoorValDef
import Derived.Test.YtffoklhopmhjaaaGreatDoorWireNumber
set_option linter.unusedSimpArgs false
set_option linter.unusedVariables false
namespace Go.Proofs.YtffoklhopmhjaaaGreatDoor
open Go Go.RowKit Go.Shelf

/-- a value's four cells in block b -/
def VBox (W : World) (b : Nat) (k n : Int) (s : ByteArray) (l : Value) : Prop := W.heap[b]? = some (.cells #[.int .i64 k, .int .i64 n, .string s, l] 37 (0, 0))
theorem VBox.lt {W : World} {b : Nat} {k n : Int} {s : ByteArray} {l : Value} (h : VBox W b k n s l) : b < W.heap.size := (Array.getElem?_eq_some_iff.1 h).1
theorem VBox.new (W : World) (k n : Int) (s : ByteArray) (l : Value) : VBox (W.alloc (.cells #[.int .i64 k, .int .i64 n, .string s, l] 37)) W.heap.size k n s l := World.alloc_heap_new _ _
theorem VBox.alloc {W : World} {b : Nat} {k n : Int} {s : ByteArray} {l : Value} (h : VBox W b k n s l) (o : Obj) : VBox (W.alloc o) b k n s l := (Lib.alloc_old W o b h.lt).trans h
theorem VBox.below {W W' : World} {b : Nat} {k n : Int} {s : ByteArray} {l : Value} (h : VBox W b k n s l) (hb : Below W.heap.size W W') : VBox W' b k n s l := (hb.block b h.lt).trans h
theorem VBox.kept {W W' : World} {b r : Nat} {k n : Int} {s : ByteArray} {l : Value} (h : VBox W b k n s l) (hb : W.grownBy W' (some r)) (hne : b ≠ r) : VBox W' b k n s l := (hb.block b h.lt (fun e => hne (Option.some.inj e))).trans h
theorem VBox.past {W : World} {b : Nat} {k n : Int} {s : ByteArray} {l : Value} (h : VBox W b k n s l) (a : Addr) (ha : b ≠ a.block) (u : Value) : VBox (W.setCell a u) b k n s l := (Below.heap_setCell W a u b ha).trans h
theorem VBox.facts {W : World} {b : Nat} {k n : Int} {s : ByteArray} {l : Value} (h : VBox W b k n s l) :
    (W.cell? ⟨b, 0, none⟩ = some (.int .i64 k) ∧ W.cell? ⟨b, 1, none⟩ = some (.int .i64 n) ∧ W.cell? ⟨b, 2, none⟩ = some (.string s) ∧ W.cell? ⟨b, 3, none⟩ = some l) ∧ (W.frozen? ⟨b, 0, none⟩ = false ∧ W.frozen? ⟨b, 1, none⟩ = false ∧ W.frozen? ⟨b, 2, none⟩ = false ∧ W.frozen? ⟨b, 3, none⟩ = false) := by
  refine ⟨⟨?_, ?_, ?_, ?_⟩, Lib.frozen_of_heap h 0, Lib.frozen_of_heap h 1, Lib.frozen_of_heap h 2, Lib.frozen_of_heap h 3⟩ <;> (rw [Lib.cell_of_heap h]; rfl)
theorem VBox.set0 {W : World} {b : Nat} {k n : Int} {s : ByteArray} {l : Value} (h : VBox W b k n s l) (k' : Int) : VBox (W.setCell ⟨b, 0, none⟩ (.int .i64 k')) b k' n s l := (heap_setCell_same W b 0 _ _ (.int .i64 k') h).trans rfl
theorem VBox.set1 {W : World} {b : Nat} {k n : Int} {s : ByteArray} {l : Value} (h : VBox W b k n s l) (n' : Int) : VBox (W.setCell ⟨b, 1, none⟩ (.int .i64 n')) b k n' s l := (heap_setCell_same W b 1 _ _ (.int .i64 n') h).trans rfl
theorem VBox.set2 {W : World} {b : Nat} {k n : Int} {s : ByteArray} {l : Value} (h : VBox W b k n s l) (s' : ByteArray) : VBox (W.setCell ⟨b, 2, none⟩ (.string s')) b k n s' l := (heap_setCell_same W b 2 _ _ (.string s') h).trans rfl
theorem VBox.set3 {W : World} {b : Nat} {k n : Int} {s : ByteArray} {l : Value} (h : VBox W b k n s l) (l' : Value) : VBox (W.setCell ⟨b, 3, none⟩ l') b k n s l' := (heap_setCell_same W b 3 _ _ l' h).trans rfl
/-- the whole box written anew -/
def putBox (W : World) (b : Nat) (k n : Int) (s : ByteArray) (l : Value) : World := (((W.setCell ⟨b, 0, none⟩ (.int .i64 k)).setCell ⟨b, 1, none⟩ (.int .i64 n)).setCell ⟨b, 2, none⟩ (.string s)).setCell ⟨b, 3, none⟩ l
theorem VBox.put {W : World} {b : Nat} {k n : Int} {s : ByteArray} {l : Value} (h : VBox W b k n s l) (k' n' : Int) (s' : ByteArray) (l' : Value) : VBox (putBox W b k' n' s' l') b k' n' s' l' := (((h.set0 k').set1 n').set2 s').set3 l'
theorem VBox.putPast {W : World} {b : Nat} {k n : Int} {s : ByteArray} {l : Value} (h : VBox W b k n s l) {b' : Nat} (hb : b ≠ b') (k' n' : Int) (s' : ByteArray) (l' : Value) : VBox (putBox W b' k' n' s' l') b k n s l := (((h.past ⟨b', 0, none⟩ hb _).past ⟨b', 1, none⟩ hb _).past ⟨b', 2, none⟩ hb _).past ⟨b', 3, none⟩ hb _
theorem below_put {B : Nat} {W W' : World} (h : Below B W W') {b : Nat} (hb : B ≤ b) (k n : Int) (s : ByteArray) (l : Value) : Below B W (putBox W' b k n s l) :=
  (((h.setCell (p := ⟨b, 0, none⟩) hb _).setCell (p := ⟨b, 1, none⟩) hb _).setCell (p := ⟨b, 2, none⟩) hb _).setCell (p := ⟨b, 3, none⟩) hb _
theorem grown_putBox {W W' : World} {r : Option Nat} (h : W.grownBy W' r) {b : Nat} (hb : W.heap.size ≤ b) (k n : Int) (s : ByteArray) (l : Value) : W.grownBy (putBox W' b k n s l) r :=
  grown_set (grown_set (grown_set (grown_set h hb ⟨b, 0, none⟩ rfl _) hb ⟨b, 1, none⟩ rfl _) hb ⟨b, 2, none⟩ rfl _) hb ⟨b, 3, none⟩ rfl _
end Go.Proofs.YtffoklhopmhjaaaGreatDoor
