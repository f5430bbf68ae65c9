/- val.lay of values that are no list. -/
import Derived.Test.YtffoklhopmhjaaaGreatDoorBuild
import Derived.Test.YtffoklhopmhjaaaGreatDoorValCmp
import Derived.Test.YtffoklhopmhjaaaGreatDoorWireNum
import Derived.Test.YtffoklhopmhjaaaGreatDoorWireText
set_option linter.unusedSimpArgs false
set_option linter.unusedVariables false
namespace Go.Proofs.YtffoklhopmhjaaaGreatDoor
open Go Go.RowKit Go.Shelf

/-- a builder in block b (all of it lies from B on) that holds these bytes -/
abbrev Holds (B b : Nat) (l : List UInt8) (w : World) : Prop := Lib.IsBuilderF 66 5 B b (Lib.byteCells l) w
theorem builderAt_below {T e : TypeId} {B b : Nat} {p : Value} {bs : List Value} {W W' : World} (h : Lib.BuilderAtF T e B b p bs W) (hb : Below W.heap.size W W') : Lib.BuilderAtF T e B b p bs W' := by
  have hlt := h.lt
  obtain ⟨hB, v, hv, hown, hne⟩ := h
  exact ⟨hB, v, (hb.block b hlt).trans hv, hown.kept (row := none) ⟨hb.os, hb.tape, hb.output, hb.size, fun k hk _ => hb.block k hk⟩ (Classical.em _), hne⟩
theorem Holds.below {B b : Nat} {l : List UInt8} {W W' : World} (h : Holds B b l W) (hb : Below W.heap.size W W') : Holds B b l W' :=
  h.elim (fun x => .inl (builderAt_below x hb)) (fun x => .inr (builderAt_below x hb))
/-- what a call left of a builder -/
def Laid (B b : Nat) (l : List UInt8) (w w' : World) : Prop := Holds B b l w' ∧ Below B w w' ∧ Lib.OthersKept 5 (some b) w w'

theorem holds_lt {B b : Nat} {l : List UInt8} {w : World} (h : Holds B b l w) : B ≤ b ∧ b < w.heap.size := by
  rcases h with h | h
  · exact ⟨h.1, h.lt⟩
  · exact ⟨h.1, h.lt⟩

theorem writeString_laid (B b : Nat) (l : List UInt8) (t : List UInt8) (w : World) (h : Holds B b l w) (hlen : l.length + t.length ≤ 140737488355328) :
    Calls Tryz.prog 40 #[.pointer (some ⟨b, 0, none⟩), .string ⟨t.toArray⟩] w fun e w' => e = .returned (.tuple #[.int .i64 (t.length : Int), .nilIface]) ∧ Laid B b (l ++ t) w w' := by
  have hlt := holds_lt h
  have hsz : (⟨t.toArray⟩ : ByteArray).size = t.length := by show t.toArray.size = _; simp
  have := writeString_k B b (Lib.byteCells l) ⟨t.toArray⟩ w h (by rw [Lib.byteCells_length, hsz]; exact hlen) (by omega)
  refine this.mono ?_
  rintro e w' ⟨rfl, h1, h2, h3⟩
  refine ⟨by rw [hsz], ?_, h2, h3⟩
  unfold Holds
  rw [Lib.byteCells_append]
  exact Or.inr (by simpa [Lib.strCells, Lib.byteCells] using h1)

/-- a box of a value, behind the builder's calls -/
theorem box_kept {B b : Nat} {l : List UInt8} {w w' : World} {q : Nat} {cs : Array Value} (h : Laid B b l w w') (hq : w.heap[q]? = some (.cells cs 37 (0, 0))) (hb : q ≠ b) : w'.heap[q]? = some (.cells cs 37 (0, 0)) :=
  h.2.2 q _ hq (by simpa using hb) (by rintro c fz ⟨⟩)

set_option maxHeartbeats 2000000 in
set_option maxRecDepth 100000 in
theorem lay_nil (B b : Nat) (l : List UInt8) (k n : Int) (hk : k ≠ 1 ∧ k ≠ 2 ∧ k ≠ 3 ∧ k ≠ 4 ∧ k ≠ 5) (hk0 : -9223372036854775808 ≤ k) (hk1 : k ≤ 9223372036854775807) (s : ByteArray) (v : Value) (w : World) (h : Holds B b l w) (hlen : l.length + (Wire.num k).length ≤ 140737488355328) :
    Calls Tryz.prog 26 #[.pointer (some ⟨b, 0, none⟩), valV k n s v] w fun e w' => e = .returned (.tuple #[]) ∧ Laid B b (l ++ Wire.num k) w w' := by
  have hlt := holds_lt h
  have d1 : (k == 1) = false := by rw [beq_eq_false_iff_ne]; omega
  have d2 : (k == 2) = false := by rw [beq_eq_false_iff_ne]; omega
  have d3 : (k == 3) = false := by rw [beq_eq_false_iff_ne]; omega
  have d4 : (k == 4) = false := by rw [beq_eq_false_iff_ne]; omega
  have d5 : (k == 5) = false := by rw [beq_eq_false_iff_ne]; omega
  have h1 := Lib.IsBuilderF.alloc h (.cells #[.int .i64 k, .int .i64 n, .string s, v] 37)
  have hb0 : (w.alloc (.cells #[.int .i64 k, .int .i64 n, .string s, v] 37)).heap[w.heap.size]? = some (.cells #[.int .i64 k, .int .i64 n, .string s, v] 37 (0, 0)) := World.alloc_heap_new _ _
  have hB0 : Below B w (w.alloc (.cells #[.int .i64 k, .int .i64 n, .string s, v] 37)) := (Below.refl _ _).alloc (by omega) _
  have hO0 : Lib.OthersKept 5 (some b) w (w.alloc (.cells #[.int .i64 k, .int .i64 n, .string s, v] 37)) := (Lib.OthersKept.refl _ _ _).alloc _
  go_enter Tryz.func26, Tryz.ntmps26
  go_wp2_with fail
  refine (num_any k hk0 hk1 _).mono ?_
  rintro e w1 ⟨rfl, hB1⟩
  have h2 := Holds.below h1 hB1
  have hb1 : w1.heap[w.heap.size]? = some (.cells #[.int .i64 k, .int .i64 n, .string s, v] 37 (0, 0)) := (hB1.block _ (by simp)).trans hb0
  have hz1 : w.heap.size + 1 ≤ w1.heap.size := by have := hB1.size; simpa using this
  have hBw1 : Below B w w1 := hB0.trans (hB1.mono (by simp; omega))
  go_wp2_with fail
  refine (writeString_laid B b l _ _ h2 hlen).mono ?_
  rintro e w2 ⟨rfl, hL⟩
  have hb2 := box_kept hL hb1 (by omega)
  have c0 : w2.cell? ⟨w.heap.size, 0, none⟩ = some (.int .i64 k) := by rw [Lib.cell_of_heap hb2]; rfl
  have hO1 : Lib.OthersKept 5 (some b) w w1 := fun q o hq hne hc => (hB1.block q (by have := (Array.getElem?_eq_some_iff.1 hq).1; simp; omega)).trans (hO0 q o hq hne hc)
  have hfin : Laid B b (l ++ Wire.num k) w w2 := ⟨hL.1, hBw1.trans hL.2.1, hO1.trans hL.2.2⟩
  clear hL h1 h2 hb0 hb1 hB0 hO0 hB1 hO1
  go_wp2_with fail
  go_end0
  exact ⟨rfl, hfin⟩
end Go.Proofs.YtffoklhopmhjaaaGreatDoor
