/- val.lay of values that are no list. -/
import Derived.Test.YtffoklhopmhjaaaDoorBuild
import Derived.Test.YtffoklhopmhjaaaDoorValCmp
import Derived.Test.YtffoklhopmhjaaaDoorWireNum
import Derived.Test.YtffoklhopmhjaaaDoorWireText
set_option linter.unusedSimpArgs false
set_option linter.unusedVariables false
namespace Go.Proofs.YtffoklhopmhjaaaDoor
open Go Go.RowKit Go.Shelf

/-- a builder in block b (all of it lies from B on) that holds these bytes -/
abbrev Holds (B b : Nat) (l : List UInt8) (w : World) : Prop := Lib.IsBuilderF 69 5 B b (Lib.byteCells l) w
theorem builderAt_below {T e : TypeId} {B b : Nat} {p : Value} {bs : List Value} {W W' : World} (h : Lib.BuilderAtF T e B b p bs W) (hb : Below W.heap.size W W') : Lib.BuilderAtF T e B b p bs W' := by
  have hlt := h.lt
  obtain ⟨hB, v, hv, hown, hne⟩ := h
  exact ⟨hB, v, (hb.block b hlt).trans hv, hown.kept (row := none) ⟨hb.os, hb.tape, hb.output, hb.size, fun k hk _ => hb.block k hk⟩ (Classical.em _), hne⟩
theorem Holds.below {B b : Nat} {l : List UInt8} {W W' : World} (h : Holds B b l W) (hb : Below W.heap.size W W') : Holds B b l W' :=
  h.elim (fun x => .inl (builderAt_below x hb)) (fun x => .inr (builderAt_below x hb))
/-- what a call left of a builder -/
def Laid (B b : Nat) (l : List UInt8) (w w' : World) : Prop := Holds B b l w' ∧ Below B w w' ∧ Lib.OthersKept 5 (some b) w w'

theorem holds_lt {B b : Nat} {l : List UInt8} {w : World} (h : Holds B b l w) : B ≤ b ∧ b < w.heap.size := by
  rcases h with h | h
  · exact ⟨h.1, h.lt⟩
  · exact ⟨h.1, h.lt⟩

theorem writeString_laid (B b : Nat) (l : List UInt8) (t : List UInt8) (w : World) (h : Holds B b l w) (hlen : l.length + t.length ≤ 140737488355328) :
    Calls Tryd.prog 29 #[.pointer (some ⟨b, 0, none⟩), .string ⟨t.toArray⟩] w fun e w' => e = .returned (.tuple #[.int .i64 (t.length : Int), .nilIface]) ∧ Laid B b (l ++ t) w w' := by
  have hlt := holds_lt h
  have hsz : (⟨t.toArray⟩ : ByteArray).size = t.length := by show t.toArray.size = _; simp
  have := writeString_k B b (Lib.byteCells l) ⟨t.toArray⟩ w h (by rw [Lib.byteCells_length, hsz]; exact hlen) (by omega)
  refine this.mono ?_
  rintro e w' ⟨rfl, h1, h2, h3⟩
  refine ⟨by rw [hsz], ?_, h2, h3⟩
  unfold Holds
  rw [Lib.byteCells_append]
  exact Or.inr (by simpa [Lib.strCells, Lib.byteCells] using h1)

/-- a box of a value, behind the builder's calls -/
theorem box_kept {B b : Nat} {l : List UInt8} {w w' : World} {q : Nat} {cs : Array Value} (h : Laid B b l w w') (hq : w.heap[q]? = some (.cells cs 31 (0, 0))) (hb : q ≠ b) : w'.heap[q]? = some (.cells cs 31 (0, 0)) :=
  h.2.2 q _ hq (by simpa using hb) (by rintro c fz ⟨⟩)

end Go.Proofs.YtffoklhopmhjaaaDoor
