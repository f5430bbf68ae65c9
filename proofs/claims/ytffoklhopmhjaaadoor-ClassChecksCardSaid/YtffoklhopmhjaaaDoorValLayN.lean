/- val.lay of numbers, references, texts. -/
import Derived.Test.YtffoklhopmhjaaaDoorValLay
set_option linter.unusedSimpArgs false
set_option linter.unusedVariables false
namespace Go.Proofs.YtffoklhopmhjaaaDoor
open Go Go.RowKit Go.Shelf

theorem laid_call {B b : Nat} {l : List UInt8} {w w0 w1 : World} {q : Nat} {cs : Array Value} (h : Laid B b l w w0) (hB : Below w0.heap.size w0 w1) (hlt : B ≤ w0.heap.size) (hq : w0.heap[q]? = some (.cells cs 31 (0, 0))) :
    Laid B b l w w1 ∧ w1.heap[q]? = some (.cells cs 31 (0, 0)) := by
  have hl : ∀ {i : Nat} {o : Obj}, w0.heap[i]? = some o → w1.heap[i]? = some o := fun {i o} hi => (hB.block i (Array.getElem?_eq_some_iff.1 hi).1).trans hi
  exact ⟨⟨Holds.below h.1 hB, h.2.1.trans (hB.mono hlt), fun i o hi hne hc => hl (h.2.2 i o hi hne hc)⟩, hl hq⟩

theorem laid_write {B b : Nat} {l t : List UInt8} {w w0 w1 : World} {q : Nat} {cs : Array Value} (h : Laid B b l w w0) (h1 : Laid B b t w0 w1) (hq : w0.heap[q]? = some (.cells cs 31 (0, 0))) (hb : q ≠ b) :
    Laid B b t w w1 ∧ w1.heap[q]? = some (.cells cs 31 (0, 0)) := ⟨⟨h1.1, h.2.1.trans h1.2.1, h.2.2.trans h1.2.2⟩, box_kept h1 hq hb⟩

theorem laid_box {B b : Nat} {l : List UInt8} {w : World} (h : Holds B b l w) (o : Obj) : Laid B b l w (w.alloc o) :=
  ⟨Lib.IsBuilderF.alloc h o, (Below.refl _ _).alloc (by have := holds_lt h; omega) _, (Lib.OthersKept.refl _ _ _).alloc _⟩

end Go.Proofs.YtffoklhopmhjaaaDoor
