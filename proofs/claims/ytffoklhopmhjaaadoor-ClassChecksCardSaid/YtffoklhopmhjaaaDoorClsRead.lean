/- class.read: what is known of memory along it. -/
import Derived.OwnWalk
import Derived.Deep.AppendLies
import Derived.Test.YtffoklhopmhjaaaDoorClsRun
import Derived.Test.YtffoklhopmhjaaaDoorClsField
import Derived.Test.YtffoklhopmhjaaaDoorPartsW
import Derived.Test.YtffoklhopmhjaaaDoorOwned
set_option linter.unusedSimpArgs false
set_option linter.unusedVariables false
namespace Go.Proofs.YtffoklhopmhjaaaDoor
open Go Go.RowKit Go.Shelf Go.Sort

theorem set_grown (W : World) (b i : Nat) (v : Value) : W.grownBy (W.setCell ⟨b, i, none⟩ v) (some b) := Kept.setI (Kept.refl b W) i v
theorem CBox.grown {W W' : World} {b : Nat} {nm : ByteArray} {p : Option Addr} {m c : Nat} {row : Option Nat} (h : CBox W b nm p m c) (hg : W.grownBy W' row) (hne : some b ≠ row) : CBox W' b nm p m c := (hg.block b h.lt hne).trans h
theorem CBox.set0 {W : World} {b : Nat} {nm : ByteArray} {p : Option Addr} {m c : Nat} (h : CBox W b nm p m c) (nm' : ByteArray) : CBox (W.setCell ⟨b, 0, none⟩ (.string nm')) b nm' p m c := (heap_setCell_same W b 0 _ _ (.string nm') h).trans rfl
theorem CBox.set1 {W : World} {b : Nat} {nm : ByteArray} {p : Option Addr} {m c : Nat} (h : CBox W b nm p m c) (p' : Option Addr) (m' c' : Nat) : CBox (W.setCell ⟨b, 1, none⟩ (.slice p' m' c')) b nm p' m' c' := (heap_setCell_same W b 1 _ _ (.slice p' m' c') h).trans rfl
theorem CBox.free {W : World} {b : Nat} {nm : ByteArray} {p : Option Addr} {m c : Nat} (h : CBox W b nm p m c) : W.frozen? ⟨b, 0, none⟩ = false ∧ W.frozen? ⟨b, 1, none⟩ = false := ⟨Lib.frozen_of_heap h 0, Lib.frozen_of_heap h 1⟩
theorem FBox.grown {W W' : World} {b : Nat} {f : Fl} {row : Option Nat} (h : FBox W b f) (hg : W.grownBy W' row) (hne : some b ≠ row) : FBox W' b f := (hg.block b h.lt hne).trans h
theorem FBox.set3 {W : World} {b : Nat} {f : Fl} (h : FBox W b f) (x : Bool) : FBox (W.setCell ⟨b, 3, none⟩ (.bool x)) b { f with ix := x } := (heap_setCell_same W b 3 _ _ (.bool x) h).trans rfl
theorem FBox.free {W : World} {b : Nat} {f : Fl} (h : FBox W b f) : W.frozen? ⟨b, 3, none⟩ = false := Lib.frozen_of_heap h 3

structure ReadSt (w0 : World) (ea : Addr) (s : ByteArray) (R : Nat) (W0 : World) (C : Nat) (nm : ByteArray) (fs : List Fl) (vp : Option Addr) (vc : Nat) (o : Option Nat) (W : World) : Prop where
  lw : w0.heap.size ≤ R
  hR : R < W0.heap.size
  hC : W0.heap.size < C
  out : CBox W W0.heap.size ⟨#[]⟩ none 0 0
  box : CBox W C nm vp fs.length vc
  own : W.ownsRow (C + 1) 53 4 (.slice vp fs.length vc) fs.length (flCells fs)
  rd : RrO w0 ea s R o W
  kept : Kept R W0 W

theorem own_not {W : World} {base : Nat} {e : TypeId} {size n : Nat} {v : Value} {xs : List Value} (h : W.ownsRow base e size v n xs) {b : Nat} (hb : b < base) : v.ownBlock = none ∨ v.ownBlock ≠ some b := by
  cases hv : v.ownBlock with
  | none => exact .inl rfl
  | some g => exact .inr (fun e => by have := (h.lt g hv).1; have := Option.some.inj e; omega)
theorem below_grown {w W W' : World} {b : Nat} (h : Below w.heap.size w W) (hg : W.grownBy W' (some b)) (hb : w.heap.size ≤ b) : Below w.heap.size w W' :=
  ⟨hg.os.trans h.os, hg.tape.trans h.tape, hg.output.trans h.output, Nat.le_trans h.size hg.size, fun k hk => (hg.block k (Nat.lt_of_lt_of_le hk h.size) (fun e => by have := Option.some.inj e; omega)).trans (h.block k hk)⟩
theorem kept_grown {R : Nat} {W0 W W' : World} {row : Option Nat} (h : Kept R W0 W) (hg : W.grownBy W' row) (hb : ∀ b, row = some b → W0.heap.size ≤ b) : Kept R W0 W' :=
  ⟨hg.os.trans h.os, hg.tape.trans h.tape, hg.output.trans h.output, Nat.le_trans h.size hg.size, fun k hk hne => (hg.block k (Nat.lt_of_lt_of_le hk h.size) (fun e => by have := hb k e.symm; omega)).trans (h.block k hk hne)⟩

section
variable {w0 : World} {ea : Addr} {s : ByteArray} {R : Nat} {W0 : World} {C : Nat} {nm : ByteArray} {fs : List Fl} {vp : Option Addr} {vc : Nat} {o o' : Option Nat} {W W' : World}
theorem ReadSt.call (h : ReadSt w0 ea s R W0 C nm fs vp vc o W) (hr : RrO w0 ea s R o' W') (hk : Kept R W W') : ReadSt w0 ea s R W0 C nm fs vp vc o' W' := by
  have h1 := h.hR
  have h2 := h.hC
  exact ⟨h.lw, h1, h2, h.out.grown hk (fun e => by have := Option.some.inj e; omega), h.box.grown hk (fun e => by have := Option.some.inj e; omega), h.own.kept hk (own_not h.own (by omega)), hr, h.kept.trans hk⟩
theorem ReadSt.alloc (h : ReadSt w0 ea s R W0 C nm fs vp vc o W) (x : Obj) : ReadSt w0 ea s R W0 C nm fs vp vc o (W.alloc x) := by
  have hb : Below W.heap.size W (W.alloc x) := (Below.refl _ _).alloc (Nat.le_refl _) _
  exact ⟨h.lw, h.hR, h.hC, h.out.below hb, h.box.below hb, h.own.alloc x, h.rd.below hb, h.kept.below hb⟩
/-- a cell of another block -/
theorem ReadSt.set (h : ReadSt w0 ea s R W0 C nm fs vp vc o W) (b i : Nat) (v : Value) (h1 : W0.heap.size < b) (h2 : b ≠ C) (h3 : ∀ g, Value.ownBlock (.slice vp fs.length vc) = some g → g < b) : ReadSt w0 ea s R W0 C nm fs vp vc o (W.setCell ⟨b, i, none⟩ v) := by
  have hg := set_grown W b i v
  have hr := h.hR
  have hl := h.lw
  refine ⟨hl, hr, h.hC, h.out.grown hg (fun e => by have := Option.some.inj e; omega), h.box.grown hg (fun e => h2 (Option.some.inj e).symm), h.own.kept hg ?_, ?_, kept_grown h.kept hg (fun b' e => by have := Option.some.inj e; omega)⟩
  · cases hv : Value.ownBlock (.slice vp fs.length vc) with
    | none => exact .inl rfl
    | some g => exact .inr (fun e => by have := h3 g hv; have := Option.some.inj e; omega)
  · exact h.rd.kept (below_grown h.rd.b0 hg (by omega)) (hg.block R h.rd.lt (fun e => by have := Option.some.inj e; omega))
/-- one field more -/
theorem ReadSt.more (h : ReadSt w0 ea s R W0 C nm fs vp vc o W) {f : Fl} {gg cap : Nat} (hg : W.grownBy W' (Value.ownBlock (.slice vp fs.length vc))) (ho : W'.ownsRow (C + 1) 53 4 (.slice (some ⟨gg, 0, none⟩) (fs.length + 1) cap) (fs.length + 1) (flCells (fs ++ [f]))) :
    ReadSt w0 ea s R W0 C nm (fs ++ [f]) (some ⟨gg, 0, none⟩) cap o (W'.setCell ⟨C, 1, none⟩ (.slice (some ⟨gg, 0, none⟩) (fs.length + 1) cap)) := by
  have hl : ∀ g, Value.ownBlock (.slice vp fs.length vc) = some g → C + 1 ≤ g := fun g e => (h.own.lt g e).1
  have h1 := h.hR
  have h2 := h.hC
  have h3 := h.lw
  have hb := h.box.grown hg (fun e => by have := hl C e.symm; omega)
  have ha := h.out.grown hg (fun e => by have := hl W0.heap.size e.symm; omega)
  have hk := kept_grown h.kept hg (fun b e => by have := hl b e; omega)
  have hgs := set_grown W' C 1 (.slice (some ⟨gg, 0, none⟩) (fs.length + 1) cap)
  have hrb : W'.heap[R]? = W.heap[R]? := hg.block R h.rd.lt (fun e => by have := hl R e.symm; omega)
  have hbw : Below w0.heap.size w0 W' := ⟨hg.os.trans h.rd.b0.os, hg.tape.trans h.rd.b0.tape, hg.output.trans h.rd.b0.output, Nat.le_trans h.rd.b0.size hg.size, fun k hk => (hg.block k (Nat.lt_of_lt_of_le hk h.rd.b0.size) (fun e => by have := hl k e.symm; omega)).trans (h.rd.b0.block k hk)⟩
  have hr := h.rd.kept hbw hrb
  have hlen : (fs ++ [f]).length = fs.length + 1 := by simp
  refine ⟨h3, h1, h2, ha.grown hgs (fun e => by have := Option.some.inj e; omega), ?_, ?_, ?_, kept_grown hk hgs (fun b e => by have := Option.some.inj e; omega)⟩
  · rw [hlen]; exact hb.set1 _ _ _
  · rw [hlen]; exact ho.kept hgs (own_not ho (by omega))
  · exact hr.kept (below_grown hbw hgs (by omega)) (hgs.block R hr.lt (fun e => by have := Option.some.inj e; omega))
end
end Go.Proofs.YtffoklhopmhjaaaDoor
