/- parts.Reader: numbers and texts, one behind the other; from the first one on that is wrong all of them are zero. -/
import Derived.Deep.RegionHeld3
import Derived.Test.YtffoklhopmhjaaaGreatDoorDecNum
import Derived.Test.YtffoklhopmhjaaaGreatDoorClsPrs
set_option linter.unusedSimpArgs false
set_option linter.unusedVariables false
namespace Go.Proofs.YtffoklhopmhjaaaGreatDoor
open Go Go.RowKit Go.Shelf Go.Sort

/-- a reader's cells in block R, over a world that holds what start-up lays -/
structure Rr (w0 : World) (ea : Addr) (s : ByteArray) (R : Nat) (p : Nat) (bad : Bool) (W : World) : Prop where
  hs : s.size ≤ 9223372036854775807
  e0 : errLies ea w0
  b0 : Below w0.heap.size w0 W
  lr : w0.heap.size ≤ R
  rb : W.heap[R]? = some (.cells #[.string s, .int .i64 (p : Int), .bool bad] 130 (0, 0))
  hp : p ≤ s.size
theorem Rr.lt {w0 : World} {ea : Addr} {s : ByteArray} {R p : Nat} {bad : Bool} {W : World} (h : Rr w0 ea s R p bad W) : R < W.heap.size := (Array.getElem?_eq_some_iff.1 h.rb).1
theorem Rr.below {w0 : World} {ea : Addr} {s : ByteArray} {R p : Nat} {bad : Bool} {W W' : World} (h : Rr w0 ea s R p bad W) (hb : Below W.heap.size W W') : Rr w0 ea s R p bad W' :=
  ⟨h.hs, h.e0, h.b0.trans (hb.mono h.b0.size), h.lr, (hb.block _ h.lt).trans h.rb, h.hp⟩
theorem Rr.err {w0 : World} {ea : Addr} {s : ByteArray} {R p : Nat} {bad : Bool} {W : World} (h : Rr w0 ea s R p bad W) : errLies ea W := h.e0.below h.b0
theorem Rr.facts {w0 : World} {ea : Addr} {s : ByteArray} {R p : Nat} {bad : Bool} {W : World} (h : Rr w0 ea s R p bad W) :
    (W.cell? ⟨R, 0, none⟩ = some (.string s) ∧ W.cell? ⟨R, 1, none⟩ = some (.int .i64 (p : Int)) ∧ W.cell? ⟨R, 2, none⟩ = some (.bool bad)) ∧ W.frozen? ⟨R, 1, none⟩ = false ∧ W.frozen? ⟨R, 2, none⟩ = false := by
  refine ⟨⟨?_, ?_, ?_⟩, Lib.frozen_of_heap h.rb 1, Lib.frozen_of_heap h.rb 2⟩ <;> (rw [Lib.cell_of_heap h.rb]; rfl)
theorem Rr.setAt {w0 : World} {ea : Addr} {s : ByteArray} {R p q : Nat} {bad : Bool} {W : World} (h : Rr w0 ea s R p bad W) (hq : q ≤ s.size) : Rr w0 ea s R q bad (W.setCell ⟨R, 1, none⟩ (.int .i64 (q : Int))) :=
  ⟨h.hs, h.e0, h.b0.setCell (p := ⟨R, 1, none⟩) h.lr _, h.lr, (heap_setCell_same W R 1 _ _ (.int .i64 (q : Int)) h.rb).trans rfl, hq⟩
theorem Rr.setBad {w0 : World} {ea : Addr} {s : ByteArray} {R p : Nat} {bad : Bool} {W : World} (h : Rr w0 ea s R p bad W) (b : Bool) : Rr w0 ea s R p b (W.setCell ⟨R, 2, none⟩ (.bool b)) :=
  ⟨h.hs, h.e0, h.b0.setCell (p := ⟨R, 2, none⟩) h.lr _, h.lr, (heap_setCell_same W R 2 _ _ (.bool b) h.rb).trans rfl, h.hp⟩
theorem Kept.setI {R : Nat} {W W' : World} (h : Kept R W W') (i : Nat) (v : Value) : Kept R W (W'.setCell ⟨R, i, none⟩ v) := grown_set_row h _ rfl v

/-- a reader that stands at a place, or has met what is wrong -/
def RrO (w0 : World) (ea : Addr) (s : ByteArray) (R : Nat) (o : Option Nat) (W : World) : Prop := match o with
  | some p => Rr w0 ea s R p false W
  | none => ∃ p, Rr w0 ea s R p true W
theorem RrO.below {w0 : World} {ea : Addr} {s : ByteArray} {R : Nat} {o : Option Nat} {W W' : World} (h : RrO w0 ea s R o W) (hb : Below W.heap.size W W') : RrO w0 ea s R o W' := by
  cases o with
  | some p => exact Rr.below h hb
  | none => obtain ⟨p, h⟩ := h; exact ⟨p, h.below hb⟩
theorem RrO.lt {w0 : World} {ea : Addr} {s : ByteArray} {R : Nat} {o : Option Nat} {W : World} (h : RrO w0 ea s R o W) : R < W.heap.size := by
  cases o with
  | some p => exact Rr.lt h
  | none => obtain ⟨p, h⟩ := h; exact h.lt
theorem RrO.b0 {w0 : World} {ea : Addr} {s : ByteArray} {R : Nat} {o : Option Nat} {W : World} (h : RrO w0 ea s R o W) : Below w0.heap.size w0 W := by
  cases o with
  | some p => exact Rr.b0 h
  | none => obtain ⟨p, h⟩ := h; exact h.b0
theorem RrO.kept {w0 : World} {ea : Addr} {s : ByteArray} {R : Nat} {o : Option Nat} {W W' : World} (h : RrO w0 ea s R o W) (hb : Below w0.heap.size w0 W') (hk : W'.heap[R]? = W.heap[R]?) : RrO w0 ea s R o W' := by
  cases o with
  | some p => exact ⟨h.hs, h.e0, hb, h.lr, hk.trans h.rb, h.hp⟩
  | none => obtain ⟨p, h⟩ := h; exact ⟨p, h.hs, h.e0, hb, h.lr, hk.trans h.rb, h.hp⟩

noncomputable def numS (s : ByteArray) (o : Option Nat) : Int × Option Nat := match o with
  | none => (0, none)
  | some p => match numP (s.data.toList.drop p) with
    | none => (0, none)
    | some x => (x.1, some (p + x.2))
noncomputable def textS (s : ByteArray) (o : Option Nat) : List UInt8 × Option Nat := match o with
  | none => ([], none)
  | some p => match textP (s.data.toList.drop p) with
    | none => ([], none)
    | some x => (x.1, some (p + x.2))

theorem readNum_L (s : ByteArray) (hs : s.size ≤ 9223372036854775807) (p : Nat) (hp : p ≤ s.size) (ea : Addr) (W : World) (hE : errLies ea W) :
    Calls Tryz.prog 29 #[.string s, .int .i64 (p : Int)] W fun e W' => Below W.heap.size W W' ∧ match numP (s.data.toList.drop p) with
      | none => e = .returned (.tuple #[.int .i64 0, .int .i64 0, .int .i64 10])
      | some x => e = .returned (.tuple #[.int .i64 x.1, .int .i64 ((p + x.2 : Nat) : Int), .int .i64 0]) ∧ p + x.2 ≤ s.size ∧ Wire.inRange x.1 := by
  have hd : s.data.toList.drop ((p : Nat) : Int).toNat = s.data.toList.drop p := by rw [Int.toNat_natCast]
  refine (readNum_any s hs p ea W hE).mono ?_
  rintro e W1 ⟨hB, ⟨v, hv, rfl⟩ | ⟨hno, rfl⟩⟩
  · refine ⟨hB, ?_⟩
    have hn : numL (s.data.toList.drop p) = some v := numL_of hv.2.2.1 (by have := hv.2.2.2; rwa [hd] at this)
    have hx : numP (s.data.toList.drop p) = some (v, (Wire.num v).length) := by unfold numP; rw [hn]; rfl
    rw [hx]
    have hl : (p : Int) + ((Wire.num v).length : Nat) ≤ s.size := by
      have := hv.2.2.2.length_le
      rw [List.length_drop] at this
      have e : s.data.toList.length = s.size := by simp
      have := hv.2.1
      simp at *; omega
    refine ⟨?_, by show p + (Wire.num v).length ≤ s.size; omega, hv.2.2.1⟩
    show _ = Ending.returned (.tuple #[.int .i64 v, .int .i64 ((p + (Wire.num v).length : Nat) : Int), .int .i64 0])
    rw [show ((p + (Wire.num v).length : Nat) : Int) = (p : Int) + ((Wire.num v).length : Nat) from by omega]
  · refine ⟨hB, ?_⟩
    have hn : numL (s.data.toList.drop p) = none := numL_none (fun v a b => hno v ⟨by omega, by omega, a, by rw [hd]; exact b⟩)
    have hx : numP (s.data.toList.drop p) = none := by unfold numP; rw [hn]; rfl
    rw [hx]
theorem readText_L (s : ByteArray) (hs : s.size ≤ 9223372036854775807) (p : Nat) (hp : p ≤ s.size) (ea : Addr) (W : World) (hE : errLies ea W) :
    Calls Tryz.prog 31 #[.string s, .int .i64 (p : Int)] W fun e W' => Below W.heap.size W W' ∧ match textP (s.data.toList.drop p) with
      | none => e = .returned (.tuple #[.string ⟨#[]⟩, .int .i64 0, .int .i64 10])
      | some x => e = .returned (.tuple #[.string ⟨x.1.toArray⟩, .int .i64 ((p + x.2 : Nat) : Int), .int .i64 0]) ∧ p + x.2 ≤ s.size ∧ x.1.length ≤ 10000 := by
  have hd : s.data.toList.drop ((p : Nat) : Int).toNat = s.data.toList.drop p := by rw [Int.toNat_natCast]
  refine (readText_any s hs p ea W hE).mono ?_
  rintro e W1 ⟨hB, ⟨t, hv, rfl⟩ | ⟨hno, rfl⟩⟩
  · refine ⟨hB, ?_⟩
    have hl := readsText_room hv
    have hn : textL (s.data.toList.drop p) = some t := textL_of hv.2.2.1 (by have := hv.2.2.2; rwa [hd] at this)
    have hx : textP (s.data.toList.drop p) = some (t, (Wire.num t.length).length + t.length) := by unfold textP; rw [hn]; rfl
    rw [hx]
    refine ⟨?_, by show p + ((Wire.num t.length).length + t.length) ≤ s.size; omega, hv.2.2.1⟩
    show _ = Ending.returned (.tuple #[.string ⟨t.toArray⟩, .int .i64 ((p + ((Wire.num t.length).length + t.length) : Nat) : Int), .int .i64 0])
    rw [show ((p + ((Wire.num t.length).length + t.length) : Nat) : Int) = (p : Int) + ((Wire.num t.length).length : Nat) + (t.length : Nat) from by omega]
  · refine ⟨hB, ?_⟩
    have hn : textL (s.data.toList.drop p) = none := textL_none (fun t a b => hno t ⟨by omega, by omega, a, by rw [hd]; exact b⟩)
    have hx : textP (s.data.toList.drop p) = none := by unfold textP; rw [hn]; rfl
    rw [hx]
end Go.Proofs.YtffoklhopmhjaaaGreatDoor
