/- val.Decode's two functions: a number, a text, from the place on that a cell holds. -/
import Derived.Test.YtffoklhopmhjaaaGreatDoorValDec
import Derived.Test.YtffoklhopmhjaaaGreatDoorWireShown
set_option linter.unusedSimpArgs false
set_option linter.unusedVariables false
namespace Go.Proofs.YtffoklhopmhjaaaGreatDoor
open Go Go.RowKit Go.Shelf Go.Sort

/-- a text in a block, a place in another one, over a world that holds what start-up lays -/
structure Rd (w0 : World) (ea : Addr) (s : ByteArray) (Sb Ab : Nat) (p : Nat) (W : World) : Prop where
  hs : s.size ≤ 9223372036854775807
  t0 : Tabs w0
  e0 : errLies ea w0
  b0 : Below w0.heap.size w0 W
  ls : w0.heap.size ≤ Sb
  la : w0.heap.size ≤ Ab
  ne : Sb ≠ Ab
  sb : W.heap[Sb]? = some (.cells #[.string s] 9 (0, 0))
  ab : W.heap[Ab]? = some (.cells #[.int .i64 (p : Int)] 3 (0, 0))
  hp : p ≤ s.size
theorem Rd.lt {w0 : World} {ea : Addr} {s : ByteArray} {Sb Ab p : Nat} {W : World} (h : Rd w0 ea s Sb Ab p W) : Ab < W.heap.size := (Array.getElem?_eq_some_iff.1 h.ab).1
theorem Rd.lts {w0 : World} {ea : Addr} {s : ByteArray} {Sb Ab p : Nat} {W : World} (h : Rd w0 ea s Sb Ab p W) : Sb < W.heap.size := (Array.getElem?_eq_some_iff.1 h.sb).1
theorem Rd.below {w0 : World} {ea : Addr} {s : ByteArray} {Sb Ab p : Nat} {W W' : World} (h : Rd w0 ea s Sb Ab p W) (hb : Below W.heap.size W W') : Rd w0 ea s Sb Ab p W' :=
  ⟨h.hs, h.t0, h.e0, h.b0.trans (hb.mono h.b0.size), h.ls, h.la, h.ne, (hb.block _ h.lts).trans h.sb, (hb.block _ h.lt).trans h.ab, h.hp⟩
theorem Rd.tabs {w0 : World} {ea : Addr} {s : ByteArray} {Sb Ab p : Nat} {W : World} (h : Rd w0 ea s Sb Ab p W) : Tabs W := h.t0.below h.b0
theorem Rd.err {w0 : World} {ea : Addr} {s : ByteArray} {Sb Ab p : Nat} {W : World} (h : Rd w0 ea s Sb Ab p W) : errLies ea W := h.e0.below h.b0
theorem Rd.set {w0 : World} {ea : Addr} {s : ByteArray} {Sb Ab p q : Nat} {W : World} (h : Rd w0 ea s Sb Ab p W) (hq : q ≤ s.size) : Rd w0 ea s Sb Ab q (W.setCell ⟨Ab, 0, none⟩ (.int .i64 (q : Int))) := by
  refine ⟨h.hs, h.t0, h.e0, h.b0.setCell (p := ⟨Ab, 0, none⟩) h.la _, h.ls, h.la, h.ne, ?_, ?_, hq⟩
  · exact (Below.heap_setCell W ⟨Ab, 0, none⟩ _ Sb h.ne).trans h.sb
  · have := heap_setCell_same W Ab 0 _ _ (.int .i64 (q : Int)) h.ab
    exact this.trans rfl
/-- what is kept but the place -/
abbrev Kept (Ab : Nat) (W W' : World) : Prop := W.grownBy W' (some Ab)
theorem Kept.refl (Ab : Nat) (W : World) : Kept Ab W W := ⟨rfl, rfl, rfl, Nat.le_refl _, fun _ _ _ => rfl⟩
theorem Kept.below {Ab : Nat} {W W' W'' : World} (h : Kept Ab W W') (hb : Below W'.heap.size W' W'') : Kept Ab W W'' := grown_below h hb
theorem Kept.trans {Ab : Nat} {W W' W'' : World} (h : Kept Ab W W') (h' : Kept Ab W' W'') : Kept Ab W W'' :=
  ⟨h'.os.trans h.os, h'.tape.trans h.tape, h'.output.trans h.output, Nat.le_trans h.size h'.size, fun k hk hne => (h'.block k (Nat.lt_of_lt_of_le hk h.size) hne).trans (h.block k hk hne)⟩
theorem Kept.set {Ab : Nat} {W W' : World} (h : Kept Ab W W') (v : Value) : Kept Ab W (W'.setCell ⟨Ab, 0, none⟩ v) := grown_set_row h _ rfl v

/-- what the number's function answers -/
def decNumPost (w0 : World) (ea : Addr) (s : ByteArray) (Sb Ab p : Nat) (W : World) (e : Ending) (W' : World) : Prop :=
  Kept Ab W W' ∧ match numL (s.data.toList.drop p) with
    | none => e = .returned (.tuple #[.int .i64 0, .int .i64 10]) ∧ Rd w0 ea s Sb Ab 0 W'
    | some v => e = .returned (.tuple #[.int .i64 v, .int .i64 0]) ∧ Rd w0 ea s Sb Ab (p + (Wire.num v).length) W'

set_option maxRecDepth 100000 in
set_option maxHeartbeats 1000000 in
theorem decNum (w0 : World) (ea : Addr) (s : ByteArray) (Sb Ab p : Nat) (W : World) (h : Rd w0 ea s Sb Ab p W) :
    Calls Tryz.prog 28 #[.pointer (some ⟨Sb, 0, none⟩), .pointer (some ⟨Ab, 0, none⟩)] W (decNumPost w0 ea s Sb Ab p W) := by
  have hlt := h.lt
  have hc : ∀ W', Below W.heap.size W W' → W'.cell? ⟨Ab, 0, none⟩ = some (.int .i64 (p : Int)) ∧ W'.frozen? ⟨Ab, 0, none⟩ = false := fun W' hb => by
    have := (h.below hb).ab
    exact ⟨by rw [Lib.cell_of_heap this]; rfl, Lib.frozen_of_heap this 0⟩
  have s0 : W.cell? ⟨Sb, 0, none⟩ = some (.string s) := by rw [Lib.cell_of_heap h.sb]; rfl
  have a0 : W.cell? ⟨Ab, 0, none⟩ = some (.int .i64 (p : Int)) := (hc W (Below.refl _ _)).1
  have hr := readNum_any s h.hs p ea W h.err
  have H := Lib.hid h
  have HC := Lib.hid hc
  have hps := h.hp
  clear h hc
  go_enter Tryz.func28, Tryz.ntmps28
  go_wp2_with fail
  refine hr.mono ?_
  rintro e W1 ⟨hB, hcase⟩
  obtain ⟨c1, f1⟩ := HC.out W1 hB
  have hk := Kept.below (Kept.refl Ab W) hB
  have hz := hB.size
  have hR1 := H.out.below hB
  have HR1 := Lib.hid hR1
  clear hR1 hr HC
  have hd : s.data.toList.drop ((p : Nat) : Int).toNat = s.data.toList.drop p := by rw [Int.toNat_natCast]
  rcases hcase with ⟨v, hv, rfl⟩ | ⟨hno, rfl⟩
  · have hl : (p : Int) + ((Wire.num v).length : Nat) ≤ s.size := by
      have := hv.2.2.2.length_le
      rw [List.length_drop] at this
      have e : s.data.toList.length = s.size := by simp
      have := hv.2.1
      simp at *; omega
    have hn : numL (s.data.toList.drop p) = some v := numL_of hv.2.2.1 (by have := hv.2.2.2; rwa [hd] at this)
    have hR2 := HR1.out.set (q := p + (Wire.num v).length) (by omega)
    have hk2 := hk.set (.int .i64 ((p + (Wire.num v).length : Nat) : Int))
    have hcast : ((p + (Wire.num v).length : Nat) : Int) = (p : Int) + ((Wire.num v).length : Nat) := by omega
    rw [hcast] at hR2 hk2
    have HN := Lib.hid hn
    have HR2 := Lib.hid hR2
    clear hn hR2 hcast hd hv
    go_wp2_with fail
    go_ret2
    refine ⟨hk2, ?_⟩
    rw [HN.out]
    exact ⟨rfl, HR2.out⟩
  · have hn : numL (s.data.toList.drop p) = none := numL_none (fun v a b => hno v ⟨by omega, by omega, a, by rw [hd]; exact b⟩)
    have hR2 := HR1.out.set (q := 0) (by omega)
    have hk2 := hk.set (.int .i64 ((0 : Nat) : Int))
    have HN := Lib.hid hn
    have HR2 := Lib.hid hR2
    clear hn hR2 hd hno
    go_wp2_with fail
    go_ret2
    refine ⟨hk2, ?_⟩
    rw [HN.out]
    exact ⟨rfl, HR2.out⟩

/-- what the text's function answers -/
def decTextPost (w0 : World) (ea : Addr) (s : ByteArray) (Sb Ab p : Nat) (W : World) (e : Ending) (W' : World) : Prop :=
  Kept Ab W W' ∧ match textL (s.data.toList.drop p) with
    | none => e = .returned (.tuple #[.string ⟨#[]⟩, .int .i64 10]) ∧ Rd w0 ea s Sb Ab 0 W'
    | some t => e = .returned (.tuple #[.string ⟨t.toArray⟩, .int .i64 0]) ∧ Rd w0 ea s Sb Ab (p + ((Wire.num t.length).length + t.length)) W'

set_option maxRecDepth 100000 in
set_option maxHeartbeats 1000000 in
theorem decText (w0 : World) (ea : Addr) (s : ByteArray) (Sb Ab p : Nat) (W : World) (h : Rd w0 ea s Sb Ab p W) :
    Calls Tryz.prog 30 #[.pointer (some ⟨Sb, 0, none⟩), .pointer (some ⟨Ab, 0, none⟩)] W (decTextPost w0 ea s Sb Ab p W) := by
  have hlt := h.lt
  have hc : ∀ W', Below W.heap.size W W' → W'.cell? ⟨Ab, 0, none⟩ = some (.int .i64 (p : Int)) ∧ W'.frozen? ⟨Ab, 0, none⟩ = false := fun W' hb => by
    have := (h.below hb).ab
    exact ⟨by rw [Lib.cell_of_heap this]; rfl, Lib.frozen_of_heap this 0⟩
  have s0 : W.cell? ⟨Sb, 0, none⟩ = some (.string s) := by rw [Lib.cell_of_heap h.sb]; rfl
  have a0 : W.cell? ⟨Ab, 0, none⟩ = some (.int .i64 (p : Int)) := (hc W (Below.refl _ _)).1
  have hr := readText_any s h.hs p ea W h.err
  have H := Lib.hid h
  have HC := Lib.hid hc
  have hps := h.hp
  have hsz := h.hs
  clear h hc
  go_enter Tryz.func30, Tryz.ntmps30
  go_wp2_with fail
  refine hr.mono ?_
  rintro e W1 ⟨hB, hcase⟩
  obtain ⟨c1, f1⟩ := HC.out W1 hB
  have hk := Kept.below (Kept.refl Ab W) hB
  have hz := hB.size
  have hR1 := H.out.below hB
  have HR1 := Lib.hid hR1
  clear hR1 hr HC
  have hd : s.data.toList.drop ((p : Nat) : Int).toNat = s.data.toList.drop p := by rw [Int.toNat_natCast]
  rcases hcase with ⟨t, hv, rfl⟩ | ⟨hno, rfl⟩
  · have hl := readsText_room hv
    have hn : textL (s.data.toList.drop p) = some t := textL_of hv.2.2.1 (by have := hv.2.2.2; rwa [hd] at this)
    have hR2 := HR1.out.set (q := p + ((Wire.num t.length).length + t.length)) (by omega)
    have hk2 := hk.set (.int .i64 ((p + ((Wire.num t.length).length + t.length) : Nat) : Int))
    have hcast : ((p + ((Wire.num t.length).length + t.length) : Nat) : Int) = (p : Int) + ((Wire.num t.length).length : Nat) + (t.length : Nat) := by omega
    rw [hcast] at hR2 hk2
    have HN := Lib.hid hn
    have HR2 := Lib.hid hR2
    clear hn hR2 hcast hd hv
    go_wp2_with fail
    go_ret2
    refine ⟨hk2, ?_⟩
    rw [HN.out]
    exact ⟨rfl, HR2.out⟩
  · have hn : textL (s.data.toList.drop p) = none := textL_none (fun t a b => hno t ⟨by omega, by omega, a, by rw [hd]; exact b⟩)
    have hR2 := HR1.out.set (q := 0) (by omega)
    have hk2 := hk.set (.int .i64 ((0 : Nat) : Int))
    have HN := Lib.hid hn
    have HR2 := Lib.hid hR2
    clear hn hR2 hd hno
    go_wp2_with fail
    go_ret2
    refine ⟨hk2, ?_⟩
    rw [HN.out]
    exact ⟨rfl, HR2.out⟩
end Go.Proofs.YtffoklhopmhjaaaGreatDoor
