/- Texts put together: ClsRead, ClsOf, DecVal, ValTxt, ReadNum, Unq, ReadIn, DecList, Decode, ItOf, ReadList, ClsReadW. -/
import Derived.OwnWalk
import Derived.Deep.AppendLies
import Derived.Test.YtffoklhopmhjaaaGreatDoorClsRun
import Derived.Test.YtffoklhopmhjaaaGreatDoorClsField
import Derived.Test.YtffoklhopmhjaaaGreatDoorPartsW
import Derived.Test.YtffoklhopmhjaaaGreatDoorOwned
import Derived.Deep.RegionHeld3
import Derived.Test.YtffoklhopmhjaaaGreatDoorClsSame
import Derived.Test.YtffoklhopmhjaaaGreatDoorDecNum
import Derived.Test.YtffoklhopmhjaaaGreatDoorVBox
import Derived.Test.YtffoklhopmhjaaaGreatDoorValRaw
import Derived.Test.YtffoklhopmhjaaaGreatDoorValDec
import Derived.Lib.ItoaNum
import Derived.Test.YtffoklhopmhjaaaGreatDoorValSmall
import Derived.RangeFuncRecord
import Derived.Lib.BufferRead
import Derived.Test.YtffoklhopmhjaaaGreatDoorWireNum
import Derived.Test.YtffoklhopmhjaaaGreatDoorValList
import Derived.Test.YtffoklhopmhjaaaGreatDoorValCmp
/- class.read: what is known of memory along it. -/
set_option linter.unusedSimpArgs false
set_option linter.unusedVariables false
namespace Go.Proofs.YtffoklhopmhjaaaGreatDoor
open Go Go.RowKit Go.Shelf Go.Sort

theorem set_grown (W : World) (b i : Nat) (v : Value) : W.grownBy (W.setCell ⟨b, i, none⟩ v) (some b) := Kept.setI (Kept.refl b W) i v
theorem CBox.grown {W W' : World} {b : Nat} {nm : ByteArray} {p : Option Addr} {m c : Nat} {row : Option Nat} (h : CBox W b nm p m c) (hg : W.grownBy W' row) (hne : some b ≠ row) : CBox W' b nm p m c := (hg.block b h.lt hne).trans h
theorem CBox.set0 {W : World} {b : Nat} {nm : ByteArray} {p : Option Addr} {m c : Nat} (h : CBox W b nm p m c) (nm' : ByteArray) : CBox (W.setCell ⟨b, 0, none⟩ (.string nm')) b nm' p m c := (heap_setCell_same W b 0 _ _ (.string nm') h).trans rfl
theorem CBox.set1 {W : World} {b : Nat} {nm : ByteArray} {p : Option Addr} {m c : Nat} (h : CBox W b nm p m c) (p' : Option Addr) (m' c' : Nat) : CBox (W.setCell ⟨b, 1, none⟩ (.slice p' m' c')) b nm p' m' c' := (heap_setCell_same W b 1 _ _ (.slice p' m' c') h).trans rfl
theorem CBox.free {W : World} {b : Nat} {nm : ByteArray} {p : Option Addr} {m c : Nat} (h : CBox W b nm p m c) : W.frozen? ⟨b, 0, none⟩ = false ∧ W.frozen? ⟨b, 1, none⟩ = false := ⟨Lib.frozen_of_heap h 0, Lib.frozen_of_heap h 1⟩
theorem FBox.grown {W W' : World} {b : Nat} {f : Fl} {row : Option Nat} (h : FBox W b f) (hg : W.grownBy W' row) (hne : some b ≠ row) : FBox W' b f := (hg.block b h.lt hne).trans h
theorem FBox.set3 {W : World} {b : Nat} {f : Fl} (h : FBox W b f) (x : Bool) : FBox (W.setCell ⟨b, 3, none⟩ (.bool x)) b { f with ix := x } := (heap_setCell_same W b 3 _ _ (.bool x) h).trans rfl
theorem FBox.free {W : World} {b : Nat} {f : Fl} (h : FBox W b f) : W.frozen? ⟨b, 3, none⟩ = false := Lib.frozen_of_heap h 3

structure ReadSt (w0 : World) (ea : Addr) (s : ByteArray) (R : Nat) (W0 : World) (C : Nat) (nm : ByteArray) (fs : List Fl) (vp : Option Addr) (vc : Nat) (o : Option Nat) (W : World) : Prop where
  lw : w0.heap.size ≤ R
  hR : R < W0.heap.size
  hC : W0.heap.size < C
  out : CBox W W0.heap.size ⟨#[]⟩ none 0 0
  box : CBox W C nm vp fs.length vc
  own : W.ownsRow (C + 1) 48 4 (.slice vp fs.length vc) fs.length (flCells fs)
  rd : RrO w0 ea s R o W
  kept : Kept R W0 W

theorem own_not {W : World} {base : Nat} {e : TypeId} {size n : Nat} {v : Value} {xs : List Value} (h : W.ownsRow base e size v n xs) {b : Nat} (hb : b < base) : v.ownBlock = none ∨ v.ownBlock ≠ some b := by
  cases hv : v.ownBlock with
  | none => exact .inl rfl
  | some g => exact .inr (fun e => by have := (h.lt g hv).1; have := Option.some.inj e; omega)
theorem below_grown {w W W' : World} {b : Nat} (h : Below w.heap.size w W) (hg : W.grownBy W' (some b)) (hb : w.heap.size ≤ b) : Below w.heap.size w W' :=
  ⟨hg.os.trans h.os, hg.tape.trans h.tape, hg.output.trans h.output, Nat.le_trans h.size hg.size, fun k hk => (hg.block k (Nat.lt_of_lt_of_le hk h.size) (fun e => by have := Option.some.inj e; omega)).trans (h.block k hk)⟩
theorem kept_grown {R : Nat} {W0 W W' : World} {row : Option Nat} (h : Kept R W0 W) (hg : W.grownBy W' row) (hb : ∀ b, row = some b → W0.heap.size ≤ b) : Kept R W0 W' :=
  ⟨hg.os.trans h.os, hg.tape.trans h.tape, hg.output.trans h.output, Nat.le_trans h.size hg.size, fun k hk hne => (hg.block k (Nat.lt_of_lt_of_le hk h.size) (fun e => by have := hb k e.symm; omega)).trans (h.block k hk hne)⟩

section
variable {w0 : World} {ea : Addr} {s : ByteArray} {R : Nat} {W0 : World} {C : Nat} {nm : ByteArray} {fs : List Fl} {vp : Option Addr} {vc : Nat} {o o' : Option Nat} {W W' : World}
theorem ReadSt.call (h : ReadSt w0 ea s R W0 C nm fs vp vc o W) (hr : RrO w0 ea s R o' W') (hk : Kept R W W') : ReadSt w0 ea s R W0 C nm fs vp vc o' W' := by
  have h1 := h.hR
  have h2 := h.hC
  exact ⟨h.lw, h1, h2, h.out.grown hk (fun e => by have := Option.some.inj e; omega), h.box.grown hk (fun e => by have := Option.some.inj e; omega), h.own.kept hk (own_not h.own (by omega)), hr, h.kept.trans hk⟩
theorem ReadSt.alloc (h : ReadSt w0 ea s R W0 C nm fs vp vc o W) (x : Obj) : ReadSt w0 ea s R W0 C nm fs vp vc o (W.alloc x) := by
  have hb : Below W.heap.size W (W.alloc x) := (Below.refl _ _).alloc (Nat.le_refl _) _
  exact ⟨h.lw, h.hR, h.hC, h.out.below hb, h.box.below hb, h.own.alloc x, h.rd.below hb, h.kept.below hb⟩
/-- a cell of another block -/
theorem ReadSt.set (h : ReadSt w0 ea s R W0 C nm fs vp vc o W) (b i : Nat) (v : Value) (h1 : W0.heap.size < b) (h2 : b ≠ C) (h3 : ∀ g, Value.ownBlock (.slice vp fs.length vc) = some g → g < b) : ReadSt w0 ea s R W0 C nm fs vp vc o (W.setCell ⟨b, i, none⟩ v) := by
  have hg := set_grown W b i v
  have hr := h.hR
  have hl := h.lw
  refine ⟨hl, hr, h.hC, h.out.grown hg (fun e => by have := Option.some.inj e; omega), h.box.grown hg (fun e => h2 (Option.some.inj e).symm), h.own.kept hg ?_, ?_, kept_grown h.kept hg (fun b' e => by have := Option.some.inj e; omega)⟩
  · cases hv : Value.ownBlock (.slice vp fs.length vc) with
    | none => exact .inl rfl
    | some g => exact .inr (fun e => by have := h3 g hv; have := Option.some.inj e; omega)
  · exact h.rd.kept (below_grown h.rd.b0 hg (by omega)) (hg.block R h.rd.lt (fun e => by have := Option.some.inj e; omega))
/-- one field more -/
theorem ReadSt.more (h : ReadSt w0 ea s R W0 C nm fs vp vc o W) {f : Fl} {gg cap : Nat} (hg : W.grownBy W' (Value.ownBlock (.slice vp fs.length vc))) (ho : W'.ownsRow (C + 1) 48 4 (.slice (some ⟨gg, 0, none⟩) (fs.length + 1) cap) (fs.length + 1) (flCells (fs ++ [f]))) :
    ReadSt w0 ea s R W0 C nm (fs ++ [f]) (some ⟨gg, 0, none⟩) cap o (W'.setCell ⟨C, 1, none⟩ (.slice (some ⟨gg, 0, none⟩) (fs.length + 1) cap)) := by
  have hl : ∀ g, Value.ownBlock (.slice vp fs.length vc) = some g → C + 1 ≤ g := fun g e => (h.own.lt g e).1
  have h1 := h.hR
  have h2 := h.hC
  have h3 := h.lw
  have hb := h.box.grown hg (fun e => by have := hl C e.symm; omega)
  have ha := h.out.grown hg (fun e => by have := hl W0.heap.size e.symm; omega)
  have hk := kept_grown h.kept hg (fun b e => by have := hl b e; omega)
  have hgs := set_grown W' C 1 (.slice (some ⟨gg, 0, none⟩) (fs.length + 1) cap)
  have hrb : W'.heap[R]? = W.heap[R]? := hg.block R h.rd.lt (fun e => by have := hl R e.symm; omega)
  have hbw : Below w0.heap.size w0 W' := ⟨hg.os.trans h.rd.b0.os, hg.tape.trans h.rd.b0.tape, hg.output.trans h.rd.b0.output, Nat.le_trans h.rd.b0.size hg.size, fun k hk => (hg.block k (Nat.lt_of_lt_of_le hk h.rd.b0.size) (fun e => by have := hl k e.symm; omega)).trans (h.rd.b0.block k hk)⟩
  have hr := h.rd.kept hbw hrb
  have hlen : (fs ++ [f]).length = fs.length + 1 := by simp
  refine ⟨h3, h1, h2, ha.grown hgs (fun e => by have := Option.some.inj e; omega), ?_, ?_, ?_, kept_grown hk hgs (fun b e => by have := Option.some.inj e; omega)⟩
  · rw [hlen]; exact hb.set1 _ _ _
  · rw [hlen]; exact ho.kept hgs (own_not ho (by omega))
  · exact hr.kept (below_grown hbw hgs (by omega)) (hgs.block R hr.lt (fun e => by have := Option.some.inj e; omega))
end
end Go.Proofs.YtffoklhopmhjaaaGreatDoor

/- morainelaw04.pick, morainelaw04.ClassOf. -/
set_option linter.unusedSimpArgs false
set_option linter.unusedVariables false
namespace Go.Proofs.YtffoklhopmhjaaaGreatDoor
open Go Go.RowKit Go.Shelf Go.Sort

set_option maxHeartbeats 1000000 in
theorem pick4_any (c n : Int) (h0 : -9223372036854775808 ≤ c) (h1 : c ≤ 9223372036854775807) (hn : 0 < n) (hn2 : n ≤ 9223372036854775807) (w : World) :
    Calls Tryz.prog 22 #[.int .i64 c, .int .i64 n] w fun e w' => e = .returned (.int .i64 (pickI c n)) ∧ w = w' := by
  unfold pickI
  by_cases h : c < 0
  · rw [if_pos h]
    have e1 : IntKind.i64.wrap (c + 1) = c + 1 := IntWalk.i64_in _ (by omega)
    have e2 : IntKind.i64.wrap (-(c + 1)) = -(c + 1) := IntWalk.i64_in _ (by omega)
    have e3 : (-(c + 1)).tmod n = (-(c + 1)) % n := Int.tmod_eq_emod_of_nonneg (by omega)
    have e4 : (n == 0) = false := by rw [beq_eq_false_iff_ne]; omega
    go_enter Tryz.func22, Tryz.ntmps22
    go_wp2_with fail
    go_ret
    exact ⟨rfl, rfl⟩
  · rw [if_neg h]
    have h2 : 0 ≤ c := by omega
    have e3 : c.tmod n = c % n := Int.tmod_eq_emod_of_nonneg (by omega)
    have e4 : (n == 0) = false := by rw [beq_eq_false_iff_ne]; omega
    go_enter Tryz.func22, Tryz.ntmps22
    go_wp2_with fail
    go_ret
    exact ⟨rfl, rfl⟩

theorem infoFld2 : (Tryz.prog.info? 48).map (fun i => (i.zero, i.size, i.bytes)) = some (some (.agg #[.string ⟨#[]⟩, .int .i64 0, .int .i64 0, .bool false]), 4, 40) := by kernel_rfl
abbrev crawV (x : CRaw) (p : Option Addr) (c : Nat) : Value := .agg #[.int .i64 x.n, .slice p x.l.length c]
def names6 : Array Value := #[.string ⟨#[97]⟩, .string ⟨#[98, 50]⟩, .string ⟨#[110, 97, 109, 101]⟩, .string ⟨#[110, 101, 120, 116, 95, 111, 110, 101]⟩, .string ⟨#[107, 105, 100, 115]⟩, .string ⟨#[120]⟩]
theorem names6_at (q : Nat) (h : q < 6) : names6[q]? = some (.string (nameIn fNames (q : Int))) := by
  match q, h with
  | 0, _ => rfl
  | 1, _ => rfl
  | 2, _ => rfl
  | 3, _ => rfl
  | 4, _ => rfl
  | 5, _ => rfl
def cnames6 : Array Value := #[.string ⟨#[110, 111, 100, 101]⟩, .string ⟨#[105, 116, 101, 109]⟩, .string ⟨#[117, 115, 101, 114]⟩, .string ⟨#[112, 97, 103, 101, 95, 49]⟩, .string ⟨#[108, 101, 97, 102]⟩, .string ⟨#[113]⟩]
theorem cnames6_at (q : Nat) (h : q < 6) : cnames6[q]? = some (.string (nameIn cNames (q : Int))) := by
  match q, h with
  | 0, _ => rfl
  | 1, _ => rfl
  | 2, _ => rfl
  | 3, _ => rfl
  | 4, _ => rfl
  | 5, _ => rfl
structure OfSt (w : World) (x : CRaw) (p : Option Addr) (c : Nat) (nm : ByteArray) (fs : List Fl) (vp : Option Addr) (vc : Nat) (W : World) : Prop where
  raw : W.heap[w.heap.size]? = some (.cells #[.int .i64 x.n, .slice p x.l.length c] 24 (0, 0))
  out : CBox W (w.heap.size + 1) ⟨#[]⟩ none 0 0
  nms : W.heap[w.heap.size + 2]? = some (.cells names6 9 (0, 0))
  box : CBox W (w.heap.size + 4) nm vp fs.length vc
  own : W.ownsRow (w.heap.size + 5) 48 4 (.slice vp fs.length vc) fs.length (flCells fs)
  below : Below w.heap.size w W
section
variable {w : World} {x : CRaw} {p : Option Addr} {c : Nat} {nm : ByteArray} {fs : List Fl} {vp : Option Addr} {vc : Nat} {W W' : World}
theorem OfSt.lt (h : OfSt w x p c nm fs vp vc W) : w.heap.size + 5 ≤ W.heap.size := h.box.lt
theorem OfSt.go (h : OfSt w x p c nm fs vp vc W) (hb : Below W.heap.size W W') : OfSt w x p c nm fs vp vc W' := by
  have hl := h.lt
  exact ⟨(hb.block _ (by omega)).trans h.raw, h.out.below hb, (hb.block _ (by omega)).trans h.nms, h.box.below hb, owned_below h.own hb, h.below.trans (hb.mono h.below.size)⟩
theorem OfSt.alloc (h : OfSt w x p c nm fs vp vc W) (o : Obj) : OfSt w x p c nm fs vp vc (W.alloc o) := h.go ((Below.refl _ _).alloc (Nat.le_refl _) _)
theorem OfSt.set (h : OfSt w x p c nm fs vp vc W) (b i : Nat) (v : Value) (h1 : w.heap.size + 4 < b) (h3 : ∀ g, Value.ownBlock (.slice vp fs.length vc) = some g → g < b) : OfSt w x p c nm fs vp vc (W.setCell ⟨b, i, none⟩ v) := by
  have hg := set_grown W b i v
  have hl := h.lt
  refine ⟨(hg.block _ (by omega) (fun e => by have := Option.some.inj e; omega)).trans h.raw, h.out.grown hg (fun e => by have := Option.some.inj e; omega), (hg.block _ (by omega) (fun e => by have := Option.some.inj e; omega)).trans h.nms, h.box.grown hg (fun e => by have := Option.some.inj e; omega), h.own.kept hg ?_, below_grown h.below hg (by omega)⟩
  cases hv : Value.ownBlock (.slice vp fs.length vc) with
  | none => exact .inl rfl
  | some g => exact .inr (fun e => by have := h3 g hv; have := Option.some.inj e; omega)
theorem OfSt.more (h : OfSt w x p c nm fs vp vc W) {f : Fl} {gg cap : Nat} (hg : W.grownBy W' (Value.ownBlock (.slice vp fs.length vc))) (ho : W'.ownsRow (w.heap.size + 5) 48 4 (.slice (some ⟨gg, 0, none⟩) (fs.length + 1) cap) (fs.length + 1) (flCells (fs ++ [f]))) :
    OfSt w x p c nm (fs ++ [f]) (some ⟨gg, 0, none⟩) cap (W'.setCell ⟨w.heap.size + 4, 1, none⟩ (.slice (some ⟨gg, 0, none⟩) (fs.length + 1) cap)) := by
  have hl : ∀ g, Value.ownBlock (.slice vp fs.length vc) = some g → w.heap.size + 5 ≤ g := fun g e => (h.own.lt g e).1
  have hlt := h.lt
  have hn : ∀ k, k < w.heap.size + 5 → some k ≠ Value.ownBlock (.slice vp fs.length vc) := fun k hk e => by have := hl k e.symm; omega
  have hb := h.box.grown hg (hn _ (by omega))
  have hgs := set_grown W' (w.heap.size + 4) 1 (.slice (some ⟨gg, 0, none⟩) (fs.length + 1) cap)
  have hlen : (fs ++ [f]).length = fs.length + 1 := by simp
  have hbw : Below w.heap.size w W' := ⟨hg.os.trans h.below.os, hg.tape.trans h.below.tape, hg.output.trans h.below.output, Nat.le_trans h.below.size hg.size, fun k hk => (hg.block k (by omega) (hn k (by omega))).trans (h.below.block k hk)⟩
  have hs := hg.size
  have hr := (hg.block w.heap.size (by omega) (hn _ (by omega))).trans h.raw
  have hm := (hg.block (w.heap.size + 2) (by omega) (hn _ (by omega))).trans h.nms
  have ho1 := h.out.grown hg (hn _ (by omega))
  refine ⟨(hgs.block _ (by omega) (fun e => by have := Option.some.inj e; omega)).trans hr, ho1.grown hgs (fun e => by have := Option.some.inj e; omega), (hgs.block _ (by omega) (fun e => by have := Option.some.inj e; omega)).trans hm, ?_, ?_, below_grown hbw hgs (by omega)⟩
  · rw [hlen]; exact hb.set1 _ _ _
  · rw [hlen]; exact ho.kept hgs (own_not ho (by omega))
theorem OfSt.bx (h : OfSt w x p c nm fs vp vc W) : W.cell? ⟨w.heap.size + 1 + 1 + 1 + 1, 0, none⟩ = some (.string nm) ∧ W.cell? ⟨w.heap.size + 1 + 1 + 1 + 1, 1, none⟩ = some (.slice vp fs.length vc) := h.box.facts
theorem OfSt.bx2 (h : OfSt w x p c nm fs vp vc W) (hg : W.grownBy W' (Value.ownBlock (.slice vp fs.length vc))) : CBox W' (w.heap.size + 1 + 1 + 1 + 1) nm vp fs.length vc :=
  h.box.grown hg (fun e => by have := (h.own.lt _ e.symm).1; omega)
theorem OfSt.fin (h : OfSt w x p c nm fs vp vc W) : CBox ((W.setCell ⟨w.heap.size + 1, 0, none⟩ (.string nm)).setCell ⟨w.heap.size + 1, 1, none⟩ (.slice vp fs.length vc)) (w.heap.size + 1) nm vp fs.length vc ∧ FLies ((W.setCell ⟨w.heap.size + 1, 0, none⟩ (.string nm)).setCell ⟨w.heap.size + 1, 1, none⟩ (.slice vp fs.length vc)) vp fs.length vc fs ∧ Below w.heap.size w ((W.setCell ⟨w.heap.size + 1, 0, none⟩ (.string nm)).setCell ⟨w.heap.size + 1, 1, none⟩ (.slice vp fs.length vc)) := by
  have g1 := set_grown W (w.heap.size + 1) 0 (.string nm)
  have g2 := set_grown (W.setCell ⟨w.heap.size + 1, 0, none⟩ (.string nm)) (w.heap.size + 1) 1 (.slice vp fs.length vc)
  have o1 := h.own.kept g1 (own_not h.own (by omega))
  exact ⟨(h.out.set0 nm).set1 vp fs.length vc, ⟨rfl, Lies.own (o1.kept g2 (own_not o1 (by omega)))⟩, below_grown (below_grown h.below g1 (by omega)) g2 (by omega)⟩
end
theorem FBox.set2 {W : World} {b : Nat} {f : Fl} (h : FBox W b f) (o : Int) : FBox (W.setCell ⟨b, 2, none⟩ (.int .i64 o)) b { f with o := o } := (heap_setCell_same W b 2 _ _ (.int .i64 o) h).trans rfl
theorem FBox.free2 {W : World} {b : Nat} {f : Fl} (h : FBox W b f) : W.frozen? ⟨b, 2, none⟩ = false := Lib.frozen_of_heap h 2
/-- what ClassOf answers -/
def clsOfPost (x : CRaw) (w : World) (e : Ending) (w' : World) : Prop :=
  ∃ (q : Option Addr) (c : Nat), e = .returned (clV (clsOf x).nm q (clsOf x).fs.length c) ∧ FLies w' q (clsOf x).fs.length c (clsOf x).fs ∧ Below w.heap.size w w'

set_option maxHeartbeats 8000000 in
set_option maxRecDepth 100000 in
theorem clsOf_any (x : CRaw) (hx : x.fine) (p : Option Addr) (c : Nat) (w : World) (hL : Lies w (.slice p x.l.length c) x.l.length 4 (frawCells x.l)) :
    Calls Tryz.prog 5 #[crawV x p c] w (clsOfPost x w) := by
  obtain ⟨i0, hi, hz0, hz1, hz2⟩ := info_parts infoFld2
  have h6 := pickI_bd x.n 6 (by decide)
  have hpk := fun W => pick4_any x.n 6 hx.n.1 hx.n.2 (by decide) (by decide) W
  have hnm : (clsOf x).nm = nameIn cNames (pickI x.n 6) := rfl
  have hfs : (clsOf x).fs = fldsTo x.l 6 := rfl
  unfold clsOfPost
  rw [hnm, hfs]
  clear hnm hfs
  obtain ⟨q, hq⟩ : ∃ q : Nat, pickI x.n 6 = (q : Int) := ⟨(pickI x.n 6).toNat, by omega⟩
  rw [hq] at hpk ⊢
  have hq6 : q < 6 := by omega
  have hl := hx.len
  have hfine := hx.l
  obtain ⟨xn, l⟩ := x
  simp only at hL hl hfine hpk ⊢
  have hsucc := fldsTo_succ l
  have hend := fldsTo_end l
  have hgood := fldsTo_good l
  generalize hnmv : nameIn cNames (q : Int) = nm
  have hcq : cnames6[q]? = some (.string nm) := by rw [← hnmv]; exact cnames6_at q hq6
  have HSUCC := Lib.hid hsucc
  have HEND := Lib.hid hend
  have HGOOD := Lib.hid hgood
  have HPK := Lib.hid hpk
  have HL := Lib.hid hL
  have HFINE := Lib.hid hfine
  have hst : OfSt w ⟨xn, l⟩ p c nm [] none 0 (((((w.alloc (.cells #[.int .i64 xn, .slice p l.length c] 24)).alloc (.cells #[.string ⟨#[]⟩, .slice none 0 0] 29)).alloc (.cells names6 9)).alloc (.cells cnames6 9)).alloc (.cells #[.string nm, .slice none 0 0] 29)) := by
    have e : ∀ (W : World) (o : Obj) (i : Nat) (y : Obj), W.heap[i]? = some y → (W.alloc o).heap[i]? = some y := fun W o i y h => (Lib.alloc_old W o i (Array.getElem?_eq_some_iff.1 h).1).trans h
    have b1 : Below w.heap.size w (w.alloc (.cells #[.int .i64 xn, .slice p l.length c] 24)) := (Below.refl _ _).alloc (Nat.le_refl _) _
    have b2 := b1.alloc b1.size (.cells #[.string ⟨#[]⟩, .slice none 0 0] 29)
    have b3 := b2.alloc b2.size (.cells names6 9)
    have b4 := b3.alloc b3.size (.cells cnames6 9)
    have b5 := b4.alloc b4.size (.cells #[.string nm, .slice none 0 0] 29)
    refine ⟨e _ _ _ _ (e _ _ _ _ (e _ _ _ _ (e _ _ _ _ (World.alloc_heap_new w _)))), e _ _ _ _ (e _ _ _ _ (e _ _ _ _ ?_)), e _ _ _ _ (e _ _ _ _ ?_), ?_, World.ownsRow_nil _ _ _ _, b5⟩
    · have h := World.alloc_heap_new (w.alloc (.cells #[.int .i64 xn, .slice p l.length c] 24)) (.cells #[.string ⟨#[]⟩, .slice none 0 0] 29)
      rwa [World.size_alloc] at h
    · have h := World.alloc_heap_new ((w.alloc (.cells #[.int .i64 xn, .slice p l.length c] 24)).alloc (.cells #[.string ⟨#[]⟩, .slice none 0 0] 29)) (.cells names6 9)
      rwa [World.size_alloc, World.size_alloc] at h
    · have h := World.alloc_heap_new ((((w.alloc (.cells #[.int .i64 xn, .slice p l.length c] 24)).alloc (.cells #[.string ⟨#[]⟩, .slice none 0 0] 29)).alloc (.cells names6 9)).alloc (.cells cnames6 9)) (.cells #[.string nm, .slice none 0 0] 29)
      rwa [World.size_alloc, World.size_alloc, World.size_alloc, World.size_alloc] at h
  have HST := Lib.hid hst
  have hcell : World.cell? ((((w.alloc (.cells #[.int .i64 xn, .slice p l.length c] 24)).alloc (.cells #[.string ⟨#[]⟩, .slice none 0 0] 29)).alloc (.cells names6 9)).alloc (.cells cnames6 9)) ⟨w.heap.size + 1 + 1 + 1, q, none⟩ = some (.string nm) := by
    have h := World.alloc_heap_new (((w.alloc (.cells #[.int .i64 xn, .slice p l.length c] 24)).alloc (.cells #[.string ⟨#[]⟩, .slice none 0 0] 29)).alloc (.cells names6 9)) (.cells cnames6 9)
    rw [World.size_alloc, World.size_alloc, World.size_alloc] at h
    rw [Lib.cell_of_heap h]
    exact hcq
  have hraw0 : World.cell? ((((w.alloc (.cells #[.int .i64 xn, .slice p l.length c] 24)).alloc (.cells #[.string ⟨#[]⟩, .slice none 0 0] 29)).alloc (.cells names6 9)).alloc (.cells cnames6 9)) ⟨w.heap.size, 0, none⟩ = some (.int .i64 xn) := by
    have h : ((((w.alloc (.cells #[.int .i64 xn, .slice p l.length c] 24)).alloc (.cells #[.string ⟨#[]⟩, .slice none 0 0] 29)).alloc (.cells names6 9)).alloc (.cells cnames6 9)).heap[w.heap.size]? = some (.cells #[.int .i64 xn, .slice p l.length c] 24 (0, 0)) := by
      have e : ∀ (W : World) (o : Obj) (i : Nat) (y : Obj), W.heap[i]? = some y → (W.alloc o).heap[i]? = some y := fun W o i y h => (Lib.alloc_old W o i (Array.getElem?_eq_some_iff.1 h).1).trans h
      exact e _ _ _ _ (e _ _ _ _ (e _ _ _ _ (World.alloc_heap_new w _)))
    rw [Lib.cell_of_heap h]; rfl
  have hqi : (q : Int) < 6 := by omega
  have hq0 : (0 : Int) ≤ (q : Int) := by omega
  have HNM := Lib.hid hnmv
  clear hsucc hend hgood hpk hL hfine hst hnmv hcq h6 hq hx
  unfold names6 cnames6 at hcell hraw0
  unfold names6 cnames6 at HST
  go_enter Tryz.func5, Tryz.ntmps5
  go_wp2_with fail
  refine (HPK.out _).mono ?_
  rintro e W1 ⟨rfl, rfl⟩
  go_wp2_with fail
  clear hcell hraw0 HPK
  go_loopw [5] (fun i wr => ∃ (k : Nat) (fs : List Fl) (vp : Option Addr) (vc : Nat), k ≤ l.length ∧ k ≤ 6 ∧ i = .int .i64 (k : Int) ∧ fs = fldsTo l k ∧ OfSt w ⟨xn, l⟩ p c nm fs vp vc wr) (fun i _ => 6 - (intOf i).toNat)
  case atStart => exact ⟨0, [], none, 0, by omega, by omega, rfl, rfl, HST.out⟩
  case round =>
    obtain ⟨k, fs, vp, vc, hk, hk6, rfl, hfs, hSt⟩ := hrel
    clear HST
    have ST := Lib.hid hSt
    have hgood := HGOOD.out k
    rw [← hfs] at hgood
    have hfl : fs.length ≤ 6 := Nat.le_trans hgood.2 hk6
    have hraw1 : wr.cell? ⟨w.heap.size, 1, none⟩ = some (.slice p l.length c) := by rw [Lib.cell_of_heap hSt.raw]; rfl
    clear hgood HGOOD hSt
    by_cases hlt : k < l.length ∧ k < 6
    · obtain ⟨hk1, hk2⟩ := hlt
      have e1 : decide ((k : Int) < (l.length : Int)) = true := decide_eq_true (by omega)
      have e1' : (k : Int) < (l.length : Int) := by omega
      have e0 : (0 : Int) ≤ (k : Int) := by omega
      have e2 : decide ((k : Int) < 6) = true := decide_eq_true (by omega)
      have e2' : (k : Int) < 6 := by omega
      obtain ⟨b, off, rfl, hb, hc⟩ := HL.out.at (by omega)
      have hcx : ∀ (i : Nat) (u : Value), ((l[k]'hk1).cells)[i]? = some u → wr.cell? ⟨b, off + k * 4 + i, none⟩ = some u := fun i u hu => by
        rw [ST.out.below.cell (p := ⟨b, off + k * 4 + i, none⟩) hb, Nat.add_assoc]
        exact hc _ _ (frawCells_at l k hk1 i u hu)
      have hsuc := HSUCC.out k hk1
      have hff := HFINE.out (l[k]'hk1) (List.getElem_mem hk1)
      rw [← hfs] at hsuc
      clear hfs
      generalize l[k]'hk1 = r at hcx hsuc hff
      obtain ⟨rn, rk, ro, rx⟩ := r
      obtain ⟨f1, f2, f3⟩ := hff
      simp only at f1 f2 f3
      have z0 : wr.cell? ⟨b, off + k * 4, none⟩ = some (.int .i64 rn) := hcx 0 _ rfl
      have z1 : wr.cell? ⟨b, off + k * 4 + 1, none⟩ = some (.int .i64 rk) := hcx 1 _ rfl
      have z2 : wr.cell? ⟨b, off + k * 4 + 2, none⟩ = some (.int .i64 ro) := hcx 2 _ rfl
      have z3 : wr.cell? ⟨b, off + k * 4 + 3, none⟩ = some (.bool rx) := hcx 3 _ rfl
      clear hcx hc
      have hp6 := fun W => pick4_any rn 6 f1.1 f1.2 (by decide) (by decide) W
      have hp5 := fun W => pick4_any rk 5 f2.1 f2.2 (by decide) (by decide) W
      have hp4 := fun W => pick4_any ro 4 f3.1 f3.2 (by decide) (by decide) W
      have b6 := pickI_bd rn 6 (by decide)
      have b5 := pickI_bd rk 5 (by decide)
      have b4 := pickI_bd ro 4 (by decide)
      have hfo : fldOf ⟨rn, rk, ro, rx⟩ = ⟨nameIn fNames (pickI rn 6), 1 + pickI rk 5, if 1 + pickI rk 5 = 5 then 1 + pickI ro 4 else 0, rx && decide (1 + pickI rk 5 ≤ 3)⟩ := rfl
      rw [hfo] at hsuc
      clear hfo f1 f2 f3
      obtain ⟨fq, hfq⟩ : ∃ q : Nat, pickI rn 6 = (q : Int) := ⟨(pickI rn 6).toNat, by omega⟩
      rw [hfq] at hsuc hp6 b6
      have hfq6 : fq < 6 := by omega
      have hfqi : (fq : Int) < 6 := by omega
      have hfq0 : (0 : Int) ≤ (fq : Int) := by omega
      clear b6 hfq
      generalize pickI rk 5 = kk at hp5 b5 hsuc
      generalize pickI ro 4 = oo at hp4 b4 hsuc
      have hnm1 := names6_at fq hfq6
      generalize nameIn fNames (fq : Int) = fn at hnm1 hsuc
      have P6 := Lib.hid hp6
      have P5 := Lib.hid hp5
      have P4 := Lib.hid hp4
      have HSUC := Lib.hid hsuc
      have S1 := Lib.hid (ST.out.alloc (.cells #[.int .i64 rn, .int .i64 rk, .int .i64 ro, .bool rx] 60))
      have hR6 : (wr.alloc (.cells #[.int .i64 rn, .int .i64 rk, .int .i64 ro, .bool rx] 60)).heap[wr.heap.size]? = some (.cells #[.int .i64 rn, .int .i64 rk, .int .i64 ro, .bool rx] 60 (0, 0)) := World.alloc_heap_new _ _
      have R6 := Lib.hid hR6
      have hz6 : w.heap.size + 5 ≤ wr.heap.size := ST.out.lt
      have hob : ∀ g, Value.ownBlock (.slice vp fs.length vc) = some g → g < wr.heap.size := fun g hg => (ST.out.own.lt g hg).2
      have HOB := Lib.hid hob
      have NM1 := Lib.hid hnm1
      clear hp6 hp5 hp4 hsuc hR6 hob HSUCC HFINE HL hnm1 ST
      go_wp2_with fail
      generalize wr.alloc (.cells #[.int .i64 rn, .int .i64 rk, .int .i64 ro, .bool rx] 60) = U at S1 R6 ⊢
      generalize wr.heap.size = b6 at R6 hz6 HOB ⊢
      have w5 : IntKind.i64.wrap (1 + kk) = 1 + kk := IntWalk.i64_in _ (by omega)
      have w4 : IntKind.i64.wrap (1 + oo) = 1 + oo := IntWalk.i64_in _ (by omega)
      have hbl : b6 < U.heap.size := (Array.getElem?_eq_some_iff.1 R6.out).1
      have hS0 : U.drew.cell? ⟨b6, 0, none⟩ = some (.int .i64 rn) ∧ U.drew.cell? ⟨b6, 1, none⟩ = some (.int .i64 rk) ∧ U.drew.cell? ⟨w.heap.size + 1 + 1, fq, none⟩ = some (.string fn) ∧ b6 < U.drew.heap.size ∧ w.heap.size + 1 + 1 < U.drew.heap.size := by
        have hd := S1.out.go (Below.refl _ _).drew
        have h6 : U.drew.heap[b6]? = some (.cells #[.int .i64 rn, .int .i64 rk, .int .i64 ro, .bool rx] 60 (0, 0)) := R6.out
        refine ⟨by rw [Lib.cell_of_heap h6]; rfl, by rw [Lib.cell_of_heap h6]; rfl, ?_, hbl, by have := hd.lt; omega⟩
        have h2 := hd.nms
        rw [show w.heap.size + 2 = w.heap.size + 1 + 1 from rfl] at h2
        rw [Lib.cell_of_heap h2]
        exact NM1.out
      have hsw : ∀ W W' : World, (W.cell? ⟨b6, 0, none⟩ = some (.int .i64 rn) ∧ W.cell? ⟨b6, 1, none⟩ = some (.int .i64 rk) ∧ W.cell? ⟨w.heap.size + 1 + 1, fq, none⟩ = some (.string fn) ∧ b6 < W.heap.size ∧ w.heap.size + 1 + 1 < W.heap.size) → Below W.heap.size W W' → (W'.cell? ⟨b6, 0, none⟩ = some (.int .i64 rn) ∧ W'.cell? ⟨b6, 1, none⟩ = some (.int .i64 rk) ∧ W'.cell? ⟨w.heap.size + 1 + 1, fq, none⟩ = some (.string fn) ∧ b6 < W'.heap.size ∧ w.heap.size + 1 + 1 < W'.heap.size) := fun W W' h hb => by
        have hs := hb.size
        exact ⟨(hb.cell (p := ⟨b6, 0, none⟩) h.2.2.2.1).trans h.1, (hb.cell (p := ⟨b6, 1, none⟩) h.2.2.2.1).trans h.2.1, (hb.cell (p := ⟨w.heap.size + 1 + 1, fq, none⟩) h.2.2.2.2).trans h.2.2.1, by omega, by omega⟩
      have HSW := Lib.hid hsw
      have hV : (U.alloc (.cells #[.string fn, .int .i64 (1 + kk), .int .i64 0, .bool false] 48)).drew = U.drew.alloc (.cells #[.string fn, .int .i64 (1 + kk), .int .i64 0, .bool false] 48) := rfl
      have hS2 := HSW.out U.drew (U.alloc (.cells #[.string fn, .int .i64 (1 + kk), .int .i64 0, .bool false] 48)).drew hS0 (by rw [hV]; exact (Below.refl _ _).alloc (Nat.le_refl _) _)
      have hF : OfSt w ⟨xn, l⟩ (some ⟨b, off, none⟩) c nm fs vp vc (U.alloc (.cells #[.string fn, .int .i64 (1 + kk), .int .i64 0, .bool false] 48)).drew ∧ FBox (U.alloc (.cells #[.string fn, .int .i64 (1 + kk), .int .i64 0, .bool false] 48)).drew U.heap.size ⟨fn, 1 + kk, 0, false⟩ ∧ (U.alloc (.cells #[.string fn, .int .i64 (1 + kk), .int .i64 0, .bool false] 48)).drew.heap[b6]? = some (.cells #[.int .i64 rn, .int .i64 rk, .int .i64 ro, .bool rx] 60 (0, 0)) := by
        rw [hV]
        refine ⟨(S1.out.go (Below.refl _ _).drew).alloc _, FBox.new U.drew ⟨fn, 1 + kk, 0, false⟩, ?_⟩
        exact (Lib.alloc_old U.drew _ b6 hbl).trans R6.out
      have HF := Lib.hid hF
      clear hsw hF hV
      go_upto_region 7 with fail
      go_cut [7] from 18 to 79 (fun v7 wx => ∃ bf : Nat, v7 = .pointer (some ⟨bf, 0, none⟩) ∧ b6 < bf ∧ OfSt w ⟨xn, l⟩ (some ⟨b, off, none⟩) c nm fs vp vc wx ∧ FBox wx bf ⟨fn, 1 + kk, 0, false⟩ ∧ wx.heap[b6]? = some (.cells #[.int .i64 rn, .int .i64 rk, .int .i64 ro, .bool rx] 60 (0, 0)))
      case first =>
        go_wp2_with fail
        go_region_held3 (fun W : World => (W.cell? ⟨b6, 0, none⟩ = some (.int .i64 rn) ∧ W.cell? ⟨b6, 1, none⟩ = some (.int .i64 rk) ∧ W.cell? ⟨w.heap.size + 1 + 1, fq, none⟩ = some (.string fn) ∧ b6 < W.heap.size ∧ w.heap.size + 1 + 1 < W.heap.size))
          (first | assumption | (refine HSW.out _ _ (by assumption) ((Below.refl _ _).alloc (Nat.le_refl _) _)))
          (first
            | (go_at_call 22; (with_reducible refine (P6.out _).mono ?_); rintro e Y1 ⟨rfl, rfl⟩)
            | (go_at_call 22; (with_reducible refine (P5.out _).mono ?_); rintro e Y1 ⟨rfl, rfl⟩))
        all_goals
          go_wp2_with fail
          go_meet
          exact ⟨_, rfl, hbl, HF.out⟩
      case rest =>
        obtain ⟨bf, rfl, hbf, hSx, hFx, hRx⟩ := hcut
        clear HSW HF hS0 S1 R6
        have hkd1 : 1 ≤ 1 + kk ∧ 1 + kk ≤ 5 := by omega
        generalize 1 + kk = kd at w5 hFx HSUC hkd1
        generalize hod : 1 + oo = od at HSUC
        replace w4 := w4.trans hod
        obtain ⟨g0, g1, g2, g3⟩ := hFx.facts
        simp only at g0 g1 g2 g3
        have gf2 := hFx.free2
        have r2 : wc.cell? ⟨b6, 2, none⟩ = some (.int .i64 ro) := by rw [Lib.cell_of_heap hRx]; rfl
        have r3 : wc.cell? ⟨b6, 3, none⟩ = some (.bool rx) := by rw [Lib.cell_of_heap hRx]; rfl
        have hbl : bf < wc.heap.size := hFx.lt
        have SX := Lib.hid hSx
        have FX := Lib.hid hFx
        have RX := Lib.hid hRx
        clear hSx hFx hRx
        by_cases h5 : kd = 5
        · have q5 : (kd == 5) = true := by rw [beq_iff_eq]; exact h5
          have d3 : decide (kd ≤ 3) = false := decide_eq_false (by omega)
          have d3' : ¬ kd ≤ 3 := by omega
          have hs5 : fldsTo l (k + 1) = addF fs ⟨fn, kd, od, false⟩ := by rw [HSUC.out, if_pos h5, d3, Bool.and_false]
          have HS5 := Lib.hid hs5
          have SX1 := Lib.hid (SX.out.set bf 2 (.int .i64 od) (by omega) (fun g hg => by have := HOB.out g hg; omega))
          have FX1 := Lib.hid (FX.out.set2 od)
          have RX1 : (wc.setCell ⟨bf, 2, none⟩ (.int .i64 od)).heap[b6]? = some (.cells #[.int .i64 rn, .int .i64 rk, .int .i64 ro, .bool rx] 60 (0, 0)) := ((set_grown wc bf 2 (.int .i64 od)).block b6 (Array.getElem?_eq_some_iff.1 RX.out).1 (fun e => by have := Option.some.inj e; omega)).trans RX.out
          have r31 : (wc.setCell ⟨bf, 2, none⟩ (.int .i64 od)).cell? ⟨b6, 3, none⟩ = some (.bool rx) := by rw [Lib.cell_of_heap RX1]; rfl
          have gf3 := FX1.out.free
          have hk1 : (wc.setCell ⟨bf, 2, none⟩ (.int .i64 od)).cell? ⟨bf, 1, none⟩ = some (.int .i64 kd) := FX1.out.facts.2.1
          clear hs5 RX1 HSUC h5
          go_wp2_with fail
          refine (P4.out _).mono ?_
          rintro e Y1 ⟨rfl, rfl⟩
          cases rx with
          | true =>
            have SB := Lib.hid (SX1.out.set bf 3 (.bool false) (by omega) (fun g hg => by have := HOB.out g hg; omega))
            have FB := Lib.hid (FX1.out.set3 false)
            obtain ⟨y0, y1, y2, y3⟩ := FB.out.facts
            simp only at y0 y1 y2 y3
            obtain ⟨c0, c1⟩ := SB.out.bx
            have hlies : FLies ((wc.setCell ⟨bf, 2, none⟩ (.int .i64 od)).setCell ⟨bf, 3, none⟩ (.bool false)) vp fs.length vc fs := ⟨rfl, Lies.own SB.out.own⟩
            have hcall := rfield_any nm vp fs.length vc fs fn ((wc.setCell ⟨bf, 2, none⟩ (.int .i64 od)).setCell ⟨bf, 3, none⟩ (.bool false)) hlies (by omega)
            unfold fieldPost at hcall
            have HC := Lib.hid hcall
            have hadd : addF fs ⟨fn, kd, od, false⟩ = if fieldAt fs fn = none then fs ++ [⟨fn, kd, od, false⟩] else fs := rfl
            rw [hadd] at HS5
            clear hlies hcall hadd
            generalize hfa : fieldAt fs fn = fa at HC HS5
            go_wp2_with fail
            refine HC.out.mono ?_
            rintro e Y ⟨rfl, hB⟩
            have SY := Lib.hid (SB.out.go hB)
            have FY := Lib.hid (FB.out.below hB)
            obtain ⟨y0, y1, y2, y3⟩ := FY.out.facts
            simp only at y0 y1 y2 y3
            obtain ⟨c0, c1⟩ := SY.out.bx
            have hbx := FY.out.lt
            clear hB HC SB FB SX1 FX1
            cases fa with
            | some i =>
              have hs6 : fldsTo l (k + 1) = fs := HS5.out.trans (if_neg (by simp))
              have HS6 := Lib.hid hs6
              clear hs6
              have HI : (some i : Option Nat).isSome = true := rfl
              clear HS5
              go_wp2_with fail
              exact ⟨⟨k + 1, fs, vp, vc, by omega, by omega, by go_num, HS6.out.symm, SY.out⟩, by simp [intOf]; omega⟩
            | none =>
              have hs6 : fldsTo l (k + 1) = fs ++ [⟨fn, kd, od, false⟩] := HS5.out.trans (if_pos rfl)
              have HS6 := Lib.hid hs6
              clear hs6
              have HI : (none : Option Nat).isSome = false := rfl
              clear HS5
              have S7 := Lib.hid (SY.out.alloc (.cells #[.string fn, .int .i64 kd, .int .i64 od, .bool false] 48))
              have hown := SY.out.own
              have HOWN := Lib.hid hown
              have hlt7 := SY.out.lt
              clear hown
              go_wp2_with (at_builtin; refine wpList_append_lies _ rfl _ _ _ rfl (w.heap.size + 5) 48 i0 _ 4 40 Tryz.underlying27 hi hz0 hz1 hz2 rfl (by omega) _ fs.length _ rfl (HOWN.out.alloc _) ⟨Y.heap.size, 0, none⟩ 1 1 [.string fn, .int .i64 kd, .int .i64 od, .bool false] rfl rfl (World.news_of_block (cs := #[.string fn, .int .i64 kd, .int .i64 od, .bool false]) (t := 48) (fr := (0, 0)) (World.alloc_heap_new Y _)) (by simp [Value.oneCell']) (by omega) (by simp [maxLen] <;> omega) (by omega) (by simp <;> omega) (Y.heap.size + 1) (by simp) ?_; intro gg cap w2 hown1 hgrow hat hlt2; have hgo := S7.out.own.lt; have hB2 := OfSt.bx2 S7.out hgrow; obtain ⟨c4, c5⟩ := hB2.facts; obtain ⟨c6, c7⟩ := hB2.free)
              exact ⟨⟨k + 1, fs ++ [⟨fn, kd, od, false⟩], some ⟨gg, 0, none⟩, cap, by omega, by omega, by go_num, HS6.out.symm, S7.out.more hgrow (by rw [flCells_append]; exact hown1)⟩, by simp [intOf]; omega⟩
          | false =>
            have SB := Lib.hid (SX1.out.set bf 3 (.bool false) (by omega) (fun g hg => by have := HOB.out g hg; omega))
            have FB := Lib.hid (FX1.out.set3 false)
            obtain ⟨y0, y1, y2, y3⟩ := FB.out.facts
            simp only at y0 y1 y2 y3
            obtain ⟨c0, c1⟩ := SB.out.bx
            have hlies : FLies ((wc.setCell ⟨bf, 2, none⟩ (.int .i64 od)).setCell ⟨bf, 3, none⟩ (.bool false)) vp fs.length vc fs := ⟨rfl, Lies.own SB.out.own⟩
            have hcall := rfield_any nm vp fs.length vc fs fn ((wc.setCell ⟨bf, 2, none⟩ (.int .i64 od)).setCell ⟨bf, 3, none⟩ (.bool false)) hlies (by omega)
            unfold fieldPost at hcall
            have HC := Lib.hid hcall
            have hadd : addF fs ⟨fn, kd, od, false⟩ = if fieldAt fs fn = none then fs ++ [⟨fn, kd, od, false⟩] else fs := rfl
            rw [hadd] at HS5
            clear hlies hcall hadd
            generalize hfa : fieldAt fs fn = fa at HC HS5
            go_wp2_with fail
            refine HC.out.mono ?_
            rintro e Y ⟨rfl, hB⟩
            have SY := Lib.hid (SB.out.go hB)
            have FY := Lib.hid (FB.out.below hB)
            obtain ⟨y0, y1, y2, y3⟩ := FY.out.facts
            simp only at y0 y1 y2 y3
            obtain ⟨c0, c1⟩ := SY.out.bx
            have hbx := FY.out.lt
            clear hB HC SB FB SX1 FX1
            cases fa with
            | some i =>
              have hs6 : fldsTo l (k + 1) = fs := HS5.out.trans (if_neg (by simp))
              have HS6 := Lib.hid hs6
              clear hs6
              have HI : (some i : Option Nat).isSome = true := rfl
              clear HS5
              go_wp2_with fail
              exact ⟨⟨k + 1, fs, vp, vc, by omega, by omega, by go_num, HS6.out.symm, SY.out⟩, by simp [intOf]; omega⟩
            | none =>
              have hs6 : fldsTo l (k + 1) = fs ++ [⟨fn, kd, od, false⟩] := HS5.out.trans (if_pos rfl)
              have HS6 := Lib.hid hs6
              clear hs6
              have HI : (none : Option Nat).isSome = false := rfl
              clear HS5
              have S7 := Lib.hid (SY.out.alloc (.cells #[.string fn, .int .i64 kd, .int .i64 od, .bool false] 48))
              have hown := SY.out.own
              have HOWN := Lib.hid hown
              have hlt7 := SY.out.lt
              clear hown
              go_wp2_with (at_builtin; refine wpList_append_lies _ rfl _ _ _ rfl (w.heap.size + 5) 48 i0 _ 4 40 Tryz.underlying27 hi hz0 hz1 hz2 rfl (by omega) _ fs.length _ rfl (HOWN.out.alloc _) ⟨Y.heap.size, 0, none⟩ 1 1 [.string fn, .int .i64 kd, .int .i64 od, .bool false] rfl rfl (World.news_of_block (cs := #[.string fn, .int .i64 kd, .int .i64 od, .bool false]) (t := 48) (fr := (0, 0)) (World.alloc_heap_new Y _)) (by simp [Value.oneCell']) (by omega) (by simp [maxLen] <;> omega) (by omega) (by simp <;> omega) (Y.heap.size + 1) (by simp) ?_; intro gg cap w2 hown1 hgrow hat hlt2; have hgo := S7.out.own.lt; have hB2 := OfSt.bx2 S7.out hgrow; obtain ⟨c4, c5⟩ := hB2.facts; obtain ⟨c6, c7⟩ := hB2.free)
              exact ⟨⟨k + 1, fs ++ [⟨fn, kd, od, false⟩], some ⟨gg, 0, none⟩, cap, by omega, by omega, by go_num, HS6.out.symm, S7.out.more hgrow (by rw [flCells_append]; exact hown1)⟩, by simp [intOf]; omega⟩
        · have q5 : (kd == 5) = false := by rw [beq_eq_false_iff_ne]; exact h5
          have SX1 := SX
          have FX1 := FX
          have gf3 := FX1.out.free
          cases rx with
          | true =>
            by_cases h3 : kd ≤ 3
            · have d3 : decide (kd ≤ 3) = true := decide_eq_true h3
              have hs5 : fldsTo l (k + 1) = addF fs ⟨fn, kd, 0, true⟩ := by rw [HSUC.out, if_neg h5, d3, Bool.and_true]
              have HS5 := Lib.hid hs5
              clear hs5 HSUC
              have SB := Lib.hid (SX1.out.set bf 3 (.bool true) (by omega) (fun g hg => by have := HOB.out g hg; omega))
              have FB := Lib.hid (FX1.out.set3 true)
              obtain ⟨y0, y1, y2, y3⟩ := FB.out.facts
              simp only at y0 y1 y2 y3
              obtain ⟨c0, c1⟩ := SB.out.bx
              have hlies : FLies (wc.setCell ⟨bf, 3, none⟩ (.bool true)) vp fs.length vc fs := ⟨rfl, Lies.own SB.out.own⟩
              have hcall := rfield_any nm vp fs.length vc fs fn (wc.setCell ⟨bf, 3, none⟩ (.bool true)) hlies (by omega)
              unfold fieldPost at hcall
              have HC := Lib.hid hcall
              have hadd : addF fs ⟨fn, kd, 0, true⟩ = if fieldAt fs fn = none then fs ++ [⟨fn, kd, 0, true⟩] else fs := rfl
              rw [hadd] at HS5
              clear hlies hcall hadd
              generalize hfa : fieldAt fs fn = fa at HC HS5
              go_wp2_with fail
              refine HC.out.mono ?_
              rintro e Y ⟨rfl, hB⟩
              have SY := Lib.hid (SB.out.go hB)
              have FY := Lib.hid (FB.out.below hB)
              obtain ⟨y0, y1, y2, y3⟩ := FY.out.facts
              simp only at y0 y1 y2 y3
              obtain ⟨c0, c1⟩ := SY.out.bx
              have hbx := FY.out.lt
              clear hB HC SB FB SX1 FX1
              cases fa with
              | some i =>
                have hs6 : fldsTo l (k + 1) = fs := HS5.out.trans (if_neg (by simp))
                have HS6 := Lib.hid hs6
                clear hs6
                have HI : (some i : Option Nat).isSome = true := rfl
                clear HS5
                go_wp2_with fail
                exact ⟨⟨k + 1, fs, vp, vc, by omega, by omega, by go_num, HS6.out.symm, SY.out⟩, by simp [intOf]; omega⟩
              | none =>
                have hs6 : fldsTo l (k + 1) = fs ++ [⟨fn, kd, 0, true⟩] := HS5.out.trans (if_pos rfl)
                have HS6 := Lib.hid hs6
                clear hs6
                have HI : (none : Option Nat).isSome = false := rfl
                clear HS5
                have S7 := Lib.hid (SY.out.alloc (.cells #[.string fn, .int .i64 kd, .int .i64 0, .bool true] 48))
                have hown := SY.out.own
                have HOWN := Lib.hid hown
                have hlt7 := SY.out.lt
                clear hown
                go_wp2_with (at_builtin; refine wpList_append_lies _ rfl _ _ _ rfl (w.heap.size + 5) 48 i0 _ 4 40 Tryz.underlying27 hi hz0 hz1 hz2 rfl (by omega) _ fs.length _ rfl (HOWN.out.alloc _) ⟨Y.heap.size, 0, none⟩ 1 1 [.string fn, .int .i64 kd, .int .i64 0, .bool true] rfl rfl (World.news_of_block (cs := #[.string fn, .int .i64 kd, .int .i64 0, .bool true]) (t := 48) (fr := (0, 0)) (World.alloc_heap_new Y _)) (by simp [Value.oneCell']) (by omega) (by simp [maxLen] <;> omega) (by omega) (by simp <;> omega) (Y.heap.size + 1) (by simp) ?_; intro gg cap w2 hown1 hgrow hat hlt2; have hgo := S7.out.own.lt; have hB2 := OfSt.bx2 S7.out hgrow; obtain ⟨c4, c5⟩ := hB2.facts; obtain ⟨c6, c7⟩ := hB2.free)
                exact ⟨⟨k + 1, fs ++ [⟨fn, kd, 0, true⟩], some ⟨gg, 0, none⟩, cap, by omega, by omega, by go_num, HS6.out.symm, S7.out.more hgrow (by rw [flCells_append]; exact hown1)⟩, by simp [intOf]; omega⟩
            · have d3 : decide (kd ≤ 3) = false := decide_eq_false h3
              have hs5 : fldsTo l (k + 1) = addF fs ⟨fn, kd, 0, false⟩ := by rw [HSUC.out, if_neg h5, d3, Bool.and_false]
              have HS5 := Lib.hid hs5
              clear hs5 HSUC
              have SB := Lib.hid (SX1.out.set bf 3 (.bool false) (by omega) (fun g hg => by have := HOB.out g hg; omega))
              have FB := Lib.hid (FX1.out.set3 false)
              obtain ⟨y0, y1, y2, y3⟩ := FB.out.facts
              simp only at y0 y1 y2 y3
              obtain ⟨c0, c1⟩ := SB.out.bx
              have hlies : FLies (wc.setCell ⟨bf, 3, none⟩ (.bool false)) vp fs.length vc fs := ⟨rfl, Lies.own SB.out.own⟩
              have hcall := rfield_any nm vp fs.length vc fs fn (wc.setCell ⟨bf, 3, none⟩ (.bool false)) hlies (by omega)
              unfold fieldPost at hcall
              have HC := Lib.hid hcall
              have hadd : addF fs ⟨fn, kd, 0, false⟩ = if fieldAt fs fn = none then fs ++ [⟨fn, kd, 0, false⟩] else fs := rfl
              rw [hadd] at HS5
              clear hlies hcall hadd
              generalize hfa : fieldAt fs fn = fa at HC HS5
              go_wp2_with fail
              refine HC.out.mono ?_
              rintro e Y ⟨rfl, hB⟩
              have SY := Lib.hid (SB.out.go hB)
              have FY := Lib.hid (FB.out.below hB)
              obtain ⟨y0, y1, y2, y3⟩ := FY.out.facts
              simp only at y0 y1 y2 y3
              obtain ⟨c0, c1⟩ := SY.out.bx
              have hbx := FY.out.lt
              clear hB HC SB FB SX1 FX1
              cases fa with
              | some i =>
                have hs6 : fldsTo l (k + 1) = fs := HS5.out.trans (if_neg (by simp))
                have HS6 := Lib.hid hs6
                clear hs6
                have HI : (some i : Option Nat).isSome = true := rfl
                clear HS5
                go_wp2_with fail
                exact ⟨⟨k + 1, fs, vp, vc, by omega, by omega, by go_num, HS6.out.symm, SY.out⟩, by simp [intOf]; omega⟩
              | none =>
                have hs6 : fldsTo l (k + 1) = fs ++ [⟨fn, kd, 0, false⟩] := HS5.out.trans (if_pos rfl)
                have HS6 := Lib.hid hs6
                clear hs6
                have HI : (none : Option Nat).isSome = false := rfl
                clear HS5
                have S7 := Lib.hid (SY.out.alloc (.cells #[.string fn, .int .i64 kd, .int .i64 0, .bool false] 48))
                have hown := SY.out.own
                have HOWN := Lib.hid hown
                have hlt7 := SY.out.lt
                clear hown
                go_wp2_with (at_builtin; refine wpList_append_lies _ rfl _ _ _ rfl (w.heap.size + 5) 48 i0 _ 4 40 Tryz.underlying27 hi hz0 hz1 hz2 rfl (by omega) _ fs.length _ rfl (HOWN.out.alloc _) ⟨Y.heap.size, 0, none⟩ 1 1 [.string fn, .int .i64 kd, .int .i64 0, .bool false] rfl rfl (World.news_of_block (cs := #[.string fn, .int .i64 kd, .int .i64 0, .bool false]) (t := 48) (fr := (0, 0)) (World.alloc_heap_new Y _)) (by simp [Value.oneCell']) (by omega) (by simp [maxLen] <;> omega) (by omega) (by simp <;> omega) (Y.heap.size + 1) (by simp) ?_; intro gg cap w2 hown1 hgrow hat hlt2; have hgo := S7.out.own.lt; have hB2 := OfSt.bx2 S7.out hgrow; obtain ⟨c4, c5⟩ := hB2.facts; obtain ⟨c6, c7⟩ := hB2.free)
                exact ⟨⟨k + 1, fs ++ [⟨fn, kd, 0, false⟩], some ⟨gg, 0, none⟩, cap, by omega, by omega, by go_num, HS6.out.symm, S7.out.more hgrow (by rw [flCells_append]; exact hown1)⟩, by simp [intOf]; omega⟩
          | false =>
            have hs5 : fldsTo l (k + 1) = addF fs ⟨fn, kd, 0, false⟩ := by rw [HSUC.out, if_neg h5, Bool.false_and]
            have HS5 := Lib.hid hs5
            clear hs5 HSUC
            have SB := Lib.hid (SX1.out.set bf 3 (.bool false) (by omega) (fun g hg => by have := HOB.out g hg; omega))
            have FB := Lib.hid (FX1.out.set3 false)
            obtain ⟨y0, y1, y2, y3⟩ := FB.out.facts
            simp only at y0 y1 y2 y3
            obtain ⟨c0, c1⟩ := SB.out.bx
            have hlies : FLies (wc.setCell ⟨bf, 3, none⟩ (.bool false)) vp fs.length vc fs := ⟨rfl, Lies.own SB.out.own⟩
            have hcall := rfield_any nm vp fs.length vc fs fn (wc.setCell ⟨bf, 3, none⟩ (.bool false)) hlies (by omega)
            unfold fieldPost at hcall
            have HC := Lib.hid hcall
            have hadd : addF fs ⟨fn, kd, 0, false⟩ = if fieldAt fs fn = none then fs ++ [⟨fn, kd, 0, false⟩] else fs := rfl
            rw [hadd] at HS5
            clear hlies hcall hadd
            generalize hfa : fieldAt fs fn = fa at HC HS5
            go_wp2_with fail
            refine HC.out.mono ?_
            rintro e Y ⟨rfl, hB⟩
            have SY := Lib.hid (SB.out.go hB)
            have FY := Lib.hid (FB.out.below hB)
            obtain ⟨y0, y1, y2, y3⟩ := FY.out.facts
            simp only at y0 y1 y2 y3
            obtain ⟨c0, c1⟩ := SY.out.bx
            have hbx := FY.out.lt
            clear hB HC SB FB SX1 FX1
            cases fa with
            | some i =>
              have hs6 : fldsTo l (k + 1) = fs := HS5.out.trans (if_neg (by simp))
              have HS6 := Lib.hid hs6
              clear hs6
              have HI : (some i : Option Nat).isSome = true := rfl
              clear HS5
              go_wp2_with fail
              exact ⟨⟨k + 1, fs, vp, vc, by omega, by omega, by go_num, HS6.out.symm, SY.out⟩, by simp [intOf]; omega⟩
            | none =>
              have hs6 : fldsTo l (k + 1) = fs ++ [⟨fn, kd, 0, false⟩] := HS5.out.trans (if_pos rfl)
              have HS6 := Lib.hid hs6
              clear hs6
              have HI : (none : Option Nat).isSome = false := rfl
              clear HS5
              have S7 := Lib.hid (SY.out.alloc (.cells #[.string fn, .int .i64 kd, .int .i64 0, .bool false] 48))
              have hown := SY.out.own
              have HOWN := Lib.hid hown
              have hlt7 := SY.out.lt
              clear hown
              go_wp2_with (at_builtin; refine wpList_append_lies _ rfl _ _ _ rfl (w.heap.size + 5) 48 i0 _ 4 40 Tryz.underlying27 hi hz0 hz1 hz2 rfl (by omega) _ fs.length _ rfl (HOWN.out.alloc _) ⟨Y.heap.size, 0, none⟩ 1 1 [.string fn, .int .i64 kd, .int .i64 0, .bool false] rfl rfl (World.news_of_block (cs := #[.string fn, .int .i64 kd, .int .i64 0, .bool false]) (t := 48) (fr := (0, 0)) (World.alloc_heap_new Y _)) (by simp [Value.oneCell']) (by omega) (by simp [maxLen] <;> omega) (by omega) (by simp <;> omega) (Y.heap.size + 1) (by simp) ?_; intro gg cap w2 hown1 hgrow hat hlt2; have hgo := S7.out.own.lt; have hB2 := OfSt.bx2 S7.out hgrow; obtain ⟨c4, c5⟩ := hB2.facts; obtain ⟨c6, c7⟩ := hB2.free)
              exact ⟨⟨k + 1, fs ++ [⟨fn, kd, 0, false⟩], some ⟨gg, 0, none⟩, cap, by omega, by omega, by go_num, HS6.out.symm, S7.out.more hgrow (by rw [flCells_append]; exact hown1)⟩, by simp [intOf]; omega⟩
    · have hres : fs = fldsTo l 6 := by
        rcases Nat.lt_or_ge k l.length with h | h
        · have e : k = 6 := by omega
          rw [hfs, e]
        · rw [hfs]; exact HEND.out k h hk6
      have HRES := Lib.hid hres
      have hfin := ST.out.fin
      have HFIN := Lib.hid hfin
      obtain ⟨c0, c1⟩ := ST.out.bx
      obtain ⟨g0, g1⟩ := ST.out.out.facts
      obtain ⟨g2, g3⟩ := ST.out.out.free
      clear hres hfin hfs HSUCC HEND HL HFINE
      rcases Nat.lt_or_ge k l.length with h | h
      · obtain rfl : k = 6 := by omega
        have e1 : decide (((6 : Nat) : Int) < (l.length : Int)) = true := decide_eq_true (by omega)
        have e1' : ((6 : Nat) : Int) < (l.length : Int) := by omega
        have e1'' : (6 : Int) < (l.length : Int) := by omega
        go_wp2_with fail
        have hf := HFIN.out
        generalize ((wr.setCell ⟨w.heap.size + 1, 0, none⟩ (.string nm)).setCell ⟨w.heap.size + 1, 1, none⟩ (.slice vp fs.length vc)) = W9 at hf ⊢
        obtain ⟨x0, x1⟩ := hf.1.facts
        exact bodyPost_ret (v := clV nm vp fs.length vc) (by simp [results, Tryz.results5, go_sem, x0, x1]) rfl ⟨vp, vc, by rw [← HRES.out], by rw [← HRES.out]; exact hf.2.1, hf.2.2⟩
      · have e1 : decide ((k : Int) < (l.length : Int)) = false := decide_eq_false (by omega)
        have e1' : ¬ (k : Int) < (l.length : Int) := by omega
        go_wp2_with fail
        have hf := HFIN.out
        generalize ((wr.setCell ⟨w.heap.size + 1, 0, none⟩ (.string nm)).setCell ⟨w.heap.size + 1, 1, none⟩ (.slice vp fs.length vc)) = W9 at hf ⊢
        obtain ⟨x0, x1⟩ := hf.1.facts
        exact bodyPost_ret (v := clV nm vp fs.length vc) (by simp [results, Tryz.results5, go_sem, x0, x1]) rfl ⟨vp, vc, by rw [← HRES.out], by rw [← HRES.out]; exact hf.2.1, hf.2.2⟩
end Go.Proofs.YtffoklhopmhjaaaGreatDoor

/- (val.reader).value: a value that is no list. -/
set_option linter.unusedSimpArgs false
set_option linter.unusedVariables false
namespace Go.Proofs.YtffoklhopmhjaaaGreatDoor
open Go Go.RowKit Go.Shelf Go.Sort

theorem vat_nil (d : Nat) (W : World) {u : V} (hf : u.fine) (hl : u.l = []) : VAt d W u ⟨u.k, u.n, u.s, none, 0, 0⟩ := by
  have ht : ∀ J, VTop W u ⟨u.k, u.n, u.s, none, 0, 0⟩ J := fun J => ⟨hf, rfl, rfl, rfl, [], by rw [hl]; rfl, ⟨rfl, .inl ⟨rfl, none, 0, rfl⟩⟩, fun i h => absurd h (by simp)⟩
  cases d with
  | zero => exact ht _
  | succ d => exact ht _

abbrev numFn (Sb Ab : Nat) : Value := .func (.func 28) #[] #[.pointer (some ⟨Sb, 0, none⟩), .pointer (some ⟨Ab, 0, none⟩)]
abbrev textFn (Sb Ab : Nat) : Value := .func (.func 30) #[] #[.pointer (some ⟨Sb, 0, none⟩), .pointer (some ⟨Ab, 0, none⟩)]
abbrev rdr (Sb Ab : Nat) : Value := .agg #[numFn Sb Ab, textFn Sb Ab]

/-- what value answers -/
def valPost (r : Except Int (V × Nat)) (w0 : World) (ea : Addr) (s : ByteArray) (Sb Ab p : Nat) (W : World) (e : Ending) (W' : World) : Prop :=
  Kept Ab W W' ∧ match r with
    | .error n => e = .returned (.tuple #[valV 0 0 ⟨#[]⟩ (.slice none 0 0), .int .i64 n]) ∧ ∃ q, Rd w0 ea s Sb Ab q W'
    | .ok (u, n) => Rd w0 ea s Sb Ab (p + n) W' ∧ ∃ x : It, e = .returned (.tuple #[x.v, .int .i64 0]) ∧ VAt 1 W' u x

/-- the reader's box and the result's, behind a call -/
structure Two (W0 : World) (Sb Ab : Nat) (W : World) : Prop where
  hA : Ab < W0.heap.size
  rd : W.heap[W0.heap.size]? = some (.cells #[numFn Sb Ab, textFn Sb Ab] 76 (0, 0))
  out : VBox W (W0.heap.size + 1) 0 0 ⟨#[]⟩ (.slice none 0 0)
  kept : Kept Ab W0 W
theorem Two.new {W0 : World} {Sb Ab : Nat} (hA : Ab < W0.heap.size) : Two W0 Sb Ab ((W0.alloc (.cells #[numFn Sb Ab, textFn Sb Ab] 76)).alloc (.cells #[.int .i64 0, .int .i64 0, .string ⟨#[]⟩, .slice none 0 0] 37)) := by
  refine ⟨hA, heap_alloc2_old W0 _ _, ?_, grownBy_of_below (below_two _ _) _⟩
  have := World.alloc_heap_new (W0.alloc (.cells #[numFn Sb Ab, textFn Sb Ab] 76)) (.cells #[.int .i64 0, .int .i64 0, .string ⟨#[]⟩, .slice none 0 0] 37)
  rwa [show (W0.alloc (.cells #[numFn Sb Ab, textFn Sb Ab] 76)).heap.size = W0.heap.size + 1 from by simp] at this
theorem Two.go {W0 : World} {Sb Ab : Nat} {W W' : World} (h : Two W0 Sb Ab W) (hk : Kept Ab W W') : Two W0 Sb Ab W' := by
  have hA := h.hA
  have hlt := (Array.getElem?_eq_some_iff.1 h.rd).1
  exact ⟨hA, (hk.block _ hlt (fun e => by have := Option.some.inj e; omega)).trans h.rd, h.out.kept hk (by omega), h.kept.trans hk⟩
theorem Two.below {W0 : World} {Sb Ab : Nat} {W W' : World} (h : Two W0 Sb Ab W) (hb : Below W.heap.size W W') : Two W0 Sb Ab W' := h.go (grownBy_of_below hb _)
theorem Two.past {W0 : World} {Sb Ab : Nat} {W : World} (h : Two W0 Sb Ab W) (a : Addr) (ha : W0.heap.size + 2 ≤ a.block) (u : Value) : Two W0 Sb Ab (W.setCell a u) :=
  ⟨h.hA, (Below.heap_setCell W a u _ (by omega)).trans h.rd, h.out.past a (by omega) u, grown_set h.kept (b := a.block) (by omega) a rfl u⟩
theorem Two.cells {W0 : World} {Sb Ab : Nat} {W : World} (h : Two W0 Sb Ab W) : W.cell? ⟨W0.heap.size, 0, none⟩ = some (numFn Sb Ab) ∧ W.cell? ⟨W0.heap.size, 1, none⟩ = some (textFn Sb Ab) := by
  constructor <;> (rw [Lib.cell_of_heap h.rd]; rfl)
theorem Rd.past {w0 : World} {ea : Addr} {s : ByteArray} {Sb Ab p : Nat} {W : World} (h : Rd w0 ea s Sb Ab p W) (a : Addr) (h1 : Sb ≠ a.block) (h2 : Ab ≠ a.block) (h3 : w0.heap.size ≤ a.block) (u : Value) : Rd w0 ea s Sb Ab p (W.setCell a u) :=
  ⟨h.hs, h.t0, h.e0, h.b0.setCell h3 u, h.ls, h.la, h.ne, (Below.heap_setCell W a u Sb h1).trans h.sb, (Below.heap_setCell W a u Ab h2).trans h.ab, h.hp⟩
theorem Rd.put {w0 : World} {ea : Addr} {s : ByteArray} {Sb Ab p : Nat} {W : World} (h : Rd w0 ea s Sb Ab p W) (b : Nat) (h1 : Sb ≠ b) (h2 : Ab ≠ b) (h3 : w0.heap.size ≤ b) (k n : Int) (t : ByteArray) (l : Value) : Rd w0 ea s Sb Ab p (putBox W b k n t l) :=
  (((h.past ⟨b, 0, none⟩ h1 h2 h3 _).past ⟨b, 1, none⟩ h1 h2 h3 _).past ⟨b, 2, none⟩ h1 h2 h3 _).past ⟨b, 3, none⟩ h1 h2 h3 _
/-- the result's box, written at the end -/
theorem Two.fin {W0 : World} {Sb Ab : Nat} {W : World} (h : Two W0 Sb Ab W) (k n : Int) (t : ByteArray) (l : Value) : VBox (putBox W (W0.heap.size + 1) k n t l) (W0.heap.size + 1) k n t l ∧ Kept Ab W0 (putBox W (W0.heap.size + 1) k n t l) :=
  ⟨h.out.put k n t l, grown_putBox h.kept (by omega) k n t l⟩
theorem Rd.fin {w0 W0 : World} {ea : Addr} {s : ByteArray} {Sb Ab p q : Nat} {W : World} (h : Rd w0 ea s Sb Ab p W) (h0 : Rd w0 ea s Sb Ab q W0) (k n : Int) (t : ByteArray) (l : Value) : Rd w0 ea s Sb Ab p (putBox W (W0.heap.size + 1) k n t l) :=
  h.put _ (by have := h0.lts; omega) (by have := h0.lt; omega) (by have := h0.b0.size; omega) k n t l

-- WALKS
set_option maxHeartbeats 4000000 in
set_option maxRecDepth 100000 in
theorem value_none (b : Bool) (w0 : World) (ea : Addr) (s : ByteArray) (Sb Ab p : Nat) (W : World) (h : Rd w0 ea s Sb Ab p W) (hn : numL (s.data.toList.drop p) = none) :
    Calls Tryz.prog 32 #[rdr Sb Ab, .bool b] W (valPost (.error 10) w0 ea s Sb Ab p W) := by
  have hlt := h.lt
  have h2 := Two.new (W0 := W) (Sb := Sb) (Ab := Ab) hlt
  have hc := decNum w0 ea s Sb Ab p _ (h.below (below_two (.cells #[numFn Sb Ab, textFn Sb Ab] 76) (.cells #[.int .i64 0, .int .i64 0, .string ⟨#[]⟩, .slice none 0 0] 37)))
  unfold decNumPost at hc
  rw [hn] at hc
  have H := Lib.hid h
  have H2 := Lib.hid h2
  clear h h2 hn
  go_enter Tryz.func32, Tryz.ntmps32
  go_wp2_with fail
  refine hc.mono ?_
  rintro e W1 ⟨hk1, rfl, hR1⟩
  have hT := H2.out.go hk1
  have z1 : W.heap.size + 2 ≤ W1.heap.size := by have := hT.out.lt; omega
  obtain ⟨⟨c0, c1, c2, c3⟩, f0, f1, f2, f3⟩ := hT.out.facts
  have HT := Lib.hid hT
  have HR1 := Lib.hid hR1
  clear hT hk1 hR1 hc
  go_wp2_with fail
  obtain ⟨hV, hK⟩ := HT.out.fin 0 0 ⟨#[]⟩ (.slice none 0 0)
  have hR := HR1.out.fin H.out 0 0 ⟨#[]⟩ (.slice none 0 0)
  unfold putBox at hV hK hR
  generalize ((((W1.setCell ⟨W.heap.size + 1, 0, none⟩ (.int .i64 0)).setCell ⟨W.heap.size + 1, 1, none⟩ (.int .i64 0)).setCell ⟨W.heap.size + 1, 2, none⟩ (.string ⟨#[]⟩)).setCell ⟨W.heap.size + 1, 3, none⟩ (.slice none 0 0)) = W9 at hV hK hR ⊢
  obtain ⟨⟨e0, e1, e2, e3⟩, _⟩ := hV.facts
  exact bodyPost_ret (v := .tuple #[valV 0 0 ⟨#[]⟩ (.slice none 0 0), .int .i64 10]) (by simp [results, Tryz.results32, go_sem, e0, e1, e2, e3]) rfl ⟨hK, rfl, 0, hR⟩

set_option maxHeartbeats 4000000 in
set_option maxRecDepth 100000 in
theorem value_other (b : Bool) (w0 : World) (ea : Addr) (s : ByteArray) (Sb Ab p : Nat) (W : World) (h : Rd w0 ea s Sb Ab p W) (k : Int) (hn : numL (s.data.toList.drop p) = some k) (hk : k ≠ 0 ∧ k ≠ 1 ∧ k ≠ 2 ∧ k ≠ 3 ∧ k ≠ 4) (hb : k ≠ 5 ∨ b = false) :
    Calls Tryz.prog 32 #[rdr Sb Ab, .bool b] W (valPost (.error 30) w0 ea s Sb Ab p W) := by
  obtain ⟨k0, k1, k2, k3, k4⟩ := hk
  have d0 : (k == 0) = false := by rw [beq_eq_false_iff_ne]; omega
  have d1 : (k == 1) = false := by rw [beq_eq_false_iff_ne]; omega
  have d2 : (k == 2) = false := by rw [beq_eq_false_iff_ne]; omega
  have d3 : (k == 3) = false := by rw [beq_eq_false_iff_ne]; omega
  have d4 : (k == 4) = false := by rw [beq_eq_false_iff_ne]; omega
  clear k1 k2 k3 k4
  have hlt := h.lt
  have h2 := Two.new (W0 := W) (Sb := Sb) (Ab := Ab) hlt
  have hc := decNum w0 ea s Sb Ab p _ (h.below (below_two (.cells #[numFn Sb Ab, textFn Sb Ab] 76) (.cells #[.int .i64 0, .int .i64 0, .string ⟨#[]⟩, .slice none 0 0] 37)))
  unfold decNumPost at hc
  rw [hn] at hc
  have H := Lib.hid h
  have H2 := Lib.hid h2
  clear h h2 hn
  go_enter Tryz.func32, Tryz.ntmps32
  go_wp2_with fail
  refine hc.mono ?_
  rintro e W1 ⟨hk1, rfl, hR1⟩
  have hT := H2.out.go hk1
  have z1 : W.heap.size + 2 ≤ W1.heap.size := by have := hT.out.lt; omega
  have hV0 : VBox (W1.alloc (.cells #[.int .i64 k, .int .i64 0, .string ⟨#[]⟩, .slice none 0 0] 37)) W1.heap.size k 0 ⟨#[]⟩ (.slice none 0 0) := VBox.new W1 _ _ _ _
  have hB0 : Below W1.heap.size W1 (W1.alloc (.cells #[.int .i64 k, .int .i64 0, .string ⟨#[]⟩, .slice none 0 0] 37)) := (Below.refl _ _).alloc (Nat.le_refl _) _
  have hT0 := hT.below hB0
  have hR0 := hR1.below hB0
  obtain ⟨⟨c0, c1, c2, c3⟩, f0, f1, f2, f3⟩ := hT0.out.facts
  have HT := Lib.hid hT0
  have HR1 := Lib.hid hR0
  clear hT hk1 hR1 hc hT0 hR0 hB0 hV0
  by_cases h5 : k = 5
  · have d5 : (k == 5) = true := by rw [beq_iff_eq]; exact h5
    obtain rfl : b = false := hb.resolve_left (fun x => x h5)
    have H5 := Lib.hid h5
    clear h5 hb
    go_wp2_with fail
    obtain ⟨hV, hK⟩ := HT.out.fin 0 0 ⟨#[]⟩ (.slice none 0 0)
    have hR := HR1.out.fin H.out 0 0 ⟨#[]⟩ (.slice none 0 0)
    unfold putBox at hV hK hR
    generalize (((((W1.alloc (.cells #[.int .i64 k, .int .i64 0, .string ⟨#[]⟩, .slice none 0 0] 37)).setCell ⟨W.heap.size + 1, 0, none⟩ (.int .i64 0)).setCell ⟨W.heap.size + 1, 1, none⟩ (.int .i64 0)).setCell ⟨W.heap.size + 1, 2, none⟩ (.string ⟨#[]⟩)).setCell ⟨W.heap.size + 1, 3, none⟩ (.slice none 0 0)) = W9 at hV hK hR ⊢
    obtain ⟨⟨e0, e1, e2, e3⟩, _⟩ := hV.facts
    exact bodyPost_ret (v := .tuple #[valV 0 0 ⟨#[]⟩ (.slice none 0 0), .int .i64 30]) (by simp [results, Tryz.results32, go_sem, e0, e1, e2, e3]) rfl ⟨hK, rfl, _, hR⟩
  · have d5 : (k == 5) = false := by rw [beq_eq_false_iff_ne]; exact h5
    clear hb
    go_wp2_with fail
    obtain ⟨hV, hK⟩ := HT.out.fin 0 0 ⟨#[]⟩ (.slice none 0 0)
    have hR := HR1.out.fin H.out 0 0 ⟨#[]⟩ (.slice none 0 0)
    unfold putBox at hV hK hR
    generalize (((((W1.alloc (.cells #[.int .i64 k, .int .i64 0, .string ⟨#[]⟩, .slice none 0 0] 37)).setCell ⟨W.heap.size + 1, 0, none⟩ (.int .i64 0)).setCell ⟨W.heap.size + 1, 1, none⟩ (.int .i64 0)).setCell ⟨W.heap.size + 1, 2, none⟩ (.string ⟨#[]⟩)).setCell ⟨W.heap.size + 1, 3, none⟩ (.slice none 0 0)) = W9 at hV hK hR ⊢
    obtain ⟨⟨e0, e1, e2, e3⟩, _⟩ := hV.facts
    exact bodyPost_ret (v := .tuple #[valV 0 0 ⟨#[]⟩ (.slice none 0 0), .int .i64 30]) (by simp [results, Tryz.results32, go_sem, e0, e1, e2, e3]) rfl ⟨hK, rfl, _, hR⟩

set_option maxHeartbeats 4000000 in
set_option maxRecDepth 100000 in
theorem value_nil (b : Bool) (w0 : World) (ea : Addr) (s : ByteArray) (Sb Ab p : Nat) (W : World) (h : Rd w0 ea s Sb Ab p W) (hn : numL (s.data.toList.drop p) = some 0) :
    Calls Tryz.prog 32 #[rdr Sb Ab, .bool b] W (valPost (.ok (.mk 0 0 ⟨#[]⟩ [], (Wire.num 0).length)) w0 ea s Sb Ab p W) := by
  have hlt := h.lt
  have h2 := Two.new (W0 := W) (Sb := Sb) (Ab := Ab) hlt
  have hc := decNum w0 ea s Sb Ab p _ (h.below (below_two (.cells #[numFn Sb Ab, textFn Sb Ab] 76) (.cells #[.int .i64 0, .int .i64 0, .string ⟨#[]⟩, .slice none 0 0] 37)))
  unfold decNumPost at hc
  rw [hn] at hc
  have H := Lib.hid h
  have H2 := Lib.hid h2
  clear h h2 hn
  go_enter Tryz.func32, Tryz.ntmps32
  go_wp2_with fail
  refine hc.mono ?_
  rintro e W1 ⟨hk1, rfl, hR1⟩
  have hT := H2.out.go hk1
  have z1 : W.heap.size + 2 ≤ W1.heap.size := by have := hT.out.lt; omega
  have hV0 : VBox (W1.alloc (.cells #[.int .i64 0, .int .i64 0, .string ⟨#[]⟩, .slice none 0 0] 37)) W1.heap.size 0 0 ⟨#[]⟩ (.slice none 0 0) := VBox.new W1 _ _ _ _
  have hB0 : Below W1.heap.size W1 (W1.alloc (.cells #[.int .i64 0, .int .i64 0, .string ⟨#[]⟩, .slice none 0 0] 37)) := (Below.refl _ _).alloc (Nat.le_refl _) _
  have hT0 := hT.below hB0
  have hR0 := hR1.below hB0
  obtain ⟨⟨c0, c1, c2, c3⟩, f0, f1, f2, f3⟩ := hT0.out.facts
  obtain ⟨⟨v0, v1, v2, v3⟩, g0, g1, g2, g3⟩ := hV0.facts
  have hr := right_flat 0 0 (by decide) ⟨#[]⟩ (by decide) none 0 0 _ hR0.tabs
  have HT := Lib.hid hT0
  have HV := Lib.hid hV0
  have HR1 := Lib.hid hR0
  clear hT hk1 hR1 hc hT0 hR0 hB0 hV0
  go_wp2_with fail
  refine hr.mono ?_
  rintro e W2 ⟨rfl, hB2⟩
  have hT2 := HT.out.below hB2
  have hR2 := HR1.out.below hB2
  have hV2 := HV.out.below hB2
  clear c0 c1 c2 c3 f0 f1 f2 f3 v0 v1 v2 v3 g0 g1 g2 g3
  obtain ⟨⟨c0, c1, c2, c3⟩, f0, f1, f2, f3⟩ := hT2.out.facts
  obtain ⟨⟨v0, v1, v2, v3⟩, g0, g1, g2, g3⟩ := hV2.facts
  have hq : flatOk 0 0 ⟨#[]⟩ 0 = true := rfl
  rw [hq]
  clear HT HR1 hr
  have HT := Lib.hid hT2
  have HR1 := Lib.hid hR2
  clear hT2 hR2 hV2 hB2 hq
  go_wp2_with fail
  obtain ⟨hV, hK⟩ := HT.out.fin 0 0 ⟨#[]⟩ (.slice none 0 0)
  have hR := HR1.out.fin H.out 0 0 ⟨#[]⟩ (.slice none 0 0)
  unfold putBox at hV hK hR
  generalize ((((W2.setCell ⟨W.heap.size + 1, 0, none⟩ (.int .i64 0)).setCell ⟨W.heap.size + 1, 1, none⟩ (.int .i64 0)).setCell ⟨W.heap.size + 1, 2, none⟩ (.string ⟨#[]⟩)).setCell ⟨W.heap.size + 1, 3, none⟩ (.slice none 0 0)) = W9 at hV hK hR ⊢
  obtain ⟨⟨e0, e1, e2, e3⟩, _⟩ := hV.facts
  exact bodyPost_ret (v := .tuple #[valV 0 0 ⟨#[]⟩ (.slice none 0 0), .int .i64 0]) (by simp [results, Tryz.results32, go_sem, e0, e1, e2, e3]) rfl ⟨hK, hR, ⟨0, 0, ⟨#[]⟩, none, 0, 0⟩, rfl, vat_nil 1 _ (flat_fine rfl) rfl⟩

set_option maxHeartbeats 4000000 in
set_option maxRecDepth 100000 in
theorem value_num_none (b : Bool) (w0 : World) (ea : Addr) (s : ByteArray) (Sb Ab p : Nat) (W : World) (h : Rd w0 ea s Sb Ab p W) (hn : numL (s.data.toList.drop p) = some 1) (hn2 : numL (s.data.toList.drop (p + (Wire.num 1).length)) = none) :
    Calls Tryz.prog 32 #[rdr Sb Ab, .bool b] W (valPost (.error 10) w0 ea s Sb Ab p W) := by
  have hlt := h.lt
  have h2 := Two.new (W0 := W) (Sb := Sb) (Ab := Ab) hlt
  have hc := decNum w0 ea s Sb Ab p _ (h.below (below_two (.cells #[numFn Sb Ab, textFn Sb Ab] 76) (.cells #[.int .i64 0, .int .i64 0, .string ⟨#[]⟩, .slice none 0 0] 37)))
  unfold decNumPost at hc
  rw [hn] at hc
  have H := Lib.hid h
  have H2 := Lib.hid h2
  clear h h2 hn
  go_enter Tryz.func32, Tryz.ntmps32
  go_wp2_with fail
  refine hc.mono ?_
  rintro e W1 ⟨hk1, rfl, hR1⟩
  have hT := H2.out.go hk1
  have z1 : W.heap.size + 2 ≤ W1.heap.size := by have := hT.out.lt; omega
  have hV0 : VBox (W1.alloc (.cells #[.int .i64 1, .int .i64 0, .string ⟨#[]⟩, .slice none 0 0] 37)) W1.heap.size 1 0 ⟨#[]⟩ (.slice none 0 0) := VBox.new W1 _ _ _ _
  have hB0 : Below W1.heap.size W1 (W1.alloc (.cells #[.int .i64 1, .int .i64 0, .string ⟨#[]⟩, .slice none 0 0] 37)) := (Below.refl _ _).alloc (Nat.le_refl _) _
  have hT0 := hT.below hB0
  have hR0 := hR1.below hB0
  have hc2 := decNum w0 ea s Sb Ab (p + (Wire.num 1).length) _ hR0
  unfold decNumPost at hc2
  rw [hn2] at hc2
  obtain ⟨c0, c1⟩ := hT0.cells
  have HT0 := Lib.hid hT0
  have HV0 := Lib.hid hV0
  clear hT hk1 hR1 hc hT0 hR0 hB0 hV0 hn2
  go_wp2_with fail
  refine hc2.mono ?_
  rintro e W2 ⟨hk2, rfl, hR2⟩
  have hT2 := HT0.out.go hk2
  have hV2 := HV0.out.kept hk2 (by have := H2.out.hA; omega)
  have z2 := hV2.lt
  clear c0 c1 hk2 hc2
  obtain ⟨⟨v0, v1, v2, v3⟩, g0, g1, g2, g3⟩ := hV2.facts
  have hT3 := hT2.past ⟨W1.heap.size, 1, none⟩ z1 (.int .i64 0)
  have hR3 := hR2.past ⟨W1.heap.size, 1, none⟩ (by have := H.out.lts; show Sb ≠ W1.heap.size; omega) (by have := H.out.lt; show Ab ≠ W1.heap.size; omega) (by have := H.out.b0.size; show _ ≤ W1.heap.size; omega) (.int .i64 0)
  obtain ⟨⟨c0, c1, c2, c3⟩, f0, f1, f2, f3⟩ := hT3.out.facts
  have HT := Lib.hid hT3
  have HR1 := Lib.hid hR3
  clear hT2 hR2 hV2 hT3 hR3
  go_wp2_with fail
  obtain ⟨hV, hK⟩ := HT.out.fin 0 0 ⟨#[]⟩ (.slice none 0 0)
  have hR := HR1.out.fin H.out 0 0 ⟨#[]⟩ (.slice none 0 0)
  unfold putBox at hV hK hR
  generalize (((((W2.setCell ⟨W1.heap.size, 1, none⟩ (.int .i64 0)).setCell ⟨W.heap.size + 1, 0, none⟩ (.int .i64 0)).setCell ⟨W.heap.size + 1, 1, none⟩ (.int .i64 0)).setCell ⟨W.heap.size + 1, 2, none⟩ (.string ⟨#[]⟩)).setCell ⟨W.heap.size + 1, 3, none⟩ (.slice none 0 0)) = W9 at hV hK hR ⊢
  obtain ⟨⟨e0, e1, e2, e3⟩, _⟩ := hV.facts
  exact bodyPost_ret (v := .tuple #[valV 0 0 ⟨#[]⟩ (.slice none 0 0), .int .i64 10]) (by simp [results, Tryz.results32, go_sem, e0, e1, e2, e3]) rfl ⟨hK, rfl, _, hR⟩

set_option maxHeartbeats 4000000 in
set_option maxRecDepth 100000 in
theorem value_num_true (b : Bool) (w0 : World) (ea : Addr) (s : ByteArray) (Sb Ab p : Nat) (W : World) (h : Rd w0 ea s Sb Ab p W) (n : Int) (hn : numL (s.data.toList.drop p) = some 1) (hn2 : numL (s.data.toList.drop (p + (Wire.num 1).length)) = some n) (hf : flatOk 1 n ⟨#[]⟩ 0 = true) :
    Calls Tryz.prog 32 #[rdr Sb Ab, .bool b] W (valPost (.ok (.mk 1 n ⟨#[]⟩ [], (Wire.num 1).length + (Wire.num n).length)) w0 ea s Sb Ab p W) := by
  have HF := Lib.hid hf
  clear hf
  have hlt := h.lt
  have h2 := Two.new (W0 := W) (Sb := Sb) (Ab := Ab) hlt
  have hc := decNum w0 ea s Sb Ab p _ (h.below (below_two (.cells #[numFn Sb Ab, textFn Sb Ab] 76) (.cells #[.int .i64 0, .int .i64 0, .string ⟨#[]⟩, .slice none 0 0] 37)))
  unfold decNumPost at hc
  rw [hn] at hc
  have H := Lib.hid h
  have H2 := Lib.hid h2
  clear h h2 hn
  go_enter Tryz.func32, Tryz.ntmps32
  go_wp2_with fail
  refine hc.mono ?_
  rintro e W1 ⟨hk1, rfl, hR1⟩
  have hT := H2.out.go hk1
  have z1 : W.heap.size + 2 ≤ W1.heap.size := by have := hT.out.lt; omega
  have hV0 : VBox (W1.alloc (.cells #[.int .i64 1, .int .i64 0, .string ⟨#[]⟩, .slice none 0 0] 37)) W1.heap.size 1 0 ⟨#[]⟩ (.slice none 0 0) := VBox.new W1 _ _ _ _
  have hB0 : Below W1.heap.size W1 (W1.alloc (.cells #[.int .i64 1, .int .i64 0, .string ⟨#[]⟩, .slice none 0 0] 37)) := (Below.refl _ _).alloc (Nat.le_refl _) _
  have hT0 := hT.below hB0
  have hR0 := hR1.below hB0
  have hc2 := decNum w0 ea s Sb Ab (p + (Wire.num 1).length) _ hR0
  unfold decNumPost at hc2
  rw [hn2] at hc2
  obtain ⟨c0, c1⟩ := hT0.cells
  have HT0 := Lib.hid hT0
  have HV0 := Lib.hid hV0
  clear hT hk1 hR1 hc hT0 hR0 hB0 hV0 hn2
  go_wp2_with fail
  refine hc2.mono ?_
  rintro e W2 ⟨hk2, rfl, hR2⟩
  have hT2 := HT0.out.go hk2
  have hV2 := HV0.out.kept hk2 (by have := H2.out.hA; omega)
  have z2 := hV2.lt
  clear c0 c1 hk2 hc2
  obtain ⟨⟨v0, v1, v2, v3⟩, g0, g1, g2, g3⟩ := hV2.facts
  have hT3 := hT2.past ⟨W1.heap.size, 1, none⟩ z1 (.int .i64 n)
  have hR3 := hR2.past ⟨W1.heap.size, 1, none⟩ (by have := H.out.lts; show Sb ≠ W1.heap.size; omega) (by have := H.out.lt; show Ab ≠ W1.heap.size; omega) (by have := H.out.b0.size; show _ ≤ W1.heap.size; omega) (.int .i64 n)
  have hV3 := hV2.set1 n
  have hr := right_flat 1 n (by decide) ⟨#[]⟩ (by decide) none 0 0 _ hR3.tabs
  rw [HF.out] at hr
  have HT := Lib.hid hT3
  have HV := Lib.hid hV3
  have HR1 := Lib.hid hR3
  clear hT2 hR2 hV2 hT3 hR3 hV3
  go_wp2_with fail
  refine hr.mono ?_
  rintro e W3 ⟨rfl, hB3⟩
  have hT4 := HT.out.below hB3
  have hR4 := HR1.out.below hB3
  have hV4 := HV.out.below hB3
  clear v0 v1 v2 v3 g0 g1 g2 g3 HT HR1 HV
  obtain ⟨⟨c0, c1, c2, c3⟩, f0, f1, f2, f3⟩ := hT4.out.facts
  obtain ⟨⟨v0, v1, v2, v3⟩, g0, g1, g2, g3⟩ := hV4.facts
  rw [Nat.add_assoc] at hR4
  have HT := Lib.hid hT4
  have HR1 := Lib.hid hR4
  clear hT4 hR4 hV4 hB3 hr
  go_wp2_with fail
  obtain ⟨hV, hK⟩ := HT.out.fin 1 n ⟨#[]⟩ (.slice none 0 0)
  have hR := HR1.out.fin H.out 1 n ⟨#[]⟩ (.slice none 0 0)
  unfold putBox at hV hK hR
  generalize ((((W3.setCell ⟨W.heap.size + 1, 0, none⟩ (.int .i64 1)).setCell ⟨W.heap.size + 1, 1, none⟩ (.int .i64 n)).setCell ⟨W.heap.size + 1, 2, none⟩ (.string ⟨#[]⟩)).setCell ⟨W.heap.size + 1, 3, none⟩ (.slice none 0 0)) = W9 at hV hK hR ⊢
  obtain ⟨⟨e0, e1, e2, e3⟩, _⟩ := hV.facts
  exact bodyPost_ret (v := .tuple #[valV 1 n ⟨#[]⟩ (.slice none 0 0), .int .i64 0]) (by simp [results, Tryz.results32, go_sem, e0, e1, e2, e3]) rfl ⟨hK, hR, ⟨1, n, ⟨#[]⟩, none, 0, 0⟩, rfl, vat_nil 1 _ (flat_fine HF.out) rfl⟩

set_option maxHeartbeats 4000000 in
set_option maxRecDepth 100000 in
theorem value_num_false (b : Bool) (w0 : World) (ea : Addr) (s : ByteArray) (Sb Ab p : Nat) (W : World) (h : Rd w0 ea s Sb Ab p W) (n : Int) (hn : numL (s.data.toList.drop p) = some 1) (hn2 : numL (s.data.toList.drop (p + (Wire.num 1).length)) = some n) (hf : flatOk 1 n ⟨#[]⟩ 0 = false) :
    Calls Tryz.prog 32 #[rdr Sb Ab, .bool b] W (valPost (.error 30) w0 ea s Sb Ab p W) := by
  have HF := Lib.hid hf
  clear hf
  have hlt := h.lt
  have h2 := Two.new (W0 := W) (Sb := Sb) (Ab := Ab) hlt
  have hc := decNum w0 ea s Sb Ab p _ (h.below (below_two (.cells #[numFn Sb Ab, textFn Sb Ab] 76) (.cells #[.int .i64 0, .int .i64 0, .string ⟨#[]⟩, .slice none 0 0] 37)))
  unfold decNumPost at hc
  rw [hn] at hc
  have H := Lib.hid h
  have H2 := Lib.hid h2
  clear h h2 hn
  go_enter Tryz.func32, Tryz.ntmps32
  go_wp2_with fail
  refine hc.mono ?_
  rintro e W1 ⟨hk1, rfl, hR1⟩
  have hT := H2.out.go hk1
  have z1 : W.heap.size + 2 ≤ W1.heap.size := by have := hT.out.lt; omega
  have hV0 : VBox (W1.alloc (.cells #[.int .i64 1, .int .i64 0, .string ⟨#[]⟩, .slice none 0 0] 37)) W1.heap.size 1 0 ⟨#[]⟩ (.slice none 0 0) := VBox.new W1 _ _ _ _
  have hB0 : Below W1.heap.size W1 (W1.alloc (.cells #[.int .i64 1, .int .i64 0, .string ⟨#[]⟩, .slice none 0 0] 37)) := (Below.refl _ _).alloc (Nat.le_refl _) _
  have hT0 := hT.below hB0
  have hR0 := hR1.below hB0
  have hc2 := decNum w0 ea s Sb Ab (p + (Wire.num 1).length) _ hR0
  unfold decNumPost at hc2
  rw [hn2] at hc2
  obtain ⟨c0, c1⟩ := hT0.cells
  have HT0 := Lib.hid hT0
  have HV0 := Lib.hid hV0
  clear hT hk1 hR1 hc hT0 hR0 hB0 hV0 hn2
  go_wp2_with fail
  refine hc2.mono ?_
  rintro e W2 ⟨hk2, rfl, hR2⟩
  have hT2 := HT0.out.go hk2
  have hV2 := HV0.out.kept hk2 (by have := H2.out.hA; omega)
  have z2 := hV2.lt
  clear c0 c1 hk2 hc2
  obtain ⟨⟨v0, v1, v2, v3⟩, g0, g1, g2, g3⟩ := hV2.facts
  have hT3 := hT2.past ⟨W1.heap.size, 1, none⟩ z1 (.int .i64 n)
  have hR3 := hR2.past ⟨W1.heap.size, 1, none⟩ (by have := H.out.lts; show Sb ≠ W1.heap.size; omega) (by have := H.out.lt; show Ab ≠ W1.heap.size; omega) (by have := H.out.b0.size; show _ ≤ W1.heap.size; omega) (.int .i64 n)
  have hV3 := hV2.set1 n
  have hr := right_flat 1 n (by decide) ⟨#[]⟩ (by decide) none 0 0 _ hR3.tabs
  rw [HF.out] at hr
  have HT := Lib.hid hT3
  have HV := Lib.hid hV3
  have HR1 := Lib.hid hR3
  clear hT2 hR2 hV2 hT3 hR3 hV3
  go_wp2_with fail
  refine hr.mono ?_
  rintro e W3 ⟨rfl, hB3⟩
  have hT4 := HT.out.below hB3
  have hR4 := HR1.out.below hB3
  have hV4 := HV.out.below hB3
  clear v0 v1 v2 v3 g0 g1 g2 g3 HT HR1 HV
  obtain ⟨⟨c0, c1, c2, c3⟩, f0, f1, f2, f3⟩ := hT4.out.facts
  obtain ⟨⟨v0, v1, v2, v3⟩, g0, g1, g2, g3⟩ := hV4.facts
  rw [Nat.add_assoc] at hR4
  have HT := Lib.hid hT4
  have HR1 := Lib.hid hR4
  clear hT4 hR4 hV4 hB3 hr
  go_wp2_with fail
  obtain ⟨hV, hK⟩ := HT.out.fin 0 0 ⟨#[]⟩ (.slice none 0 0)
  have hR := HR1.out.fin H.out 0 0 ⟨#[]⟩ (.slice none 0 0)
  unfold putBox at hV hK hR
  generalize ((((W3.setCell ⟨W.heap.size + 1, 0, none⟩ (.int .i64 0)).setCell ⟨W.heap.size + 1, 1, none⟩ (.int .i64 0)).setCell ⟨W.heap.size + 1, 2, none⟩ (.string ⟨#[]⟩)).setCell ⟨W.heap.size + 1, 3, none⟩ (.slice none 0 0)) = W9 at hV hK hR ⊢
  obtain ⟨⟨e0, e1, e2, e3⟩, _⟩ := hV.facts
  exact bodyPost_ret (v := .tuple #[valV 0 0 ⟨#[]⟩ (.slice none 0 0), .int .i64 30]) (by simp [results, Tryz.results32, go_sem, e0, e1, e2, e3]) rfl ⟨hK, rfl, _, hR⟩

set_option maxHeartbeats 4000000 in
set_option maxRecDepth 100000 in
theorem value_ref_none (b : Bool) (w0 : World) (ea : Addr) (s : ByteArray) (Sb Ab p : Nat) (W : World) (h : Rd w0 ea s Sb Ab p W) (hn : numL (s.data.toList.drop p) = some 3) (hn2 : numL (s.data.toList.drop (p + (Wire.num 3).length)) = none) :
    Calls Tryz.prog 32 #[rdr Sb Ab, .bool b] W (valPost (.error 10) w0 ea s Sb Ab p W) := by
  have hlt := h.lt
  have h2 := Two.new (W0 := W) (Sb := Sb) (Ab := Ab) hlt
  have hc := decNum w0 ea s Sb Ab p _ (h.below (below_two (.cells #[numFn Sb Ab, textFn Sb Ab] 76) (.cells #[.int .i64 0, .int .i64 0, .string ⟨#[]⟩, .slice none 0 0] 37)))
  unfold decNumPost at hc
  rw [hn] at hc
  have H := Lib.hid h
  have H2 := Lib.hid h2
  clear h h2 hn
  go_enter Tryz.func32, Tryz.ntmps32
  go_wp2_with fail
  refine hc.mono ?_
  rintro e W1 ⟨hk1, rfl, hR1⟩
  have hT := H2.out.go hk1
  have z1 : W.heap.size + 2 ≤ W1.heap.size := by have := hT.out.lt; omega
  have hV0 : VBox (W1.alloc (.cells #[.int .i64 3, .int .i64 0, .string ⟨#[]⟩, .slice none 0 0] 37)) W1.heap.size 3 0 ⟨#[]⟩ (.slice none 0 0) := VBox.new W1 _ _ _ _
  have hB0 : Below W1.heap.size W1 (W1.alloc (.cells #[.int .i64 3, .int .i64 0, .string ⟨#[]⟩, .slice none 0 0] 37)) := (Below.refl _ _).alloc (Nat.le_refl _) _
  have hT0 := hT.below hB0
  have hR0 := hR1.below hB0
  have hc2 := decNum w0 ea s Sb Ab (p + (Wire.num 3).length) _ hR0
  unfold decNumPost at hc2
  rw [hn2] at hc2
  obtain ⟨c0, c1⟩ := hT0.cells
  have HT0 := Lib.hid hT0
  have HV0 := Lib.hid hV0
  clear hT hk1 hR1 hc hT0 hR0 hB0 hV0 hn2
  go_wp2_with fail
  refine hc2.mono ?_
  rintro e W2 ⟨hk2, rfl, hR2⟩
  have hT2 := HT0.out.go hk2
  have hV2 := HV0.out.kept hk2 (by have := H2.out.hA; omega)
  have z2 := hV2.lt
  clear c0 c1 hk2 hc2
  obtain ⟨⟨v0, v1, v2, v3⟩, g0, g1, g2, g3⟩ := hV2.facts
  have hT3 := hT2.past ⟨W1.heap.size, 1, none⟩ z1 (.int .i64 0)
  have hR3 := hR2.past ⟨W1.heap.size, 1, none⟩ (by have := H.out.lts; show Sb ≠ W1.heap.size; omega) (by have := H.out.lt; show Ab ≠ W1.heap.size; omega) (by have := H.out.b0.size; show _ ≤ W1.heap.size; omega) (.int .i64 0)
  obtain ⟨⟨c0, c1, c2, c3⟩, f0, f1, f2, f3⟩ := hT3.out.facts
  have HT := Lib.hid hT3
  have HR1 := Lib.hid hR3
  clear hT2 hR2 hV2 hT3 hR3
  go_wp2_with fail
  obtain ⟨hV, hK⟩ := HT.out.fin 0 0 ⟨#[]⟩ (.slice none 0 0)
  have hR := HR1.out.fin H.out 0 0 ⟨#[]⟩ (.slice none 0 0)
  unfold putBox at hV hK hR
  generalize (((((W2.setCell ⟨W1.heap.size, 1, none⟩ (.int .i64 0)).setCell ⟨W.heap.size + 1, 0, none⟩ (.int .i64 0)).setCell ⟨W.heap.size + 1, 1, none⟩ (.int .i64 0)).setCell ⟨W.heap.size + 1, 2, none⟩ (.string ⟨#[]⟩)).setCell ⟨W.heap.size + 1, 3, none⟩ (.slice none 0 0)) = W9 at hV hK hR ⊢
  obtain ⟨⟨e0, e1, e2, e3⟩, _⟩ := hV.facts
  exact bodyPost_ret (v := .tuple #[valV 0 0 ⟨#[]⟩ (.slice none 0 0), .int .i64 10]) (by simp [results, Tryz.results32, go_sem, e0, e1, e2, e3]) rfl ⟨hK, rfl, _, hR⟩

set_option maxHeartbeats 4000000 in
set_option maxRecDepth 100000 in
theorem value_ref_true (b : Bool) (w0 : World) (ea : Addr) (s : ByteArray) (Sb Ab p : Nat) (W : World) (h : Rd w0 ea s Sb Ab p W) (n : Int) (hn : numL (s.data.toList.drop p) = some 3) (hn2 : numL (s.data.toList.drop (p + (Wire.num 3).length)) = some n) (hf : flatOk 3 n ⟨#[]⟩ 0 = true) :
    Calls Tryz.prog 32 #[rdr Sb Ab, .bool b] W (valPost (.ok (.mk 3 n ⟨#[]⟩ [], (Wire.num 3).length + (Wire.num n).length)) w0 ea s Sb Ab p W) := by
  have HF := Lib.hid hf
  clear hf
  have hlt := h.lt
  have h2 := Two.new (W0 := W) (Sb := Sb) (Ab := Ab) hlt
  have hc := decNum w0 ea s Sb Ab p _ (h.below (below_two (.cells #[numFn Sb Ab, textFn Sb Ab] 76) (.cells #[.int .i64 0, .int .i64 0, .string ⟨#[]⟩, .slice none 0 0] 37)))
  unfold decNumPost at hc
  rw [hn] at hc
  have H := Lib.hid h
  have H2 := Lib.hid h2
  clear h h2 hn
  go_enter Tryz.func32, Tryz.ntmps32
  go_wp2_with fail
  refine hc.mono ?_
  rintro e W1 ⟨hk1, rfl, hR1⟩
  have hT := H2.out.go hk1
  have z1 : W.heap.size + 2 ≤ W1.heap.size := by have := hT.out.lt; omega
  have hV0 : VBox (W1.alloc (.cells #[.int .i64 3, .int .i64 0, .string ⟨#[]⟩, .slice none 0 0] 37)) W1.heap.size 3 0 ⟨#[]⟩ (.slice none 0 0) := VBox.new W1 _ _ _ _
  have hB0 : Below W1.heap.size W1 (W1.alloc (.cells #[.int .i64 3, .int .i64 0, .string ⟨#[]⟩, .slice none 0 0] 37)) := (Below.refl _ _).alloc (Nat.le_refl _) _
  have hT0 := hT.below hB0
  have hR0 := hR1.below hB0
  have hc2 := decNum w0 ea s Sb Ab (p + (Wire.num 3).length) _ hR0
  unfold decNumPost at hc2
  rw [hn2] at hc2
  obtain ⟨c0, c1⟩ := hT0.cells
  have HT0 := Lib.hid hT0
  have HV0 := Lib.hid hV0
  clear hT hk1 hR1 hc hT0 hR0 hB0 hV0 hn2
  go_wp2_with fail
  refine hc2.mono ?_
  rintro e W2 ⟨hk2, rfl, hR2⟩
  have hT2 := HT0.out.go hk2
  have hV2 := HV0.out.kept hk2 (by have := H2.out.hA; omega)
  have z2 := hV2.lt
  clear c0 c1 hk2 hc2
  obtain ⟨⟨v0, v1, v2, v3⟩, g0, g1, g2, g3⟩ := hV2.facts
  have hT3 := hT2.past ⟨W1.heap.size, 1, none⟩ z1 (.int .i64 n)
  have hR3 := hR2.past ⟨W1.heap.size, 1, none⟩ (by have := H.out.lts; show Sb ≠ W1.heap.size; omega) (by have := H.out.lt; show Ab ≠ W1.heap.size; omega) (by have := H.out.b0.size; show _ ≤ W1.heap.size; omega) (.int .i64 n)
  have hV3 := hV2.set1 n
  have hr := right_flat 3 n (by decide) ⟨#[]⟩ (by decide) none 0 0 _ hR3.tabs
  rw [HF.out] at hr
  have HT := Lib.hid hT3
  have HV := Lib.hid hV3
  have HR1 := Lib.hid hR3
  clear hT2 hR2 hV2 hT3 hR3 hV3
  go_wp2_with fail
  refine hr.mono ?_
  rintro e W3 ⟨rfl, hB3⟩
  have hT4 := HT.out.below hB3
  have hR4 := HR1.out.below hB3
  have hV4 := HV.out.below hB3
  clear v0 v1 v2 v3 g0 g1 g2 g3 HT HR1 HV
  obtain ⟨⟨c0, c1, c2, c3⟩, f0, f1, f2, f3⟩ := hT4.out.facts
  obtain ⟨⟨v0, v1, v2, v3⟩, g0, g1, g2, g3⟩ := hV4.facts
  rw [Nat.add_assoc] at hR4
  have HT := Lib.hid hT4
  have HR1 := Lib.hid hR4
  clear hT4 hR4 hV4 hB3 hr
  go_wp2_with fail
  obtain ⟨hV, hK⟩ := HT.out.fin 3 n ⟨#[]⟩ (.slice none 0 0)
  have hR := HR1.out.fin H.out 3 n ⟨#[]⟩ (.slice none 0 0)
  unfold putBox at hV hK hR
  generalize ((((W3.setCell ⟨W.heap.size + 1, 0, none⟩ (.int .i64 3)).setCell ⟨W.heap.size + 1, 1, none⟩ (.int .i64 n)).setCell ⟨W.heap.size + 1, 2, none⟩ (.string ⟨#[]⟩)).setCell ⟨W.heap.size + 1, 3, none⟩ (.slice none 0 0)) = W9 at hV hK hR ⊢
  obtain ⟨⟨e0, e1, e2, e3⟩, _⟩ := hV.facts
  exact bodyPost_ret (v := .tuple #[valV 3 n ⟨#[]⟩ (.slice none 0 0), .int .i64 0]) (by simp [results, Tryz.results32, go_sem, e0, e1, e2, e3]) rfl ⟨hK, hR, ⟨3, n, ⟨#[]⟩, none, 0, 0⟩, rfl, vat_nil 1 _ (flat_fine HF.out) rfl⟩

set_option maxHeartbeats 4000000 in
set_option maxRecDepth 100000 in
theorem value_ref_false (b : Bool) (w0 : World) (ea : Addr) (s : ByteArray) (Sb Ab p : Nat) (W : World) (h : Rd w0 ea s Sb Ab p W) (n : Int) (hn : numL (s.data.toList.drop p) = some 3) (hn2 : numL (s.data.toList.drop (p + (Wire.num 3).length)) = some n) (hf : flatOk 3 n ⟨#[]⟩ 0 = false) :
    Calls Tryz.prog 32 #[rdr Sb Ab, .bool b] W (valPost (.error 30) w0 ea s Sb Ab p W) := by
  have HF := Lib.hid hf
  clear hf
  have hlt := h.lt
  have h2 := Two.new (W0 := W) (Sb := Sb) (Ab := Ab) hlt
  have hc := decNum w0 ea s Sb Ab p _ (h.below (below_two (.cells #[numFn Sb Ab, textFn Sb Ab] 76) (.cells #[.int .i64 0, .int .i64 0, .string ⟨#[]⟩, .slice none 0 0] 37)))
  unfold decNumPost at hc
  rw [hn] at hc
  have H := Lib.hid h
  have H2 := Lib.hid h2
  clear h h2 hn
  go_enter Tryz.func32, Tryz.ntmps32
  go_wp2_with fail
  refine hc.mono ?_
  rintro e W1 ⟨hk1, rfl, hR1⟩
  have hT := H2.out.go hk1
  have z1 : W.heap.size + 2 ≤ W1.heap.size := by have := hT.out.lt; omega
  have hV0 : VBox (W1.alloc (.cells #[.int .i64 3, .int .i64 0, .string ⟨#[]⟩, .slice none 0 0] 37)) W1.heap.size 3 0 ⟨#[]⟩ (.slice none 0 0) := VBox.new W1 _ _ _ _
  have hB0 : Below W1.heap.size W1 (W1.alloc (.cells #[.int .i64 3, .int .i64 0, .string ⟨#[]⟩, .slice none 0 0] 37)) := (Below.refl _ _).alloc (Nat.le_refl _) _
  have hT0 := hT.below hB0
  have hR0 := hR1.below hB0
  have hc2 := decNum w0 ea s Sb Ab (p + (Wire.num 3).length) _ hR0
  unfold decNumPost at hc2
  rw [hn2] at hc2
  obtain ⟨c0, c1⟩ := hT0.cells
  have HT0 := Lib.hid hT0
  have HV0 := Lib.hid hV0
  clear hT hk1 hR1 hc hT0 hR0 hB0 hV0 hn2
  go_wp2_with fail
  refine hc2.mono ?_
  rintro e W2 ⟨hk2, rfl, hR2⟩
  have hT2 := HT0.out.go hk2
  have hV2 := HV0.out.kept hk2 (by have := H2.out.hA; omega)
  have z2 := hV2.lt
  clear c0 c1 hk2 hc2
  obtain ⟨⟨v0, v1, v2, v3⟩, g0, g1, g2, g3⟩ := hV2.facts
  have hT3 := hT2.past ⟨W1.heap.size, 1, none⟩ z1 (.int .i64 n)
  have hR3 := hR2.past ⟨W1.heap.size, 1, none⟩ (by have := H.out.lts; show Sb ≠ W1.heap.size; omega) (by have := H.out.lt; show Ab ≠ W1.heap.size; omega) (by have := H.out.b0.size; show _ ≤ W1.heap.size; omega) (.int .i64 n)
  have hV3 := hV2.set1 n
  have hr := right_flat 3 n (by decide) ⟨#[]⟩ (by decide) none 0 0 _ hR3.tabs
  rw [HF.out] at hr
  have HT := Lib.hid hT3
  have HV := Lib.hid hV3
  have HR1 := Lib.hid hR3
  clear hT2 hR2 hV2 hT3 hR3 hV3
  go_wp2_with fail
  refine hr.mono ?_
  rintro e W3 ⟨rfl, hB3⟩
  have hT4 := HT.out.below hB3
  have hR4 := HR1.out.below hB3
  have hV4 := HV.out.below hB3
  clear v0 v1 v2 v3 g0 g1 g2 g3 HT HR1 HV
  obtain ⟨⟨c0, c1, c2, c3⟩, f0, f1, f2, f3⟩ := hT4.out.facts
  obtain ⟨⟨v0, v1, v2, v3⟩, g0, g1, g2, g3⟩ := hV4.facts
  rw [Nat.add_assoc] at hR4
  have HT := Lib.hid hT4
  have HR1 := Lib.hid hR4
  clear hT4 hR4 hV4 hB3 hr
  go_wp2_with fail
  obtain ⟨hV, hK⟩ := HT.out.fin 0 0 ⟨#[]⟩ (.slice none 0 0)
  have hR := HR1.out.fin H.out 0 0 ⟨#[]⟩ (.slice none 0 0)
  unfold putBox at hV hK hR
  generalize ((((W3.setCell ⟨W.heap.size + 1, 0, none⟩ (.int .i64 0)).setCell ⟨W.heap.size + 1, 1, none⟩ (.int .i64 0)).setCell ⟨W.heap.size + 1, 2, none⟩ (.string ⟨#[]⟩)).setCell ⟨W.heap.size + 1, 3, none⟩ (.slice none 0 0)) = W9 at hV hK hR ⊢
  obtain ⟨⟨e0, e1, e2, e3⟩, _⟩ := hV.facts
  exact bodyPost_ret (v := .tuple #[valV 0 0 ⟨#[]⟩ (.slice none 0 0), .int .i64 30]) (by simp [results, Tryz.results32, go_sem, e0, e1, e2, e3]) rfl ⟨hK, rfl, _, hR⟩

set_option maxHeartbeats 4000000 in
set_option maxRecDepth 100000 in
theorem value_weak_none (b : Bool) (w0 : World) (ea : Addr) (s : ByteArray) (Sb Ab p : Nat) (W : World) (h : Rd w0 ea s Sb Ab p W) (hn : numL (s.data.toList.drop p) = some 4) (hn2 : numL (s.data.toList.drop (p + (Wire.num 4).length)) = none) :
    Calls Tryz.prog 32 #[rdr Sb Ab, .bool b] W (valPost (.error 10) w0 ea s Sb Ab p W) := by
  have hlt := h.lt
  have h2 := Two.new (W0 := W) (Sb := Sb) (Ab := Ab) hlt
  have hc := decNum w0 ea s Sb Ab p _ (h.below (below_two (.cells #[numFn Sb Ab, textFn Sb Ab] 76) (.cells #[.int .i64 0, .int .i64 0, .string ⟨#[]⟩, .slice none 0 0] 37)))
  unfold decNumPost at hc
  rw [hn] at hc
  have H := Lib.hid h
  have H2 := Lib.hid h2
  clear h h2 hn
  go_enter Tryz.func32, Tryz.ntmps32
  go_wp2_with fail
  refine hc.mono ?_
  rintro e W1 ⟨hk1, rfl, hR1⟩
  have hT := H2.out.go hk1
  have z1 : W.heap.size + 2 ≤ W1.heap.size := by have := hT.out.lt; omega
  have hV0 : VBox (W1.alloc (.cells #[.int .i64 4, .int .i64 0, .string ⟨#[]⟩, .slice none 0 0] 37)) W1.heap.size 4 0 ⟨#[]⟩ (.slice none 0 0) := VBox.new W1 _ _ _ _
  have hB0 : Below W1.heap.size W1 (W1.alloc (.cells #[.int .i64 4, .int .i64 0, .string ⟨#[]⟩, .slice none 0 0] 37)) := (Below.refl _ _).alloc (Nat.le_refl _) _
  have hT0 := hT.below hB0
  have hR0 := hR1.below hB0
  have hc2 := decNum w0 ea s Sb Ab (p + (Wire.num 4).length) _ hR0
  unfold decNumPost at hc2
  rw [hn2] at hc2
  obtain ⟨c0, c1⟩ := hT0.cells
  have HT0 := Lib.hid hT0
  have HV0 := Lib.hid hV0
  clear hT hk1 hR1 hc hT0 hR0 hB0 hV0 hn2
  go_wp2_with fail
  refine hc2.mono ?_
  rintro e W2 ⟨hk2, rfl, hR2⟩
  have hT2 := HT0.out.go hk2
  have hV2 := HV0.out.kept hk2 (by have := H2.out.hA; omega)
  have z2 := hV2.lt
  clear c0 c1 hk2 hc2
  obtain ⟨⟨v0, v1, v2, v3⟩, g0, g1, g2, g3⟩ := hV2.facts
  have hT3 := hT2.past ⟨W1.heap.size, 1, none⟩ z1 (.int .i64 0)
  have hR3 := hR2.past ⟨W1.heap.size, 1, none⟩ (by have := H.out.lts; show Sb ≠ W1.heap.size; omega) (by have := H.out.lt; show Ab ≠ W1.heap.size; omega) (by have := H.out.b0.size; show _ ≤ W1.heap.size; omega) (.int .i64 0)
  obtain ⟨⟨c0, c1, c2, c3⟩, f0, f1, f2, f3⟩ := hT3.out.facts
  have HT := Lib.hid hT3
  have HR1 := Lib.hid hR3
  clear hT2 hR2 hV2 hT3 hR3
  go_wp2_with fail
  obtain ⟨hV, hK⟩ := HT.out.fin 0 0 ⟨#[]⟩ (.slice none 0 0)
  have hR := HR1.out.fin H.out 0 0 ⟨#[]⟩ (.slice none 0 0)
  unfold putBox at hV hK hR
  generalize (((((W2.setCell ⟨W1.heap.size, 1, none⟩ (.int .i64 0)).setCell ⟨W.heap.size + 1, 0, none⟩ (.int .i64 0)).setCell ⟨W.heap.size + 1, 1, none⟩ (.int .i64 0)).setCell ⟨W.heap.size + 1, 2, none⟩ (.string ⟨#[]⟩)).setCell ⟨W.heap.size + 1, 3, none⟩ (.slice none 0 0)) = W9 at hV hK hR ⊢
  obtain ⟨⟨e0, e1, e2, e3⟩, _⟩ := hV.facts
  exact bodyPost_ret (v := .tuple #[valV 0 0 ⟨#[]⟩ (.slice none 0 0), .int .i64 10]) (by simp [results, Tryz.results32, go_sem, e0, e1, e2, e3]) rfl ⟨hK, rfl, _, hR⟩

set_option maxHeartbeats 4000000 in
set_option maxRecDepth 100000 in
theorem value_weak_true (b : Bool) (w0 : World) (ea : Addr) (s : ByteArray) (Sb Ab p : Nat) (W : World) (h : Rd w0 ea s Sb Ab p W) (n : Int) (hn : numL (s.data.toList.drop p) = some 4) (hn2 : numL (s.data.toList.drop (p + (Wire.num 4).length)) = some n) (hf : flatOk 4 n ⟨#[]⟩ 0 = true) :
    Calls Tryz.prog 32 #[rdr Sb Ab, .bool b] W (valPost (.ok (.mk 4 n ⟨#[]⟩ [], (Wire.num 4).length + (Wire.num n).length)) w0 ea s Sb Ab p W) := by
  have HF := Lib.hid hf
  clear hf
  have hlt := h.lt
  have h2 := Two.new (W0 := W) (Sb := Sb) (Ab := Ab) hlt
  have hc := decNum w0 ea s Sb Ab p _ (h.below (below_two (.cells #[numFn Sb Ab, textFn Sb Ab] 76) (.cells #[.int .i64 0, .int .i64 0, .string ⟨#[]⟩, .slice none 0 0] 37)))
  unfold decNumPost at hc
  rw [hn] at hc
  have H := Lib.hid h
  have H2 := Lib.hid h2
  clear h h2 hn
  go_enter Tryz.func32, Tryz.ntmps32
  go_wp2_with fail
  refine hc.mono ?_
  rintro e W1 ⟨hk1, rfl, hR1⟩
  have hT := H2.out.go hk1
  have z1 : W.heap.size + 2 ≤ W1.heap.size := by have := hT.out.lt; omega
  have hV0 : VBox (W1.alloc (.cells #[.int .i64 4, .int .i64 0, .string ⟨#[]⟩, .slice none 0 0] 37)) W1.heap.size 4 0 ⟨#[]⟩ (.slice none 0 0) := VBox.new W1 _ _ _ _
  have hB0 : Below W1.heap.size W1 (W1.alloc (.cells #[.int .i64 4, .int .i64 0, .string ⟨#[]⟩, .slice none 0 0] 37)) := (Below.refl _ _).alloc (Nat.le_refl _) _
  have hT0 := hT.below hB0
  have hR0 := hR1.below hB0
  have hc2 := decNum w0 ea s Sb Ab (p + (Wire.num 4).length) _ hR0
  unfold decNumPost at hc2
  rw [hn2] at hc2
  obtain ⟨c0, c1⟩ := hT0.cells
  have HT0 := Lib.hid hT0
  have HV0 := Lib.hid hV0
  clear hT hk1 hR1 hc hT0 hR0 hB0 hV0 hn2
  go_wp2_with fail
  refine hc2.mono ?_
  rintro e W2 ⟨hk2, rfl, hR2⟩
  have hT2 := HT0.out.go hk2
  have hV2 := HV0.out.kept hk2 (by have := H2.out.hA; omega)
  have z2 := hV2.lt
  clear c0 c1 hk2 hc2
  obtain ⟨⟨v0, v1, v2, v3⟩, g0, g1, g2, g3⟩ := hV2.facts
  have hT3 := hT2.past ⟨W1.heap.size, 1, none⟩ z1 (.int .i64 n)
  have hR3 := hR2.past ⟨W1.heap.size, 1, none⟩ (by have := H.out.lts; show Sb ≠ W1.heap.size; omega) (by have := H.out.lt; show Ab ≠ W1.heap.size; omega) (by have := H.out.b0.size; show _ ≤ W1.heap.size; omega) (.int .i64 n)
  have hV3 := hV2.set1 n
  have hr := right_flat 4 n (by decide) ⟨#[]⟩ (by decide) none 0 0 _ hR3.tabs
  rw [HF.out] at hr
  have HT := Lib.hid hT3
  have HV := Lib.hid hV3
  have HR1 := Lib.hid hR3
  clear hT2 hR2 hV2 hT3 hR3 hV3
  go_wp2_with fail
  refine hr.mono ?_
  rintro e W3 ⟨rfl, hB3⟩
  have hT4 := HT.out.below hB3
  have hR4 := HR1.out.below hB3
  have hV4 := HV.out.below hB3
  clear v0 v1 v2 v3 g0 g1 g2 g3 HT HR1 HV
  obtain ⟨⟨c0, c1, c2, c3⟩, f0, f1, f2, f3⟩ := hT4.out.facts
  obtain ⟨⟨v0, v1, v2, v3⟩, g0, g1, g2, g3⟩ := hV4.facts
  rw [Nat.add_assoc] at hR4
  have HT := Lib.hid hT4
  have HR1 := Lib.hid hR4
  clear hT4 hR4 hV4 hB3 hr
  go_wp2_with fail
  obtain ⟨hV, hK⟩ := HT.out.fin 4 n ⟨#[]⟩ (.slice none 0 0)
  have hR := HR1.out.fin H.out 4 n ⟨#[]⟩ (.slice none 0 0)
  unfold putBox at hV hK hR
  generalize ((((W3.setCell ⟨W.heap.size + 1, 0, none⟩ (.int .i64 4)).setCell ⟨W.heap.size + 1, 1, none⟩ (.int .i64 n)).setCell ⟨W.heap.size + 1, 2, none⟩ (.string ⟨#[]⟩)).setCell ⟨W.heap.size + 1, 3, none⟩ (.slice none 0 0)) = W9 at hV hK hR ⊢
  obtain ⟨⟨e0, e1, e2, e3⟩, _⟩ := hV.facts
  exact bodyPost_ret (v := .tuple #[valV 4 n ⟨#[]⟩ (.slice none 0 0), .int .i64 0]) (by simp [results, Tryz.results32, go_sem, e0, e1, e2, e3]) rfl ⟨hK, hR, ⟨4, n, ⟨#[]⟩, none, 0, 0⟩, rfl, vat_nil 1 _ (flat_fine HF.out) rfl⟩

set_option maxHeartbeats 4000000 in
set_option maxRecDepth 100000 in
theorem value_weak_false (b : Bool) (w0 : World) (ea : Addr) (s : ByteArray) (Sb Ab p : Nat) (W : World) (h : Rd w0 ea s Sb Ab p W) (n : Int) (hn : numL (s.data.toList.drop p) = some 4) (hn2 : numL (s.data.toList.drop (p + (Wire.num 4).length)) = some n) (hf : flatOk 4 n ⟨#[]⟩ 0 = false) :
    Calls Tryz.prog 32 #[rdr Sb Ab, .bool b] W (valPost (.error 30) w0 ea s Sb Ab p W) := by
  have HF := Lib.hid hf
  clear hf
  have hlt := h.lt
  have h2 := Two.new (W0 := W) (Sb := Sb) (Ab := Ab) hlt
  have hc := decNum w0 ea s Sb Ab p _ (h.below (below_two (.cells #[numFn Sb Ab, textFn Sb Ab] 76) (.cells #[.int .i64 0, .int .i64 0, .string ⟨#[]⟩, .slice none 0 0] 37)))
  unfold decNumPost at hc
  rw [hn] at hc
  have H := Lib.hid h
  have H2 := Lib.hid h2
  clear h h2 hn
  go_enter Tryz.func32, Tryz.ntmps32
  go_wp2_with fail
  refine hc.mono ?_
  rintro e W1 ⟨hk1, rfl, hR1⟩
  have hT := H2.out.go hk1
  have z1 : W.heap.size + 2 ≤ W1.heap.size := by have := hT.out.lt; omega
  have hV0 : VBox (W1.alloc (.cells #[.int .i64 4, .int .i64 0, .string ⟨#[]⟩, .slice none 0 0] 37)) W1.heap.size 4 0 ⟨#[]⟩ (.slice none 0 0) := VBox.new W1 _ _ _ _
  have hB0 : Below W1.heap.size W1 (W1.alloc (.cells #[.int .i64 4, .int .i64 0, .string ⟨#[]⟩, .slice none 0 0] 37)) := (Below.refl _ _).alloc (Nat.le_refl _) _
  have hT0 := hT.below hB0
  have hR0 := hR1.below hB0
  have hc2 := decNum w0 ea s Sb Ab (p + (Wire.num 4).length) _ hR0
  unfold decNumPost at hc2
  rw [hn2] at hc2
  obtain ⟨c0, c1⟩ := hT0.cells
  have HT0 := Lib.hid hT0
  have HV0 := Lib.hid hV0
  clear hT hk1 hR1 hc hT0 hR0 hB0 hV0 hn2
  go_wp2_with fail
  refine hc2.mono ?_
  rintro e W2 ⟨hk2, rfl, hR2⟩
  have hT2 := HT0.out.go hk2
  have hV2 := HV0.out.kept hk2 (by have := H2.out.hA; omega)
  have z2 := hV2.lt
  clear c0 c1 hk2 hc2
  obtain ⟨⟨v0, v1, v2, v3⟩, g0, g1, g2, g3⟩ := hV2.facts
  have hT3 := hT2.past ⟨W1.heap.size, 1, none⟩ z1 (.int .i64 n)
  have hR3 := hR2.past ⟨W1.heap.size, 1, none⟩ (by have := H.out.lts; show Sb ≠ W1.heap.size; omega) (by have := H.out.lt; show Ab ≠ W1.heap.size; omega) (by have := H.out.b0.size; show _ ≤ W1.heap.size; omega) (.int .i64 n)
  have hV3 := hV2.set1 n
  have hr := right_flat 4 n (by decide) ⟨#[]⟩ (by decide) none 0 0 _ hR3.tabs
  rw [HF.out] at hr
  have HT := Lib.hid hT3
  have HV := Lib.hid hV3
  have HR1 := Lib.hid hR3
  clear hT2 hR2 hV2 hT3 hR3 hV3
  go_wp2_with fail
  refine hr.mono ?_
  rintro e W3 ⟨rfl, hB3⟩
  have hT4 := HT.out.below hB3
  have hR4 := HR1.out.below hB3
  have hV4 := HV.out.below hB3
  clear v0 v1 v2 v3 g0 g1 g2 g3 HT HR1 HV
  obtain ⟨⟨c0, c1, c2, c3⟩, f0, f1, f2, f3⟩ := hT4.out.facts
  obtain ⟨⟨v0, v1, v2, v3⟩, g0, g1, g2, g3⟩ := hV4.facts
  rw [Nat.add_assoc] at hR4
  have HT := Lib.hid hT4
  have HR1 := Lib.hid hR4
  clear hT4 hR4 hV4 hB3 hr
  go_wp2_with fail
  obtain ⟨hV, hK⟩ := HT.out.fin 0 0 ⟨#[]⟩ (.slice none 0 0)
  have hR := HR1.out.fin H.out 0 0 ⟨#[]⟩ (.slice none 0 0)
  unfold putBox at hV hK hR
  generalize ((((W3.setCell ⟨W.heap.size + 1, 0, none⟩ (.int .i64 0)).setCell ⟨W.heap.size + 1, 1, none⟩ (.int .i64 0)).setCell ⟨W.heap.size + 1, 2, none⟩ (.string ⟨#[]⟩)).setCell ⟨W.heap.size + 1, 3, none⟩ (.slice none 0 0)) = W9 at hV hK hR ⊢
  obtain ⟨⟨e0, e1, e2, e3⟩, _⟩ := hV.facts
  exact bodyPost_ret (v := .tuple #[valV 0 0 ⟨#[]⟩ (.slice none 0 0), .int .i64 30]) (by simp [results, Tryz.results32, go_sem, e0, e1, e2, e3]) rfl ⟨hK, rfl, _, hR⟩

set_option maxHeartbeats 4000000 in
set_option maxRecDepth 100000 in
theorem value_text_none (b : Bool) (w0 : World) (ea : Addr) (s : ByteArray) (Sb Ab p : Nat) (W : World) (h : Rd w0 ea s Sb Ab p W) (hn : numL (s.data.toList.drop p) = some 2) (hn2 : textL (s.data.toList.drop (p + (Wire.num 2).length)) = none) :
    Calls Tryz.prog 32 #[rdr Sb Ab, .bool b] W (valPost (.error 10) w0 ea s Sb Ab p W) := by
  have hlt := h.lt
  have h2 := Two.new (W0 := W) (Sb := Sb) (Ab := Ab) hlt
  have hc := decNum w0 ea s Sb Ab p _ (h.below (below_two (.cells #[numFn Sb Ab, textFn Sb Ab] 76) (.cells #[.int .i64 0, .int .i64 0, .string ⟨#[]⟩, .slice none 0 0] 37)))
  unfold decNumPost at hc
  rw [hn] at hc
  have H := Lib.hid h
  have H2 := Lib.hid h2
  clear h h2 hn
  go_enter Tryz.func32, Tryz.ntmps32
  go_wp2_with fail
  refine hc.mono ?_
  rintro e W1 ⟨hk1, rfl, hR1⟩
  have hT := H2.out.go hk1
  have z1 : W.heap.size + 2 ≤ W1.heap.size := by have := hT.out.lt; omega
  have hV0 : VBox (W1.alloc (.cells #[.int .i64 2, .int .i64 0, .string ⟨#[]⟩, .slice none 0 0] 37)) W1.heap.size 2 0 ⟨#[]⟩ (.slice none 0 0) := VBox.new W1 _ _ _ _
  have hB0 : Below W1.heap.size W1 (W1.alloc (.cells #[.int .i64 2, .int .i64 0, .string ⟨#[]⟩, .slice none 0 0] 37)) := (Below.refl _ _).alloc (Nat.le_refl _) _
  have hT0 := hT.below hB0
  have hR0 := hR1.below hB0
  have hc2 := decText w0 ea s Sb Ab (p + (Wire.num 2).length) _ hR0
  unfold decTextPost at hc2
  rw [hn2] at hc2
  obtain ⟨c0, c1⟩ := hT0.cells
  have HT0 := Lib.hid hT0
  have HV0 := Lib.hid hV0
  clear hT hk1 hR1 hc hT0 hR0 hB0 hV0 hn2
  go_wp2_with fail
  refine hc2.mono ?_
  rintro e W2 ⟨hk2, rfl, hR2⟩
  have hT2 := HT0.out.go hk2
  have hV2 := HV0.out.kept hk2 (by have := H2.out.hA; omega)
  have z2 := hV2.lt
  clear c0 c1 hk2 hc2
  obtain ⟨⟨v0, v1, v2, v3⟩, g0, g1, g2, g3⟩ := hV2.facts
  have hT3 := hT2.past ⟨W1.heap.size, 2, none⟩ z1 (.string ⟨#[]⟩)
  have hR3 := hR2.past ⟨W1.heap.size, 2, none⟩ (by have := H.out.lts; show Sb ≠ W1.heap.size; omega) (by have := H.out.lt; show Ab ≠ W1.heap.size; omega) (by have := H.out.b0.size; show _ ≤ W1.heap.size; omega) (.string ⟨#[]⟩)
  obtain ⟨⟨c0, c1, c2, c3⟩, f0, f1, f2, f3⟩ := hT3.out.facts
  have HT := Lib.hid hT3
  have HR1 := Lib.hid hR3
  clear hT2 hR2 hV2 hT3 hR3
  go_wp2_with fail
  obtain ⟨hV, hK⟩ := HT.out.fin 0 0 ⟨#[]⟩ (.slice none 0 0)
  have hR := HR1.out.fin H.out 0 0 ⟨#[]⟩ (.slice none 0 0)
  unfold putBox at hV hK hR
  generalize (((((W2.setCell ⟨W1.heap.size, 2, none⟩ (.string ⟨#[]⟩)).setCell ⟨W.heap.size + 1, 0, none⟩ (.int .i64 0)).setCell ⟨W.heap.size + 1, 1, none⟩ (.int .i64 0)).setCell ⟨W.heap.size + 1, 2, none⟩ (.string ⟨#[]⟩)).setCell ⟨W.heap.size + 1, 3, none⟩ (.slice none 0 0)) = W9 at hV hK hR ⊢
  obtain ⟨⟨e0, e1, e2, e3⟩, _⟩ := hV.facts
  exact bodyPost_ret (v := .tuple #[valV 0 0 ⟨#[]⟩ (.slice none 0 0), .int .i64 10]) (by simp [results, Tryz.results32, go_sem, e0, e1, e2, e3]) rfl ⟨hK, rfl, _, hR⟩

set_option maxHeartbeats 4000000 in
set_option maxRecDepth 100000 in
theorem value_text_true (b : Bool) (w0 : World) (ea : Addr) (s : ByteArray) (Sb Ab p : Nat) (W : World) (h : Rd w0 ea s Sb Ab p W) (t : List UInt8) (hn : numL (s.data.toList.drop p) = some 2) (hn2 : textL (s.data.toList.drop (p + (Wire.num 2).length)) = some t) (hf : flatOk 2 0 ⟨t.toArray⟩ 0 = true) :
    Calls Tryz.prog 32 #[rdr Sb Ab, .bool b] W (valPost (.ok (.mk 2 0 ⟨t.toArray⟩ [], (Wire.num 2).length + ((Wire.num t.length).length + t.length))) w0 ea s Sb Ab p W) := by
  have HF := Lib.hid hf
  have hts : (⟨t.toArray⟩ : ByteArray).size ≤ 9223372036854775807 := by rw [ba_size]; have := (textL_some hn2).1; omega
  clear hf
  have hlt := h.lt
  have h2 := Two.new (W0 := W) (Sb := Sb) (Ab := Ab) hlt
  have hc := decNum w0 ea s Sb Ab p _ (h.below (below_two (.cells #[numFn Sb Ab, textFn Sb Ab] 76) (.cells #[.int .i64 0, .int .i64 0, .string ⟨#[]⟩, .slice none 0 0] 37)))
  unfold decNumPost at hc
  rw [hn] at hc
  have H := Lib.hid h
  have H2 := Lib.hid h2
  clear h h2 hn
  go_enter Tryz.func32, Tryz.ntmps32
  go_wp2_with fail
  refine hc.mono ?_
  rintro e W1 ⟨hk1, rfl, hR1⟩
  have hT := H2.out.go hk1
  have z1 : W.heap.size + 2 ≤ W1.heap.size := by have := hT.out.lt; omega
  have hV0 : VBox (W1.alloc (.cells #[.int .i64 2, .int .i64 0, .string ⟨#[]⟩, .slice none 0 0] 37)) W1.heap.size 2 0 ⟨#[]⟩ (.slice none 0 0) := VBox.new W1 _ _ _ _
  have hB0 : Below W1.heap.size W1 (W1.alloc (.cells #[.int .i64 2, .int .i64 0, .string ⟨#[]⟩, .slice none 0 0] 37)) := (Below.refl _ _).alloc (Nat.le_refl _) _
  have hT0 := hT.below hB0
  have hR0 := hR1.below hB0
  have hc2 := decText w0 ea s Sb Ab (p + (Wire.num 2).length) _ hR0
  unfold decTextPost at hc2
  rw [hn2] at hc2
  obtain ⟨c0, c1⟩ := hT0.cells
  have HT0 := Lib.hid hT0
  have HV0 := Lib.hid hV0
  clear hT hk1 hR1 hc hT0 hR0 hB0 hV0 hn2
  go_wp2_with fail
  refine hc2.mono ?_
  rintro e W2 ⟨hk2, rfl, hR2⟩
  have hT2 := HT0.out.go hk2
  have hV2 := HV0.out.kept hk2 (by have := H2.out.hA; omega)
  have z2 := hV2.lt
  clear c0 c1 hk2 hc2
  obtain ⟨⟨v0, v1, v2, v3⟩, g0, g1, g2, g3⟩ := hV2.facts
  have hT3 := hT2.past ⟨W1.heap.size, 2, none⟩ z1 (.string ⟨t.toArray⟩)
  have hR3 := hR2.past ⟨W1.heap.size, 2, none⟩ (by have := H.out.lts; show Sb ≠ W1.heap.size; omega) (by have := H.out.lt; show Ab ≠ W1.heap.size; omega) (by have := H.out.b0.size; show _ ≤ W1.heap.size; omega) (.string ⟨t.toArray⟩)
  have hV3 := hV2.set2 ⟨t.toArray⟩
  have hr := right_flat 2 0 (by decide) ⟨t.toArray⟩ hts none 0 0 _ hR3.tabs
  rw [HF.out] at hr
  have HT := Lib.hid hT3
  have HV := Lib.hid hV3
  have HR1 := Lib.hid hR3
  clear hT2 hR2 hV2 hT3 hR3 hV3
  go_wp2_with fail
  refine hr.mono ?_
  rintro e W3 ⟨rfl, hB3⟩
  have hT4 := HT.out.below hB3
  have hR4 := HR1.out.below hB3
  have hV4 := HV.out.below hB3
  clear v0 v1 v2 v3 g0 g1 g2 g3 HT HR1 HV
  obtain ⟨⟨c0, c1, c2, c3⟩, f0, f1, f2, f3⟩ := hT4.out.facts
  obtain ⟨⟨v0, v1, v2, v3⟩, g0, g1, g2, g3⟩ := hV4.facts
  rw [Nat.add_assoc] at hR4
  have HT := Lib.hid hT4
  have HR1 := Lib.hid hR4
  clear hT4 hR4 hV4 hB3 hr
  go_wp2_with fail
  obtain ⟨hV, hK⟩ := HT.out.fin 2 0 ⟨t.toArray⟩ (.slice none 0 0)
  have hR := HR1.out.fin H.out 2 0 ⟨t.toArray⟩ (.slice none 0 0)
  unfold putBox at hV hK hR
  generalize ((((W3.setCell ⟨W.heap.size + 1, 0, none⟩ (.int .i64 2)).setCell ⟨W.heap.size + 1, 1, none⟩ (.int .i64 0)).setCell ⟨W.heap.size + 1, 2, none⟩ (.string ⟨t.toArray⟩)).setCell ⟨W.heap.size + 1, 3, none⟩ (.slice none 0 0)) = W9 at hV hK hR ⊢
  obtain ⟨⟨e0, e1, e2, e3⟩, _⟩ := hV.facts
  exact bodyPost_ret (v := .tuple #[valV 2 0 ⟨t.toArray⟩ (.slice none 0 0), .int .i64 0]) (by simp [results, Tryz.results32, go_sem, e0, e1, e2, e3]) rfl ⟨hK, hR, ⟨2, 0, ⟨t.toArray⟩, none, 0, 0⟩, rfl, vat_nil 1 _ (flat_fine HF.out) rfl⟩

set_option maxHeartbeats 4000000 in
set_option maxRecDepth 100000 in
theorem value_text_false (b : Bool) (w0 : World) (ea : Addr) (s : ByteArray) (Sb Ab p : Nat) (W : World) (h : Rd w0 ea s Sb Ab p W) (t : List UInt8) (hn : numL (s.data.toList.drop p) = some 2) (hn2 : textL (s.data.toList.drop (p + (Wire.num 2).length)) = some t) (hf : flatOk 2 0 ⟨t.toArray⟩ 0 = false) :
    Calls Tryz.prog 32 #[rdr Sb Ab, .bool b] W (valPost (.error 30) w0 ea s Sb Ab p W) := by
  have HF := Lib.hid hf
  have hts : (⟨t.toArray⟩ : ByteArray).size ≤ 9223372036854775807 := by rw [ba_size]; have := (textL_some hn2).1; omega
  clear hf
  have hlt := h.lt
  have h2 := Two.new (W0 := W) (Sb := Sb) (Ab := Ab) hlt
  have hc := decNum w0 ea s Sb Ab p _ (h.below (below_two (.cells #[numFn Sb Ab, textFn Sb Ab] 76) (.cells #[.int .i64 0, .int .i64 0, .string ⟨#[]⟩, .slice none 0 0] 37)))
  unfold decNumPost at hc
  rw [hn] at hc
  have H := Lib.hid h
  have H2 := Lib.hid h2
  clear h h2 hn
  go_enter Tryz.func32, Tryz.ntmps32
  go_wp2_with fail
  refine hc.mono ?_
  rintro e W1 ⟨hk1, rfl, hR1⟩
  have hT := H2.out.go hk1
  have z1 : W.heap.size + 2 ≤ W1.heap.size := by have := hT.out.lt; omega
  have hV0 : VBox (W1.alloc (.cells #[.int .i64 2, .int .i64 0, .string ⟨#[]⟩, .slice none 0 0] 37)) W1.heap.size 2 0 ⟨#[]⟩ (.slice none 0 0) := VBox.new W1 _ _ _ _
  have hB0 : Below W1.heap.size W1 (W1.alloc (.cells #[.int .i64 2, .int .i64 0, .string ⟨#[]⟩, .slice none 0 0] 37)) := (Below.refl _ _).alloc (Nat.le_refl _) _
  have hT0 := hT.below hB0
  have hR0 := hR1.below hB0
  have hc2 := decText w0 ea s Sb Ab (p + (Wire.num 2).length) _ hR0
  unfold decTextPost at hc2
  rw [hn2] at hc2
  obtain ⟨c0, c1⟩ := hT0.cells
  have HT0 := Lib.hid hT0
  have HV0 := Lib.hid hV0
  clear hT hk1 hR1 hc hT0 hR0 hB0 hV0 hn2
  go_wp2_with fail
  refine hc2.mono ?_
  rintro e W2 ⟨hk2, rfl, hR2⟩
  have hT2 := HT0.out.go hk2
  have hV2 := HV0.out.kept hk2 (by have := H2.out.hA; omega)
  have z2 := hV2.lt
  clear c0 c1 hk2 hc2
  obtain ⟨⟨v0, v1, v2, v3⟩, g0, g1, g2, g3⟩ := hV2.facts
  have hT3 := hT2.past ⟨W1.heap.size, 2, none⟩ z1 (.string ⟨t.toArray⟩)
  have hR3 := hR2.past ⟨W1.heap.size, 2, none⟩ (by have := H.out.lts; show Sb ≠ W1.heap.size; omega) (by have := H.out.lt; show Ab ≠ W1.heap.size; omega) (by have := H.out.b0.size; show _ ≤ W1.heap.size; omega) (.string ⟨t.toArray⟩)
  have hV3 := hV2.set2 ⟨t.toArray⟩
  have hr := right_flat 2 0 (by decide) ⟨t.toArray⟩ hts none 0 0 _ hR3.tabs
  rw [HF.out] at hr
  have HT := Lib.hid hT3
  have HV := Lib.hid hV3
  have HR1 := Lib.hid hR3
  clear hT2 hR2 hV2 hT3 hR3 hV3
  go_wp2_with fail
  refine hr.mono ?_
  rintro e W3 ⟨rfl, hB3⟩
  have hT4 := HT.out.below hB3
  have hR4 := HR1.out.below hB3
  have hV4 := HV.out.below hB3
  clear v0 v1 v2 v3 g0 g1 g2 g3 HT HR1 HV
  obtain ⟨⟨c0, c1, c2, c3⟩, f0, f1, f2, f3⟩ := hT4.out.facts
  obtain ⟨⟨v0, v1, v2, v3⟩, g0, g1, g2, g3⟩ := hV4.facts
  rw [Nat.add_assoc] at hR4
  have HT := Lib.hid hT4
  have HR1 := Lib.hid hR4
  clear hT4 hR4 hV4 hB3 hr
  go_wp2_with fail
  obtain ⟨hV, hK⟩ := HT.out.fin 0 0 ⟨#[]⟩ (.slice none 0 0)
  have hR := HR1.out.fin H.out 0 0 ⟨#[]⟩ (.slice none 0 0)
  unfold putBox at hV hK hR
  generalize ((((W3.setCell ⟨W.heap.size + 1, 0, none⟩ (.int .i64 0)).setCell ⟨W.heap.size + 1, 1, none⟩ (.int .i64 0)).setCell ⟨W.heap.size + 1, 2, none⟩ (.string ⟨#[]⟩)).setCell ⟨W.heap.size + 1, 3, none⟩ (.slice none 0 0)) = W9 at hV hK hR ⊢
  obtain ⟨⟨e0, e1, e2, e3⟩, _⟩ := hV.facts
  exact bodyPost_ret (v := .tuple #[valV 0 0 ⟨#[]⟩ (.slice none 0 0), .int .i64 30]) (by simp [results, Tryz.results32, go_sem, e0, e1, e2, e3]) rfl ⟨hK, rfl, _, hR⟩

/-- value, of what is no list -/
theorem value_flat (b : Bool) (w0 : World) (ea : Addr) (s : ByteArray) (Sb Ab p : Nat) (W : World) (h : Rd w0 ea s Sb Ab p W) (hb : ∀ k, numL (s.data.toList.drop p) = some k → k ≠ 5 ∨ b = false) :
    Calls Tryz.prog 32 #[rdr Sb Ab, .bool b] W (valPost (decIn (s.data.toList.drop p)) w0 ea s Sb Ab p W) := by
  unfold decIn
  cases hn : numL (s.data.toList.drop p) with
  | none => exact value_none b w0 ea s Sb Ab p W h hn
  | some k =>
    simp only [List.drop_drop]
    by_cases h1 : k = 1 ∨ k = 3 ∨ k = 4
    · rw [if_pos h1]
      cases hn2 : numL (s.data.toList.drop (p + (Wire.num k).length)) with
      | none =>
        rcases h1 with rfl | rfl | rfl
        · exact value_num_none b w0 ea s Sb Ab p W h hn hn2
        · exact value_ref_none b w0 ea s Sb Ab p W h hn hn2
        · exact value_weak_none b w0 ea s Sb Ab p W h hn hn2
      | some n =>
        simp only
        by_cases hf : flatOk k n ⟨#[]⟩ 0 = true
        · rw [if_pos hf]
          rcases h1 with rfl | rfl | rfl
          · exact value_num_true b w0 ea s Sb Ab p W h n hn hn2 hf
          · exact value_ref_true b w0 ea s Sb Ab p W h n hn hn2 hf
          · exact value_weak_true b w0 ea s Sb Ab p W h n hn hn2 hf
        · rw [if_neg hf]
          have hf := Bool.eq_false_iff.2 hf
          rcases h1 with rfl | rfl | rfl
          · exact value_num_false b w0 ea s Sb Ab p W h n hn hn2 hf
          · exact value_ref_false b w0 ea s Sb Ab p W h n hn hn2 hf
          · exact value_weak_false b w0 ea s Sb Ab p W h n hn hn2 hf
    · rw [if_neg h1]
      by_cases h2 : k = 2
      · subst h2
        rw [if_pos rfl]
        cases hn2 : textL (s.data.toList.drop (p + (Wire.num 2).length)) with
        | none => exact value_text_none b w0 ea s Sb Ab p W h hn hn2
        | some t =>
          simp only
          by_cases hf : flatOk 2 0 ⟨t.toArray⟩ 0 = true
          · rw [if_pos hf]
            exact value_text_true b w0 ea s Sb Ab p W h t hn hn2 hf
          · rw [if_neg hf]
            exact value_text_false b w0 ea s Sb Ab p W h t hn hn2 (Bool.eq_false_iff.2 hf)
      · rw [if_neg h2]
        by_cases h0 : k = 0
        · subst h0
          rw [if_pos rfl]
          exact value_nil b w0 ea s Sb Ab p W h hn
        · rw [if_neg h0]
          exact value_other b w0 ea s Sb Ab p W h k hn (by omega) (hb k hn)
end Go.Proofs.YtffoklhopmhjaaaGreatDoor

/- How values are written and read: as functions, and that reading undoes writing. -/
set_option linter.unusedSimpArgs false
set_option linter.unusedVariables false
namespace Go.Proofs.YtffoklhopmhjaaaGreatDoor
open Go Go.RowKit Go.Shelf

def isDig (c : UInt8) : Bool := decide (48 ≤ (c.toNat : Int) ∧ (c.toNat : Int) ≤ 57)
/-- digits ahead, as many as make no more than most: the number, and how many -/
def digGo (most : Int) : Int → List UInt8 → Int × Nat
  | n, [] => (n, 0)
  | n, c :: r => if isDig c = true ∧ n * 10 + ((c.toNat : Int) - 48) ≤ most then ((digGo most (n * 10 + ((c.toNat : Int) - 48)) r).1, (digGo most (n * 10 + ((c.toNat : Int) - 48)) r).2 + 1) else (n, 0)
/-- readNum, behind its sign -/
def numTail (sign : Int) (most : Int) (l : List UInt8) : Int × Nat × Bool :=
  if l.head? = some 48 then (0, 1, decide (0 < sign)) else (sign * (digGo most 0 l).1, (digGo most 0 l).2, decide (0 < (digGo most 0 l).2))
def numTxt (least most : Int) (l : List UInt8) : Int × Nat × Bool :=
  if l.head? = some 45 then ((numTail (-1) (-least) l.tail).1, (numTail (-1) (-least) l.tail).2.1 + 1, (numTail (-1) (-least) l.tail).2.2) else numTail 1 most l

/-- a text behind its first quote: itself, and how many bytes there are with the last quote -/
def unq : List UInt8 → List UInt8 → Option (List UInt8 × Nat)
  | acc, [] => none
  | acc, c :: r =>
    if c = 34 then some (acc, 1)
    else if c = 92 then
      match r with
      | [] => none
      | d :: r' => if d = 34 ∨ d = 92 then (unq (acc ++ [d]) r').map (fun x => (x.1, x.2 + 2)) else none
    else (unq (acc ++ [c]) r).map (fun x => (x.1, x.2 + 1))

/-- a value that is no list -/
def readIn (l : List UInt8) : Option (V × Nat) :=
  match l with
  | [] => none
  | c :: r =>
    if c = 34 then
      match unq [] r with
      | none => none
      | some (t, k) => if flatOk 2 0 ⟨t.toArray⟩ 0 = true then some (.mk 2 0 ⟨t.toArray⟩ [], k + 1) else none
    else if c = 64 then
      (if (numTxt (-20) 100000 r).2.2 = true ∧ flatOk 3 (numTxt (-20) 100000 r).1 ⟨#[]⟩ 0 = true then some (.mk 3 (numTxt (-20) 100000 r).1 ⟨#[]⟩ [], (numTxt (-20) 100000 r).2.1 + 1) else none)
    else if c = 126 then
      (if (numTxt (-20) 100000 r).2.2 = true ∧ flatOk 4 (numTxt (-20) 100000 r).1 ⟨#[]⟩ 0 = true then some (.mk 4 (numTxt (-20) 100000 r).1 ⟨#[]⟩ [], (numTxt (-20) 100000 r).2.1 + 1) else none)
    else if (numTxt (-1000000000000000) 1000000000000000 (c :: r)).2.2 = true then
      (if flatOk 1 (numTxt (-1000000000000000) 1000000000000000 (c :: r)).1 ⟨#[]⟩ 0 = true then some (.mk 1 (numTxt (-1000000000000000) 1000000000000000 (c :: r)).1 ⟨#[]⟩ [], (numTxt (-1000000000000000) 1000000000000000 (c :: r)).2.1) else none)
    else if c = 45 then some (.mk 0 0 ⟨#[]⟩ [], 1) else none

/-- a list behind its bracket, of which so much is read -/
def readItems : Nat → List V → List UInt8 → Option (List V × Nat)
  | 0, acc, _ => none
  | n + 1, acc, [] => none
  | n + 1, acc, c :: r =>
    if 12 < acc.length then none
    else if c = 93 then some (acc, 1)
    else if acc = [] then
      match readIn (c :: r) with
      | none => none
      | some (u, k) => (readItems n (acc ++ [u]) ((c :: r).drop k)).map (fun x => (x.1, x.2 + k))
    else if c = 32 then
      match readIn r with
      | none => none
      | some (u, k) => (readItems n (acc ++ [u]) (r.drop k)).map (fun x => (x.1, x.2 + (k + 1)))
    else none
def readV (l : List UInt8) : Option (V × Nat) :=
  match readIn l with
  | some x => some x
  | none => if l.head? = some 91 then (readItems 14 [] l.tail).map (fun x => (V.mk 5 0 ⟨#[]⟩ x.1, x.2 + 1)) else none

/-- a text in quotes, behind the first one -/
def quoted : List UInt8 → List UInt8
  | [] => []
  | c :: r => if c = 34 ∨ c = 92 then 92 :: c :: quoted r else c :: quoted r
theorem unq_quoted : ∀ (t acc r : List UInt8), unq acc (quoted t ++ 34 :: r) = some (acc ++ t, (quoted t).length + 1)
  | [], acc, r => by
    show unq acc (34 :: r) = _
    unfold unq
    rw [if_pos rfl, List.append_nil]; rfl
  | c :: t, acc, r => by
    by_cases h : c = 34 ∨ c = 92
    · have e : quoted (c :: t) = 92 :: c :: quoted t := by show (if c = 34 ∨ c = 92 then _ else _) = _; rw [if_pos h]
      rw [e]
      show unq acc (92 :: c :: (quoted t ++ 34 :: r)) = _
      unfold unq
      rw [if_neg (by decide), if_pos rfl]
      simp only
      rw [if_pos h, unq_quoted t]
      simp
    · have e : quoted (c :: t) = c :: quoted t := by show (if c = 34 ∨ c = 92 then _ else _) = _; rw [if_neg h]
      rw [e]
      show unq acc (c :: (quoted t ++ 34 :: r)) = _
      unfold unq
      rw [if_neg (fun k => h (.inl k)), if_neg (fun k => h (.inr k)), unq_quoted t]
      simp

theorem digGo_stop {most n : Int} {r : List UInt8} (h : ∀ c ∈ r.head?, isDig c = false) : digGo most n r = (n, 0) := by
  cases r with
  | nil => rfl
  | cons c r =>
    show (if isDig c = true ∧ _ then _ else _) = _
    rw [if_neg]
    rintro ⟨a, _⟩
    have := h c rfl
    rw [a] at this
    cases this
theorem dig_of {u : Nat} (h : u < 10) : (UInt8.ofNat (48 + u)).toNat = 48 + u := by simp; omega
theorem isDig_of {u : Nat} (h : u < 10) : isDig (UInt8.ofNat (48 + u)) = true := by
  unfold isDig
  rw [dig_of h]
  exact decide_eq_true (by omega)
theorem digGo_dec (most : Int) : ∀ (u : Nat), (u : Int) ≤ most → ∀ r, digGo most 0 (Lib.decDigits u ++ r) = ((digGo most u r).1, (digGo most u r).2 + (Lib.decDigits u).length) := by
  intro u
  induction u using Nat.strongRecOn with
  | _ u ih =>
    intro hu r
    have step : ∀ (n : Int) (d : Nat) (r : List UInt8), d < 10 → n * 10 + (d : Int) ≤ most → digGo most n (UInt8.ofNat (48 + d) :: r) = ((digGo most (n * 10 + d) r).1, (digGo most (n * 10 + d) r).2 + 1) := by
      intro n d r hd hm
      show (if isDig _ = true ∧ _ then _ else _) = _
      have e : (((UInt8.ofNat (48 + d)).toNat : Int) - 48) = d := by rw [dig_of hd]; omega
      rw [e, if_pos ⟨isDig_of hd, hm⟩]
    by_cases h : u < 10
    · rw [Lib.decDigits_one h, List.singleton_append, step 0 u r h (by omega)]
      simp
    · have e : Lib.decDigits u = Lib.decDigits (u / 10) ++ [UInt8.ofNat (48 + u % 10)] := by rw [Lib.decDigits, dif_neg h]
      rw [e, List.append_assoc, ih (u / 10) (by omega) (by omega), List.singleton_append, step _ _ r (by omega) (by omega)]
      have e2 : ((u / 10 : Nat) : Int) * 10 + ((u % 10 : Nat) : Int) = (u : Int) := by omega
      rw [e2, List.length_append, List.length_singleton]
      simp only [Prod.mk.injEq, true_and]
      omega
theorem dec_head : ∀ (u : Nat), ∃ d r, d < 10 ∧ Lib.decDigits u = UInt8.ofNat (48 + d) :: r ∧ (0 < u → 0 < d) := by
  intro u
  induction u using Nat.strongRecOn with
  | _ u ih =>
    by_cases h : u < 10
    · exact ⟨u, [], h, Lib.decDigits_one h, fun k => k⟩
    · obtain ⟨d, r, h1, h2, h3⟩ := ih (u / 10) (by omega)
      refine ⟨d, r ++ [UInt8.ofNat (48 + u % 10)], h1, ?_, fun _ => h3 (by omega)⟩
      rw [Lib.decDigits, dif_neg h, h2]
      rfl
theorem digGo_dec_stop {most : Int} {u : Nat} (hu : (u : Int) ≤ most) {r : List UInt8} (h : ∀ c ∈ r.head?, isDig c = false) : digGo most 0 (Lib.decDigits u ++ r) = ((u : Int), (Lib.decDigits u).length) := by
  rw [digGo_dec most u hu, digGo_stop h]
  simp
theorem numTail_dec {sign most : Int} {u : Nat} (hu : (u : Int) ≤ most) (h0 : u = 0 → 0 < sign) {r : List UInt8} (h : ∀ c ∈ r.head?, isDig c = false) : numTail sign most (Lib.decDigits u ++ r) = (sign * u, (Lib.decDigits u).length, true) := by
  obtain ⟨d, q, h1, h2, h3⟩ := dec_head u
  unfold numTail
  by_cases hz : u = 0
  · subst hz
    have e : ([UInt8.ofNat (48 + 0)] ++ r).head? = some 48 := rfl
    rw [Lib.decDigits_one (by decide), if_pos e]
    simp [h0 rfl]
  · have hh : ¬ (Lib.decDigits u ++ r).head? = some 48 := by
      rw [h2]
      intro k
      have k' : UInt8.ofNat (48 + d) = 48 := by simpa using k
      have := congrArg UInt8.toNat k'
      rw [dig_of h1] at this
      have := h3 (by omega)
      simp at *; omega
    rw [if_neg hh, digGo_dec_stop hu h]
    have : 0 < (Lib.decDigits u).length := by rw [h2]; simp
    simp [this]
theorem head_dec {u : Nat} {r : List UInt8} : ∃ d, d < 10 ∧ (Lib.decDigits u ++ r).head? = some (UInt8.ofNat (48 + d)) := by
  obtain ⟨d, q, h1, h2, h3⟩ := dec_head u
  exact ⟨d, h1, by rw [h2]; rfl⟩
theorem dig_ne {d : Nat} (h : d < 10) {c : UInt8} (hc : c.toNat < 48 ∨ 57 < c.toNat) : UInt8.ofNat (48 + d) ≠ c := by
  intro e
  have := congrArg UInt8.toNat e
  rw [dig_of h] at this
  omega
theorem numTxt_itoa {least most n : Int} (h1 : least ≤ n) (h2 : n ≤ most) {r : List UInt8} (h : ∀ c ∈ r.head?, isDig c = false) : numTxt least most (Lib.itoa n ++ r) = (n, (Lib.itoa n).length, true) := by
  unfold numTxt Lib.itoa
  by_cases hn : n < 0
  · rw [if_pos hn, List.cons_append, if_pos List.head?_cons, List.tail_cons, numTail_dec (by omega) (by omega) h]
    simp only [List.length_cons, Prod.mk.injEq, and_true]
    omega
  · rw [if_neg hn]
    obtain ⟨d, hd, e⟩ := @head_dec n.toNat r
    rw [e, if_neg (fun k => dig_ne hd (c := 45) (by decide) (by simpa using k)), numTail_dec (by omega) (by omega) h]
    simp only [Prod.mk.injEq, and_true]
    omega
theorem itoa_head {n : Int} {r : List UInt8} : ∃ c, (Lib.itoa n ++ r).head? = some c ∧ (c = 45 ∧ n < 0 ∨ 48 ≤ c.toNat ∧ c.toNat ≤ 57) ∧ Lib.itoa n ++ r = c :: (Lib.itoa n ++ r).tail := by
  unfold Lib.itoa
  by_cases hn : n < 0
  · rw [if_pos hn]
    exact ⟨45, rfl, .inl ⟨rfl, hn⟩, rfl⟩
  · rw [if_neg hn]
    obtain ⟨d, q, h1, h2, _⟩ := dec_head n.toNat
    refine ⟨UInt8.ofNat (48 + d), by rw [h2]; rfl, .inr (by rw [dig_of h1]; omega), by rw [h2]; rfl⟩

/-- how a value is written -/
def V.textIn (u : V) : List UInt8 :=
  if u.k = 1 then Lib.itoa u.n
  else if u.k = 2 then 34 :: (quoted u.s.data.toList ++ [34])
  else if u.k = 3 then 64 :: Lib.itoa u.n
  else if u.k = 4 then 126 :: Lib.itoa u.n
  else [45]
def moreText (us : List V) : List UInt8 := us.flatMap (fun u => 32 :: u.textIn)
def itemsText : List V → List UInt8
  | [] => []
  | u :: us => u.textIn ++ moreText us
def V.text (v : V) : List UInt8 := if v.k = 5 then 91 :: (itemsText v.l ++ [93]) else v.textIn

theorem readIn_text (u : V) (h : u.flatOk = true) (r : List UInt8) (hr : ∀ c ∈ r.head?, isDig c = false) : readIn (u.textIn ++ r) = some (u, u.textIn.length) := by
  rcases flat_ways h with ⟨h0, h1⟩ | ⟨h0, h1, h2, h3⟩ | ⟨h0, h1, h2, h3⟩
  · have e : u.textIn = [45] := by unfold V.textIn; rw [if_neg (by omega), if_neg (by omega), if_neg (by omega), if_neg (by omega)]
    rw [e]
    show readIn (45 :: r) = _
    have hn : (numTxt (-1000000000000000) 1000000000000000 (45 :: r)).2.2 = false := by
      unfold numTxt
      rw [if_pos List.head?_cons]
      show (numTail (-1) _ r).2.2 = false
      unfold numTail
      split
      · rfl
      · rw [digGo_stop hr]; rfl
    unfold readIn
    show (if _ then _ else _) = _
    rw [if_neg (by decide), if_neg (by decide), if_neg (by decide), if_neg (by rw [hn]; decide), if_pos rfl, ← h1]
    rfl
  · rcases h0 with h0 | h0 | h0
    · have e : u.textIn = Lib.itoa u.n := by unfold V.textIn; rw [if_pos h0]
      have hb : -1000000000000000 ≤ u.n ∧ u.n ≤ 1000000000000000 := (flatOk_parts h).2.2.2
      rw [e]
      obtain ⟨c, e1, e2, e3⟩ := @itoa_head u.n r
      have hn := numTxt_itoa hb.1 hb.2 hr
      rw [e3] at hn ⊢
      unfold readIn
      have c1 : c ≠ 34 := by rintro rfl; rcases e2 with ⟨k, _⟩ | k; cases k; exact absurd k.1 (by decide)
      have c2 : c ≠ 64 := by rintro rfl; rcases e2 with ⟨k, _⟩ | k; cases k; exact absurd k.2 (by decide)
      have c3 : c ≠ 126 := by rintro rfl; rcases e2 with ⟨k, _⟩ | k; cases k; exact absurd k.2 (by decide)
      rw [h0] at h1 h2
      simp only
      rw [if_neg c1, if_neg c2, if_neg c3, hn, if_pos rfl, if_pos h2, ← h1]
    · have e : u.textIn = 64 :: Lib.itoa u.n := by unfold V.textIn; rw [if_neg (by omega), if_neg (by omega), if_pos h0]
      rw [h0] at h1 h2
      have hb : -20 ≤ u.n ∧ u.n ≤ 100000 := by
        have := of_decide_eq_true h2
        omega
      rw [e]
      show readIn (64 :: (Lib.itoa u.n ++ r)) = _
      unfold readIn
      show (if _ then _ else _) = _
      rw [if_neg (by decide), if_pos rfl, numTxt_itoa hb.1 hb.2 hr, if_pos ⟨rfl, h2⟩, ← h1]
      rfl
    · have e : u.textIn = 126 :: Lib.itoa u.n := by unfold V.textIn; rw [if_neg (by omega), if_neg (by omega), if_neg (by omega), if_pos h0]
      rw [h0] at h1 h2
      have hb : -20 ≤ u.n ∧ u.n ≤ 100000 := by
        have := of_decide_eq_true h2
        omega
      rw [e]
      show readIn (126 :: (Lib.itoa u.n ++ r)) = _
      unfold readIn
      show (if _ then _ else _) = _
      rw [if_neg (by decide), if_neg (by decide), if_pos rfl, numTxt_itoa hb.1 hb.2 hr, if_pos ⟨rfl, h2⟩, ← h1]
      rfl
  · have e : u.textIn = 34 :: (quoted u.s.data.toList ++ [34]) := by unfold V.textIn; rw [if_neg (by omega), if_pos h0]
    rw [e]
    show readIn (34 :: (quoted u.s.data.toList ++ [34] ++ r)) = _
    rw [List.append_assoc]
    unfold readIn
    show (if _ then _ else _) = _
    rw [if_pos rfl]
    show (match unq [] (quoted u.s.data.toList ++ 34 :: r) with | none => none | some (t, k) => if flatOk 2 0 ⟨t.toArray⟩ 0 = true then some (V.mk 2 0 ⟨t.toArray⟩ [], k + 1) else none) = _
    rw [unq_quoted, List.nil_append]
    simp only
    rw [text_back, if_pos h2, ← h1]
    simp

theorem textIn_head (u : V) : ∃ c r, u.textIn = c :: r ∧ c ≠ 93 := by
  have hi : ∀ n : Int, ∃ c r, Lib.itoa n = c :: r ∧ c ≠ 93 := by
    intro n
    obtain ⟨c, e1, e2, e3⟩ := @itoa_head n []
    rw [List.append_nil] at e3
    refine ⟨c, _, e3, ?_⟩
    rintro rfl
    rcases e2 with ⟨k, _⟩ | k
    · cases k
    · exact absurd k.2 (by decide)
  unfold V.textIn
  split
  · exact hi _
  · split
    · exact ⟨34, _, rfl, by decide⟩
    · split
      · exact ⟨64, _, rfl, by decide⟩
      · split
        · exact ⟨126, _, rfl, by decide⟩
        · exact ⟨45, [], rfl, by decide⟩

theorem more_head (us : List V) (r : List UInt8) : ∀ c ∈ (moreText us ++ 93 :: r).head?, isDig c = false := by
  intro c hc
  cases us with
  | nil =>
    have : (93 : UInt8) = c := by simpa [moreText] using hc
    rw [← this]; decide
  | cons u us =>
    have : (32 : UInt8) = c := by simpa [moreText] using hc
    rw [← this]; decide

theorem readItems_more : ∀ (us acc : List V) (n : Nat) (r : List UInt8), (∀ u ∈ us, u.flatOk = true) → acc ≠ [] → us.length + 1 ≤ n → acc.length + us.length ≤ 12 →
    readItems n acc (moreText us ++ 93 :: r) = some (acc ++ us, (moreText us).length + 1)
  | [], acc, n, r, _, ha, hn, hl => by
    obtain ⟨m, rfl⟩ : ∃ m, n = m + 1 := ⟨n - 1, by simp at hn; omega⟩
    show readItems (m + 1) acc (93 :: r) = _
    unfold readItems
    show (if _ then _ else _) = _
    rw [if_neg (by simp at hl; omega), if_pos rfl, List.append_nil]
    rfl
  | u :: us, acc, n, r, hu, ha, hn, hl => by
    obtain ⟨m, rfl⟩ : ∃ m, n = m + 1 := ⟨n - 1, by simp at hn; omega⟩
    have e : moreText (u :: us) ++ 93 :: r = 32 :: (u.textIn ++ (moreText us ++ 93 :: r)) := by simp [moreText]
    rw [e]
    unfold readItems
    show (if _ then _ else _) = _
    rw [if_neg (by simp at hl; omega), if_neg (by decide), if_neg ha, if_pos rfl, readIn_text u (hu u (by simp)) _ (more_head us r)]
    simp only
    rw [List.drop_left, readItems_more us (acc ++ [u]) m r (fun v hv => hu v (by simp [hv])) (by simp) (by simp at hn; omega) (by simp at hl ⊢; omega)]
    simp [moreText]
    omega

theorem readItems_all (us : List V) (n : Nat) (r : List UInt8) (hu : ∀ u ∈ us, u.flatOk = true) (hn : us.length + 1 ≤ n) (hl : us.length ≤ 12) :
    readItems n [] (itemsText us ++ 93 :: r) = some (us, (itemsText us).length + 1) := by
  obtain ⟨m, rfl⟩ : ∃ m, n = m + 1 := ⟨n - 1, by omega⟩
  cases us with
  | nil =>
    show readItems (m + 1) [] (93 :: r) = _
    unfold readItems
    show (if _ then _ else _) = _
    rw [if_neg (by decide), if_pos rfl]
    rfl
  | cons u us =>
    have e : itemsText (u :: us) ++ 93 :: r = u.textIn ++ (moreText us ++ 93 :: r) := by simp [itemsText]
    obtain ⟨c, q, h1, h2⟩ := textIn_head u
    have h3 := readIn_text u (hu u (by simp)) _ (more_head us r)
    have h4 : (u.textIn ++ (moreText us ++ 93 :: r)).drop u.textIn.length = moreText us ++ 93 :: r := List.drop_left
    rw [e]
    have e2 : u.textIn ++ (moreText us ++ 93 :: r) = c :: (q ++ (moreText us ++ 93 :: r)) := by rw [h1]; rfl
    rw [e2] at h3 h4 ⊢
    unfold readItems
    show (if _ then _ else _) = _
    rw [if_neg (by decide), if_neg h2, if_pos rfl, h3]
    simp only
    rw [h4, List.nil_append, readItems_more us [u] m r (fun v hv => hu v (by simp [hv])) (by simp) (by simp at hn; omega) (by simp at hl ⊢; omega)]
    simp [itemsText]
    omega

/-- Read undoes Text -/
theorem readV_text (v : V) (h : v.ok = true) (r : List UInt8) (hr : v.k = 5 ∨ ∀ c ∈ r.head?, isDig c = false) : readV (v.text ++ r) = some (v, v.text.length) := by
  unfold readV
  by_cases h5 : v.k = 5
  · obtain ⟨e, hl, hu⟩ := ok_list h h5
    have et : v.text ++ r = 91 :: (itemsText v.l ++ 93 :: r) := by unfold V.text; rw [if_pos h5]; simp
    have hn : numTxt (-1000000000000000) 1000000000000000 (91 :: (itemsText v.l ++ 93 :: r)) = (0, 0, false) := by
      unfold numTxt
      rw [if_neg (by rw [List.head?_cons]; decide)]
      unfold numTail
      have hs : ∀ c ∈ (91 :: (itemsText v.l ++ 93 :: r)).head?, isDig c = false := by
        intro c hc
        have : (91 : UInt8) = c := by simpa using hc
        rw [← this]; decide
      rw [if_neg (by rw [List.head?_cons]; decide), digGo_stop hs]
      rfl
    have hri : readIn (91 :: (itemsText v.l ++ 93 :: r)) = none := by
      unfold readIn
      show (if _ then _ else _) = _
      rw [if_neg (by decide), if_neg (by decide), if_neg (by decide), hn, if_neg (by decide), if_neg (by decide)]
    rw [et, hri]
    simp only
    rw [if_pos List.head?_cons, List.tail_cons, readItems_all v.l 14 r (fun u hu' => (okIn_parts (hu u hu')).2) (by omega) hl]
    simp only [Option.map_some]
    rw [← e]
    unfold V.text
    rw [if_pos h5]
    simp
  · have et : v.text = v.textIn := by unfold V.text; rw [if_neg h5]
    rw [et, readIn_text v (ok_flat h h5) r (hr.resolve_left h5)]
end Go.Proofs.YtffoklhopmhjaaaGreatDoor

/- val.readNum. -/
set_option linter.unusedSimpArgs false
set_option linter.unusedVariables false
namespace Go.Proofs.YtffoklhopmhjaaaGreatDoor
open Go Go.RowKit Go.Shelf

theorem dropAt (s : ByteArray) (j : Nat) (h : j < s.size) : s.data.toList.drop j = s[j] :: s.data.toList.drop (j + 1) := by
  have h' : j < s.data.toList.length := by simpa using h
  rw [List.drop_eq_getElem_cons h']
  rfl
theorem drop_end (s : ByteArray) (j : Nat) (h : s.size ≤ j) : s.data.toList.drop j = [] := List.drop_eq_nil_of_le (by simpa using h)

/-- what readNum answers, from a place on -/
def readNumE (p : Int) (x : Int × Nat × Bool) : Ending := .returned (.tuple #[.int .i64 x.1, .int .i64 (p + (x.2.1 : Nat)), .bool x.2.2])

theorem ret_three {a a' b b' : Int} {c c' : Prop} [Decidable c] [Decidable c'] (h1 : a = a') (h2 : b = b') (h3 : c ↔ c') : Ending.returned (.tuple #[.int .i64 a, .int .i64 b, .bool (decide c)]) = Ending.returned (.tuple #[.int .i64 a', .int .i64 b', .bool (decide c')]) := by
  rw [h1, h2]
  simp only [decide_eq_decide.2 h3]
theorem ret_threeT {a a' b b' : Int} {c' : Prop} [Decidable c'] (h1 : a = a') (h2 : b = b') (h3 : c') : Ending.returned (.tuple #[.int .i64 a, .int .i64 b, .bool true]) = Ending.returned (.tuple #[.int .i64 a', .int .i64 b', .bool (decide c')]) := by
  rw [h1, h2, decide_eq_true h3]
theorem readNumE_none (q : Nat) : Ending.returned (.tuple #[.int .i64 0, .int .i64 (q : Int), .bool false]) = readNumE (q : Nat) (0, 0, false) := by
  unfold readNumE
  simp

set_option maxRecDepth 100000 in
set_option maxHeartbeats 4000000 in
theorem readNum_plus (s : ByteArray) (hs : s.size ≤ 140737488355327) (p : Nat) (hp : p ≤ s.size) (h45 : ∀ (h : p < s.size), (s[p].toNat : Int) ≠ 45) (least most : Int) (hm0 : 0 ≤ most) (hm : most ≤ 1000000000000000) (w : World) :
    Calls Tryz.prog 65 #[.string s, .int .i64 (p : Int), .int .i64 least, .int .i64 most] w fun e w' => e = readNumE (p : Nat) (numTail (1) (most) (s.data.toList.drop (p))) ∧ w = w' := by
  have d0 : ∀ h : p < s.size, ((s[p].toNat : Int) == 45) = false := fun h => by rw [beq_eq_false_iff_ne]; exact h45 h
  clear h45
  by_cases hlt : p < s.size
  · by_cases h48 : (s[p].toNat : Int) = 48
    · have d1 : ((s[p].toNat : Int) == 48) = true := by rw [beq_iff_eq]; exact h48
      have e : s[p] = 48 := UInt8.toNat_inj.1 (by have : (48 : UInt8).toNat = 48 := rfl; omega)
      have hn : numTail (1) (most) (s.data.toList.drop (p)) = (0, 1, decide (0 < (1 : Int))) := by
        unfold numTail
        rw [dropAt s (p) hlt, e, if_pos List.head?_cons]
      rw [hn]
      clear hn e h48
      go_enter Tryz.func65, Tryz.ntmps65
      go_wp2_with fail
      go_ret3
      exact ⟨by unfold readNumE; rfl, rfl⟩
    · have d1 : ((s[p].toNat : Int) == 48) = false := by rw [beq_eq_false_iff_ne]; exact h48
      have hn : numTail (1) (most) (s.data.toList.drop (p)) = ((1) * (digGo (most) 0 (s.data.toList.drop (p))).1, (digGo (most) 0 (s.data.toList.drop (p))).2, decide (0 < (digGo (most) 0 (s.data.toList.drop (p))).2)) := by
        unfold numTail
        rw [if_neg]
        rw [dropAt s (p) hlt, List.head?_cons]
        intro k
        exact h48 (by rw [Option.some.inj k]; rfl)
      rw [hn]
      clear hn h48
      generalize hres : digGo (most) 0 (s.data.toList.drop (p)) = res
      have HRES := Lib.hid hres
      clear hres
      go_enter Tryz.func65, Tryz.ntmps65
      go_wp2_with fail
      go_loopw [1, 12] (fun i n wr => ∃ (j : Nat) (m : Int), p ≤ j ∧ j ≤ s.size ∧ i = .int .i64 (j : Int) ∧ n = .int .i64 m ∧ 0 ≤ m ∧ m ≤ most ∧ ((digGo (most) m (s.data.toList.drop j)).1, (digGo (most) m (s.data.toList.drop j)).2 + (j - (p))) = res ∧ w = wr) (fun i _ _ => s.size - (intOf i).toNat)
      case atStart => exact ⟨p, 0, by omega, by omega, by go_num, rfl, by omega, by omega, by rw [← HRES.out]; simp, rfl⟩
      case round =>
        obtain ⟨j, m, hpj, hj, rfl, rfl, hm1, hm2, hr, rfl⟩ := hrel
        have HR := Lib.hid hr
        clear hr d0 d1
        have hfin : digGo (most) m (s.data.toList.drop j) = (m, 0) → res = (m, j - (p)) := fun h => by rw [← HR.out, h]; simp
        by_cases hjl : j < s.size
        · by_cases hdg : 48 ≤ (s[j].toNat : Int) ∧ (s[j].toNat : Int) ≤ 57
          · have e0 : decide (48 ≤ (s[j].toNat : Int) ∧ (s[j].toNat : Int) ≤ 57) = true := decide_eq_true hdg
            have m1 : IntKind.u8.wrap ((s[j].toNat : Int) - 48) = (s[j].toNat : Int) - 48 := IntWalk.u8_in _ (by omega)
            by_cases hle : m * 10 + ((s[j].toNat : Int) - 48) ≤ most
            · have hn : digGo (most) m (s.data.toList.drop j) = ((digGo (most) (m * 10 + ((s[j].toNat : Int) - 48)) (s.data.toList.drop (j + 1))).1, (digGo (most) (m * 10 + ((s[j].toNat : Int) - 48)) (s.data.toList.drop (j + 1))).2 + 1) := by
                rw [dropAt s j hjl]
                conv => lhs; unfold digGo
                rw [if_pos ⟨e0, hle⟩]
              have hq : ((digGo (most) (m * 10 + ((s[j].toNat : Int) - 48)) (s.data.toList.drop (j + 1))).1, (digGo (most) (m * 10 + ((s[j].toNat : Int) - 48)) (s.data.toList.drop (j + 1))).2 + (j + 1 - (p))) = res := by
                rw [← HR.out, hn]
                simp only [Prod.mk.injEq, true_and]
                omega
              have HQ := Lib.hid hq
              clear hn hq hfin
              go_wp2_with (go_at_call 86; refine (digit_any _ _).mono ?_; rintro e w1 ⟨rfl, rfl⟩)
              exact ⟨⟨j + 1, m * 10 + ((s[j].toNat : Int) - 48), by omega, by omega, by go_num, rfl, by omega, hle, HQ.out, by trivial⟩, by simp [intOf]; omega⟩
            · have hq := hfin (by rw [dropAt s j hjl]; unfold digGo; rw [if_neg (fun h => hle h.2)])
              have HQ := Lib.hid hq
              clear hq hfin
              go_wp2_with (go_at_call 86; refine (digit_any _ _).mono ?_; rintro e w1 ⟨rfl, rfl⟩)
              go_ret3
              exact ⟨by rw [HQ.out]; exact ret_three (by simp) (by simp only; omega) (by simp only; omega), rfl⟩
          · have e0 : decide (48 ≤ (s[j].toNat : Int) ∧ (s[j].toNat : Int) ≤ 57) = false := decide_eq_false hdg
            have hq := hfin (by rw [dropAt s j hjl]; unfold digGo; rw [if_neg (fun h => by have := h.1; unfold isDig at this; rw [e0] at this; cases this)])
            have HQ := Lib.hid hq
            clear hq hfin hdg
            go_wp2_with (go_at_call 86; refine (digit_any _ _).mono ?_; rintro e w1 ⟨rfl, rfl⟩)
            go_ret3
            exact ⟨by rw [HQ.out]; exact ret_three (by simp) (by simp only; omega) (by simp only; omega), rfl⟩
        · obtain rfl : j = s.size := by omega
          have hq := hfin (by rw [drop_end s s.size (Nat.le_refl _)]; rfl)
          have HQ := Lib.hid hq
          clear hq hfin
          go_wp2_with fail
          go_ret3
          exact ⟨by rw [HQ.out]; first | exact ret_threeT (by simp) (by simp only; omega) (by simp only; omega) | exact ret_three (by simp) (by simp only; omega) (by simp only; omega), rfl⟩
  · have hn : numTail (1) (most) (s.data.toList.drop (p)) = (0, 0, false) := by
      unfold numTail
      rw [drop_end s (p) (by omega), if_neg (by simp)]
      rfl
    rw [hn]
    clear hn
    go_enter Tryz.func65, Tryz.ntmps65
    go_wp2_with fail
    go_loopw [1, 12] (fun i n wr => i = .int .i64 ((p : Nat) : Int) ∧ n = .int .i64 0 ∧ w = wr) (fun _ _ _ => 0)
    case atStart => exact ⟨by go_num, rfl, rfl⟩
    case round =>
      obtain ⟨rfl, rfl, rfl⟩ := hrel
      go_wp2_with fail
      go_ret3
      exact ⟨readNumE_none _, rfl⟩

set_option maxRecDepth 100000 in
set_option maxHeartbeats 4000000 in
theorem readNum_minus (s : ByteArray) (hs : s.size ≤ 140737488355327) (p : Nat) (hp : p < s.size) (h45 : (s[p].toNat : Int) = 45) (least most : Int) (hm0 : least ≤ 0) (hm : -1000000000000000 ≤ least) (w : World) :
    Calls Tryz.prog 65 #[.string s, .int .i64 (p : Int), .int .i64 least, .int .i64 most] w fun e w' => e = readNumE (p + 1 : Nat) (numTail (-1) (-least) (s.data.toList.drop (p + 1))) ∧ w = w' := by
  have d0 : ((s[p].toNat : Int) == 45) = true := by rw [beq_iff_eq]; exact h45
  clear h45
  by_cases hlt : p + 1 < s.size
  · by_cases h48 : (s[p + 1].toNat : Int) = 48
    · have d1 : ((s[p + 1].toNat : Int) == 48) = true := by rw [beq_iff_eq]; exact h48
      have e : s[p + 1] = 48 := UInt8.toNat_inj.1 (by have : (48 : UInt8).toNat = 48 := rfl; omega)
      have hn : numTail (-1) (-least) (s.data.toList.drop (p + 1)) = (0, 1, decide (0 < (-1 : Int))) := by
        unfold numTail
        rw [dropAt s (p + 1) hlt, e, if_pos List.head?_cons]
      rw [hn]
      clear hn e h48
      go_enter Tryz.func65, Tryz.ntmps65
      go_wp2_with fail
      go_ret3
      exact ⟨by unfold readNumE; rfl, rfl⟩
    · have d1 : ((s[p + 1].toNat : Int) == 48) = false := by rw [beq_eq_false_iff_ne]; exact h48
      have hn : numTail (-1) (-least) (s.data.toList.drop (p + 1)) = ((-1) * (digGo (-least) 0 (s.data.toList.drop (p + 1))).1, (digGo (-least) 0 (s.data.toList.drop (p + 1))).2, decide (0 < (digGo (-least) 0 (s.data.toList.drop (p + 1))).2)) := by
        unfold numTail
        rw [if_neg]
        rw [dropAt s (p + 1) hlt, List.head?_cons]
        intro k
        exact h48 (by rw [Option.some.inj k]; rfl)
      rw [hn]
      clear hn h48
      generalize hres : digGo (-least) 0 (s.data.toList.drop (p + 1)) = res
      have HRES := Lib.hid hres
      clear hres
      go_enter Tryz.func65, Tryz.ntmps65
      go_wp2_with fail
      go_loopw [1, 12] (fun i n wr => ∃ (j : Nat) (m : Int), p + 1 ≤ j ∧ j ≤ s.size ∧ i = .int .i64 (j : Int) ∧ n = .int .i64 m ∧ 0 ≤ m ∧ m ≤ -least ∧ ((digGo (-least) m (s.data.toList.drop j)).1, (digGo (-least) m (s.data.toList.drop j)).2 + (j - (p + 1))) = res ∧ w = wr) (fun i _ _ => s.size - (intOf i).toNat)
      case atStart => exact ⟨p + 1, 0, by omega, by omega, by go_num, rfl, by omega, by omega, by rw [← HRES.out]; simp, rfl⟩
      case round =>
        obtain ⟨j, m, hpj, hj, rfl, rfl, hm1, hm2, hr, rfl⟩ := hrel
        have HR := Lib.hid hr
        clear hr d0 d1
        have hfin : digGo (-least) m (s.data.toList.drop j) = (m, 0) → res = (m, j - (p + 1)) := fun h => by rw [← HR.out, h]; simp
        by_cases hjl : j < s.size
        · by_cases hdg : 48 ≤ (s[j].toNat : Int) ∧ (s[j].toNat : Int) ≤ 57
          · have e0 : decide (48 ≤ (s[j].toNat : Int) ∧ (s[j].toNat : Int) ≤ 57) = true := decide_eq_true hdg
            have m1 : IntKind.u8.wrap ((s[j].toNat : Int) - 48) = (s[j].toNat : Int) - 48 := IntWalk.u8_in _ (by omega)
            by_cases hle : m * 10 + ((s[j].toNat : Int) - 48) ≤ -least
            · have hn : digGo (-least) m (s.data.toList.drop j) = ((digGo (-least) (m * 10 + ((s[j].toNat : Int) - 48)) (s.data.toList.drop (j + 1))).1, (digGo (-least) (m * 10 + ((s[j].toNat : Int) - 48)) (s.data.toList.drop (j + 1))).2 + 1) := by
                rw [dropAt s j hjl]
                conv => lhs; unfold digGo
                rw [if_pos ⟨e0, hle⟩]
              have hq : ((digGo (-least) (m * 10 + ((s[j].toNat : Int) - 48)) (s.data.toList.drop (j + 1))).1, (digGo (-least) (m * 10 + ((s[j].toNat : Int) - 48)) (s.data.toList.drop (j + 1))).2 + (j + 1 - (p + 1))) = res := by
                rw [← HR.out, hn]
                simp only [Prod.mk.injEq, true_and]
                omega
              have HQ := Lib.hid hq
              clear hn hq hfin
              go_wp2_with (go_at_call 86; refine (digit_any _ _).mono ?_; rintro e w1 ⟨rfl, rfl⟩)
              exact ⟨⟨j + 1, m * 10 + ((s[j].toNat : Int) - 48), by omega, by omega, by go_num, rfl, by omega, hle, HQ.out, by trivial⟩, by simp [intOf]; omega⟩
            · have hq := hfin (by rw [dropAt s j hjl]; unfold digGo; rw [if_neg (fun h => hle h.2)])
              have HQ := Lib.hid hq
              clear hq hfin
              go_wp2_with (go_at_call 86; refine (digit_any _ _).mono ?_; rintro e w1 ⟨rfl, rfl⟩)
              go_ret3
              exact ⟨by rw [HQ.out]; exact ret_three (by simp) (by simp only; omega) (by simp only; omega), rfl⟩
          · have e0 : decide (48 ≤ (s[j].toNat : Int) ∧ (s[j].toNat : Int) ≤ 57) = false := decide_eq_false hdg
            have hq := hfin (by rw [dropAt s j hjl]; unfold digGo; rw [if_neg (fun h => by have := h.1; unfold isDig at this; rw [e0] at this; cases this)])
            have HQ := Lib.hid hq
            clear hq hfin hdg
            go_wp2_with (go_at_call 86; refine (digit_any _ _).mono ?_; rintro e w1 ⟨rfl, rfl⟩)
            go_ret3
            exact ⟨by rw [HQ.out]; exact ret_three (by simp) (by simp only; omega) (by simp only; omega), rfl⟩
        · obtain rfl : j = s.size := by omega
          have hq := hfin (by rw [drop_end s s.size (Nat.le_refl _)]; rfl)
          have HQ := Lib.hid hq
          clear hq hfin
          go_wp2_with fail
          go_ret3
          exact ⟨by rw [HQ.out]; first | exact ret_threeT (by simp) (by simp only; omega) (by simp only; omega) | exact ret_three (by simp) (by simp only; omega) (by simp only; omega), rfl⟩
  · have hn : numTail (-1) (-least) (s.data.toList.drop (p + 1)) = (0, 0, false) := by
      unfold numTail
      rw [drop_end s (p + 1) (by omega), if_neg (by simp)]
      rfl
    rw [hn]
    clear hn
    go_enter Tryz.func65, Tryz.ntmps65
    go_wp2_with fail
    go_loopw [1, 12] (fun i n wr => i = .int .i64 ((p + 1 : Nat) : Int) ∧ n = .int .i64 0 ∧ w = wr) (fun _ _ _ => 0)
    case atStart => exact ⟨by go_num, rfl, rfl⟩
    case round =>
      obtain ⟨rfl, rfl, rfl⟩ := hrel
      go_wp2_with fail
      go_ret3
      exact ⟨readNumE_none _, rfl⟩

theorem head_at (s : ByteArray) (p : Nat) (h : p < s.size) (c : UInt8) : ((s.data.toList.drop p).head? = some c) ↔ (s[p].toNat : Int) = (c.toNat : Int) := by
  rw [dropAt s p h, List.head?_cons]
  constructor
  · intro k; rw [Option.some.inj k]
  · intro k
    have h2 : s[p].toNat = c.toNat := by omega
    rw [UInt8.toNat_inj.1 h2]
/-- val.readNum, at any place within a text -/
theorem readNum_txt (s : ByteArray) (hs : s.size ≤ 140737488355327) (p : Nat) (hp : p ≤ s.size) (least most : Int) (h0 : least ≤ 0) (h1 : -1000000000000000 ≤ least) (h2 : 0 ≤ most) (h3 : most ≤ 1000000000000000) (w : World) :
    Calls Tryz.prog 65 #[.string s, .int .i64 (p : Int), .int .i64 least, .int .i64 most] w fun e w' => e = readNumE (p : Nat) (numTxt least most (s.data.toList.drop p)) ∧ w = w' := by
  unfold numTxt
  by_cases hlt : p < s.size
  · by_cases h : (s[p].toNat : Int) = 45
    · rw [if_pos ((head_at s p hlt 45).2 h)]
      refine (readNum_minus s hs p hlt h least most h0 h1 w).mono ?_
      rintro e w' ⟨rfl, rfl⟩
      refine ⟨?_, rfl⟩
      unfold readNumE
      rw [dropAt s p hlt, List.tail_cons]
      have : ((p + 1 : Nat) : Int) + ((numTail (-1) (-least) (s.data.toList.drop (p + 1))).2.1 : Nat) = (p : Int) + (((numTail (-1) (-least) (s.data.toList.drop (p + 1))).2.1 + 1 : Nat) : Int) := by omega
      rw [this]
    · rw [if_neg (fun k => h ((head_at s p hlt 45).1 k))]
      exact readNum_plus s hs p hp (fun _ => h) least most h2 h3 w
  · rw [if_neg (by rw [drop_end s p (by omega)]; simp)]
    exact readNum_plus s hs p hp (fun k => absurd k hlt) least most h2 h3 w
end Go.Proofs.YtffoklhopmhjaaaGreatDoor

/- words.Unquote. -/
set_option linter.unusedSimpArgs false
set_option linter.unusedVariables false
namespace Go.Proofs.YtffoklhopmhjaaaGreatDoor
open Go Go.RowKit Go.Shelf

/-- what Unquote answers, of a quote's place -/
def unqPost (r : Option (List UInt8 × Nat)) (W : World) (e : Ending) (W' : World) : Prop :=
  Below W.heap.size W W' ∧ match r with
    | none => e = .returned (.tuple #[.string ⟨#[]⟩, .int .i64 0, .bool false])
    | some (t, k) => e = .returned (.tuple #[.string ⟨t.toArray⟩, .int .i64 (k : Int), .bool true])

theorem drop_at (s : ByteArray) (j : Nat) (h : j < s.size) : s.data.toList.drop j = s[j] :: s.data.toList.drop (j + 1) := by
  have h' : j < s.data.toList.length := by simpa using h
  rw [List.drop_eq_getElem_cons h']
  rfl
def unqAt (s : ByteArray) (j : Nat) (acc : List UInt8) : Option (List UInt8 × Nat) := (unq acc (s.data.toList.drop j)).map (fun x => (x.1, x.2 + j))
theorem unqAt_end (s : ByteArray) (acc : List UInt8) : unqAt s s.size acc = none := by
  unfold unqAt
  rw [List.drop_eq_nil_of_le (by simp)]
  rfl
theorem unqAt_quote (s : ByteArray) (j : Nat) (h : j < s.size) (acc : List UInt8) (hc : (s[j].toNat : Int) = 34) : unqAt s j acc = some (acc, 1 + j) := by
  have e : s[j] = 34 := UInt8.toNat_inj.1 (by have : (34 : UInt8).toNat = 34 := rfl; omega)
  unfold unqAt
  rw [drop_at s j h, e]
  unfold unq
  rw [if_pos rfl]; rfl
theorem unqAt_back_end (s : ByteArray) (j : Nat) (h : j < s.size) (acc : List UInt8) (hc : (s[j].toNat : Int) = 92) (hj : j + 1 = s.size) : unqAt s j acc = none := by
  have e : s[j] = 92 := UInt8.toNat_inj.1 (by have : (92 : UInt8).toNat = 92 := rfl; omega)
  unfold unqAt
  rw [drop_at s j h, e, List.drop_eq_nil_of_le (by simp; omega)]
  unfold unq
  rw [if_neg (by decide), if_pos rfl]; rfl
theorem unqAt_back_bad (s : ByteArray) (j : Nat) (h : j < s.size) (acc : List UInt8) (hc : (s[j].toNat : Int) = 92) (hj : j + 1 < s.size) (h1 : (s[j + 1].toNat : Int) ≠ 34) (h2 : (s[j + 1].toNat : Int) ≠ 92) : unqAt s j acc = none := by
  have e : s[j] = 92 := UInt8.toNat_inj.1 (by have : (92 : UInt8).toNat = 92 := rfl; omega)
  unfold unqAt
  rw [drop_at s j h, drop_at s (j + 1) hj, e]
  unfold unq
  rw [if_neg (by decide), if_pos rfl]
  simp only
  rw [if_neg (by rintro (k | k) <;> rw [k] at h1 h2 <;> first | exact h1 rfl | exact h2 rfl)]; rfl
theorem unqAt_back (s : ByteArray) (j : Nat) (h : j < s.size) (acc : List UInt8) (hc : (s[j].toNat : Int) = 92) (hj : j + 1 < s.size) (h1 : (s[j + 1].toNat : Int) = 34 ∨ (s[j + 1].toNat : Int) = 92) : unqAt s j acc = unqAt s (j + 2) (acc ++ [s[j + 1]]) := by
  have e : s[j] = 92 := UInt8.toNat_inj.1 (by have : (92 : UInt8).toNat = 92 := rfl; omega)
  have e2 : s[j + 1] = 34 ∨ s[j + 1] = 92 := h1.imp (fun k => UInt8.toNat_inj.1 (by have : (34 : UInt8).toNat = 34 := rfl; omega)) (fun k => UInt8.toNat_inj.1 (by have : (92 : UInt8).toNat = 92 := rfl; omega))
  unfold unqAt
  rw [drop_at s j h, drop_at s (j + 1) hj, e]
  conv => lhs; unfold unq
  rw [if_neg (by decide), if_pos rfl]
  simp only
  rw [if_pos e2, Option.map_map]
  congr 1
  funext x
  simp; omega
theorem unqAt_plain (s : ByteArray) (j : Nat) (h : j < s.size) (acc : List UInt8) (h1 : (s[j].toNat : Int) ≠ 34) (h2 : (s[j].toNat : Int) ≠ 92) : unqAt s j acc = unqAt s (j + 1) (acc ++ [s[j]]) := by
  unfold unqAt
  rw [drop_at s j h]
  conv => lhs; unfold unq
  rw [if_neg (fun k => h1 (by rw [k]; rfl)), if_neg (fun k => h2 (by rw [k]; rfl)), Option.map_map]
  congr 1
  funext x
  simp; omega

theorem bytes_string (W : World) (base : Nat) (v : Value) (acc : List UInt8) (h : W.ownsRow base 5 1 v acc.length (acc.map u8v)) : (convert 64 9 v).run Tryz.prog W = .ok (.string ⟨acc.toArray⟩) W := by
  rcases List.eq_nil_or_concat acc with rfl | ⟨p, c, hp⟩
  · rcases h.2 with ⟨rfl, _⟩ | ⟨g, cap, _, hv, _⟩
    · exact Lib.run_convert_nil_bytes W 64 9 5 0 Tryz.underlying64 Tryz.underlying5 Tryz.underlying9
    · rw [hv]
      exact run_convert_bytes_back (P := Tryz.prog) W 64 9 5 ⟨g, 0, none⟩ cap [] Tryz.underlying64 Tryz.underlying5 Tryz.underlying9 (fun j hj => absurd hj (by simp))
  · rw [List.concat_eq_append] at hp
    have hl : acc.length = p.length + 1 := by rw [hp]; simp
    rw [hl] at h
    obtain ⟨g, cap, rfl⟩ := ownsRow_succ h
    have := run_convert_bytes_back (P := Tryz.prog) W 64 9 5 ⟨g, 0, none⟩ cap acc Tryz.underlying64 Tryz.underlying5 Tryz.underlying9 (fun j hj => by
      have hcj := h.cells (g := g) rfl j (u8v acc[j]) (by rw [List.getElem?_map, List.getElem?_eq_getElem hj]; rfl)
      exact hcj)
    rw [hl] at this
    exact this

set_option maxRecDepth 100000 in
set_option maxHeartbeats 4000000 in
theorem unquote_at (s : ByteArray) (hs : s.size ≤ 140737488355327) (p : Nat) (hp : p < s.size) (hc : (s[p].toNat : Int) = 34) (w : World) :
    Calls Tryz.prog 64 #[.string s, .int .i64 (p : Int)] w (unqPost (unqAt s (p + 1) []) w) := by
  obtain ⟨i0, hi, hz0, hz1, hz2⟩ := info_parts infoU8
  generalize hr : unqAt s (p + 1) [] = r
  have HR := Lib.hid hr
  clear hr
  have d0 : ((s[p].toNat : Int) == 34) = true := by rw [beq_iff_eq]; exact hc
  have d0n : ((s[p].toNat : Int) != 34) = false := by rw [bne_eq_false_iff_eq]; exact hc
  have d00 : decide ((p : Int) < 0) = false := decide_eq_false (by omega)
  have d01 : decide (s.size ≤ p) = false := decide_eq_false (by omega)
  have d02 : decide ((s.size : Int) ≤ (p : Int)) = false := decide_eq_false (by omega)
  clear hc
  go_enter Tryz.func64, Tryz.ntmps64
  go_wp2_with fail
  go_loopw [7, 8] (fun v i wr => ∃ (acc : List UInt8) (j : Nat), j ≤ s.size ∧ i = .int .i64 (j : Int) ∧ acc.length ≤ j ∧ unqAt s j acc = r ∧ wr.ownsRow w.heap.size 5 1 v acc.length (acc.map u8v) ∧ Below w.heap.size w wr) (fun _ i _ => s.size - (intOf i).toNat)
  case atStart => exact ⟨[], p + 1, by omega, by go_num, by simp, HR.out, World.ownsRow_nil _ _ _ _, Below.refl _ _⟩
  case round =>
    obtain ⟨acc, j, hj, rfl, hal, hu, hown, hB⟩ := hrel
    have HU := Lib.hid hu
    have hz := hB.size
    clear hu d0 d0n
    by_cases hlt : j < s.size
    · by_cases h34 : (s[j].toNat : Int) = 34
      · have d1 : ((s[j].toNat : Int) == 34) = true := by rw [beq_iff_eq]; exact h34
        have hq := unqAt_quote s j hlt acc h34
        rw [HU.out] at hq
        have HQ := Lib.hid hq
        have hconv := bytes_string _ _ _ acc hown
        clear hq h34
        go_wp2_with fail
        go_ret3
        refine ⟨hB, ?_⟩
        rw [HQ.out]
        show _ = Ending.returned (.tuple #[.string ⟨acc.toArray⟩, .int .i64 ((1 + j : Nat) : Int), .bool true])
        rw [show ((1 + j : Nat) : Int) = (j : Int) + 1 from by omega]
        rfl
      · have d1 : ((s[j].toNat : Int) == 34) = false := by rw [beq_eq_false_iff_ne]; exact h34
        by_cases h92 : (s[j].toNat : Int) = 92
        · have d2 : ((s[j].toNat : Int) == 92) = true := by rw [beq_iff_eq]; exact h92
          by_cases hj1 : j + 1 < s.size
          · have d3 : (((j : Int) + 1) == (s.size : Int)) = false := by rw [beq_eq_false_iff_ne]; omega
            have hj1' : (j : Int) + 1 < (s.size : Int) := by omega
            by_cases e1 : (s[j + 1].toNat : Int) = 34
            · have d4 : ((s[j + 1].toNat : Int) != 34) = false := by rw [bne_eq_false_iff_eq]; exact e1
              have hq := unqAt_back s j hlt acc h92 hj1 (.inl e1)
              rw [HU.out] at hq
              have HQ := Lib.hid hq
              clear hq h92 h34 e1
              go_wp2_with (at_builtin;  refine wpList_append_own _ rfl _ _ 64 rfl w.heap.size 5 i0 (.int .u8 0) 1 1 Tryz.underlying64 hi hz0 hz1 hz2 rfl (by decide) _ _ _ rfl (hown.alloc _) ⟨wr.heap.size, 0, none⟩ 1 1 [.int .u8 (s[j + 1].toNat : Int)] rfl rfl (cell_one_new _ _ _) (by simp [Value.oneCell']) (by simp [maxLen]; omega) (by omega) (by simp; omega) ?_; intro v' w2 hown1 hgrow _)
              have hB1 : Below w.heap.size w w2 := (hB.alloc hz _).grown hgrow (by simp; omega) (fun g hg => (hown.lt g hg).1)
              have hown3 : w2.ownsRow w.heap.size 5 1 v' (acc ++ [s[j + 1]]).length ((acc ++ [s[j + 1]]).map u8v) := by
                rw [List.map_append, List.length_append]
                exact hown1
              exact ⟨⟨acc ++ [s[j + 1]], j + 2, by omega, by go_num, by simp; omega, HQ.out.symm, hown3, hB1⟩, by simp [intOf]; omega⟩
            · have d4 : ((s[j + 1].toNat : Int) != 34) = true := by rw [bne_iff_ne]; exact e1
              by_cases e2 : (s[j + 1].toNat : Int) = 92
              · have d5 : ((s[j + 1].toNat : Int) != 92) = false := by rw [bne_eq_false_iff_eq]; exact e2
                have hq := unqAt_back s j hlt acc h92 hj1 (.inr e2)
                rw [HU.out] at hq
                have HQ := Lib.hid hq
                clear hq h92 h34 e1 e2
                go_wp2_with (at_builtin; refine wpList_append_own _ rfl _ _ 64 rfl w.heap.size 5 i0 (.int .u8 0) 1 1 Tryz.underlying64 hi hz0 hz1 hz2 rfl (by decide) _ _ _ rfl (hown.alloc _) ⟨wr.heap.size, 0, none⟩ 1 1 [.int .u8 (s[j + 1].toNat : Int)] rfl rfl (cell_one_new _ _ _) (by simp [Value.oneCell']) (by simp [maxLen]; omega) (by omega) (by simp; omega) ?_; intro v' w2 hown1 hgrow _)
                have hB1 : Below w.heap.size w w2 := (hB.alloc hz _).grown hgrow (by simp; omega) (fun g hg => (hown.lt g hg).1)
                have hown3 : w2.ownsRow w.heap.size 5 1 v' (acc ++ [s[j + 1]]).length ((acc ++ [s[j + 1]]).map u8v) := by
                  rw [List.map_append, List.length_append]
                  exact hown1
                exact ⟨⟨acc ++ [s[j + 1]], j + 2, by omega, by go_num, by simp; omega, HQ.out.symm, hown3, hB1⟩, by simp [intOf]; omega⟩
              · have d5 : ((s[j + 1].toNat : Int) != 92) = true := by rw [bne_iff_ne]; exact e2
                have hq := unqAt_back_bad s j hlt acc h92 hj1 e1 e2
                rw [HU.out] at hq
                have HQ := Lib.hid hq
                clear hq h92 h34 e1 e2
                go_wp2_with fail
                go_ret3
                refine ⟨hB, ?_⟩
                rw [HQ.out]
                rfl
          · have hj2 : j + 1 = s.size := by omega
            have d3 : (((j : Int) + 1) == (s.size : Int)) = true := by rw [beq_iff_eq]; omega
            have hq := unqAt_back_end s j hlt acc h92 hj2
            rw [HU.out] at hq
            have HQ := Lib.hid hq
            clear hq h92 h34 hj2
            go_wp2_with fail
            go_ret3
            refine ⟨hB, ?_⟩
            rw [HQ.out]
            rfl
        · have d2 : ((s[j].toNat : Int) == 92) = false := by rw [beq_eq_false_iff_ne]; exact h92
          have hq := unqAt_plain s j hlt acc h34 h92
          rw [HU.out] at hq
          have HQ := Lib.hid hq
          clear hq h92 h34
          go_wp2_with (at_builtin; refine wpList_append_own _ rfl _ _ 64 rfl w.heap.size 5 i0 (.int .u8 0) 1 1 Tryz.underlying64 hi hz0 hz1 hz2 rfl (by decide) _ _ _ rfl (hown.alloc _) ⟨wr.heap.size, 0, none⟩ 1 1 [.int .u8 (s[j].toNat : Int)] rfl rfl (cell_one_new _ _ _) (by simp [Value.oneCell']) (by simp [maxLen]; omega) (by omega) (by simp; omega) ?_; intro v' w2 hown1 hgrow _)
          have hB1 : Below w.heap.size w w2 := (hB.alloc hz _).grown hgrow (by simp; omega) (fun g hg => (hown.lt g hg).1)
          have hown3 : w2.ownsRow w.heap.size 5 1 v' (acc ++ [s[j]]).length ((acc ++ [s[j]]).map u8v) := by
            rw [List.map_append, List.length_append]
            exact hown1
          exact ⟨⟨acc ++ [s[j]], j + 1, by omega, by go_num, by simp; omega, HQ.out.symm, hown3, hB1⟩, by simp [intOf]; omega⟩
    · obtain rfl : j = s.size := by omega
      have hq := unqAt_end s acc
      rw [HU.out] at hq
      have HQ := Lib.hid hq
      clear hq
      go_wp2_with fail
      go_ret3
      refine ⟨hB, ?_⟩
      rw [HQ.out]
      rfl
end Go.Proofs.YtffoklhopmhjaaaGreatDoor

/- val.read: a value that is no list. -/
set_option linter.unusedSimpArgs false
set_option linter.unusedVariables false
namespace Go.Proofs.YtffoklhopmhjaaaGreatDoor
open Go Go.RowKit Go.Shelf

/-- what read answers -/
def readPost (r : Option (V × Nat)) (p : Nat) (W : World) (e : Ending) (W' : World) : Prop :=
  Below W.heap.size W W' ∧ match r with
    | none => e = .returned (.tuple #[valV 0 0 ⟨#[]⟩ (.slice none 0 0), .int .i64 0, .bool false])
    | some (u, k) => e = .returned (.tuple #[valV u.k u.n u.s (.slice none 0 0), .int .i64 ((p : Int) + (k : Nat)), .bool true])

set_option maxHeartbeats 4000000 in
set_option maxRecDepth 100000 in
theorem read_end (s : ByteArray) (p : Nat) (hp : s.size ≤ p) (W : World) :
    Calls Tryz.prog 34 #[.string s, .int .i64 (p : Int)] W (readPost none p W) := by
  go_enter Tryz.func34, Tryz.ntmps34
  go_wp2_with fail
  exact bodyPost_ret (v := .tuple #[valV 0 0 ⟨#[]⟩ (.slice none 0 0), .int .i64 0, .bool false]) (by simp [results, Tryz.results34, go_sem]) rfl ⟨(Below.refl _ _).alloc (Nat.le_refl _) _, rfl⟩

set_option maxHeartbeats 4000000 in
set_option maxRecDepth 100000 in
theorem read_text_none (s : ByteArray) (hs : s.size ≤ 140737488355327) (p : Nat) (hp : p < s.size) (hc : (s[p].toNat : Int) = 34) (hu : unqAt s (p + 1) [] = none) (W : World) :
    Calls Tryz.prog 34 #[.string s, .int .i64 (p : Int)] W (readPost none p W) := by
  have hq := fun w => unquote_at s hs p hp hc w
  rw [hu] at hq
  have HQ := Lib.hid hq
  have d01 : decide (s.size ≤ p) = false := decide_eq_false (by omega)
  have d02 : decide ((s.size : Int) ≤ (p : Int)) = false := decide_eq_false (by omega)
  have d1 : ((s[p].toNat : Int) == 34) = true := by rw [beq_iff_eq]; exact hc
  clear hc hu hq
  go_enter Tryz.func34, Tryz.ntmps34
  go_wp2_with fail
  refine (HQ.out _).mono ?_
  rintro e W1 ⟨hB1, rfl⟩
  have hV0 : VBox ((W.alloc (.cells #[.int .i64 0, .int .i64 0, .string ⟨#[]⟩, .slice none 0 0] 37)).alloc (.cells #[.int .i64 2, .int .i64 0, .string ⟨#[]⟩, .slice none 0 0] 37)) W.heap.size 0 0 ⟨#[]⟩ (.slice none 0 0) := (VBox.new W 0 0 ⟨#[]⟩ (.slice none 0 0)).alloc _
  have hV1 : VBox ((W.alloc (.cells #[.int .i64 0, .int .i64 0, .string ⟨#[]⟩, .slice none 0 0] 37)).alloc (.cells #[.int .i64 2, .int .i64 0, .string ⟨#[]⟩, .slice none 0 0] 37)) (W.heap.size + 1) 2 0 ⟨#[]⟩ (.slice none 0 0) := by
    have := VBox.new (W.alloc (.cells #[.int .i64 0, .int .i64 0, .string ⟨#[]⟩, .slice none 0 0] 37)) 2 0 ⟨#[]⟩ (.slice none 0 0)
    rwa [show (W.alloc (.cells #[.int .i64 0, .int .i64 0, .string ⟨#[]⟩, .slice none 0 0] 37)).heap.size = W.heap.size + 1 from by simp] at this
  have hV2 := hV0.below hB1
  have hU2 := hV1.below hB1
  have hBW := below_two' _ _ hB1
  obtain ⟨⟨v0, v1, v2, v3⟩, g0, g1, g2, g3⟩ := hU2.facts
  have hV3 := hV2.past ⟨W.heap.size + 1, 2, none⟩ (by show W.heap.size ≠ W.heap.size + 1; omega) (.string ⟨#[]⟩)
  have hBW3 := hBW.setCell (p := ⟨W.heap.size + 1, 2, none⟩) (by show W.heap.size ≤ W.heap.size + 1; omega) (.string ⟨#[]⟩)
  obtain ⟨⟨c0, c1, c2, c3⟩, f0, f1, f2, f3⟩ := hV2.facts
  have HV2 := Lib.hid hV3
  have HBW := Lib.hid hBW3
  clear hV0 hV1 hV2 hU2 hBW hV3 hBW3 hB1
  go_wp2_with fail
  have hV := HV2.out.put 0 0 ⟨#[]⟩ (.slice none 0 0)
  have hB := below_put HBW.out (b := W.heap.size) (Nat.le_refl _) 0 0 ⟨#[]⟩ (.slice none 0 0)
  unfold putBox at hV hB
  generalize ((((W1.setCell ⟨W.heap.size + 1, 2, none⟩ (.string ⟨#[]⟩)).setCell ⟨W.heap.size, 0, none⟩ (.int .i64 0)).setCell ⟨W.heap.size, 1, none⟩ (.int .i64 0)).setCell ⟨W.heap.size, 2, none⟩ (.string ⟨#[]⟩)).setCell ⟨W.heap.size, 3, none⟩ (.slice none 0 0) = W9 at hV hB ⊢
  obtain ⟨⟨e0, e1, e2, e3⟩, _⟩ := hV.facts
  exact bodyPost_ret (v := .tuple #[valV 0 0 ⟨#[]⟩ (.slice none 0 0), .int .i64 0, .bool false]) (by simp [results, Tryz.results34, go_sem, e0, e1, e2, e3]) rfl ⟨hB, rfl⟩

set_option maxHeartbeats 4000000 in
set_option maxRecDepth 100000 in
theorem read_text_true (s : ByteArray) (hs : s.size ≤ 140737488355327) (p : Nat) (hp : p < s.size) (hc : (s[p].toNat : Int) = 34) (t : List UInt8) (k : Nat) (hkp : p ≤ k) (hu : unqAt s (p + 1) [] = some (t, k)) (htl : t.length ≤ 9223372036854775807) (hf : flatOk 2 0 ⟨t.toArray⟩ 0 = true) (W : World) (hT : Tabs W) :
    Calls Tryz.prog 34 #[.string s, .int .i64 (p : Int)] W (readPost (some (.mk 2 0 ⟨t.toArray⟩ [], k - p)) p W) := by
  have hq := fun w => unquote_at s hs p hp hc w
  rw [hu] at hq
  have HQ := Lib.hid hq
  have HF := Lib.hid hf
  have hts : (⟨t.toArray⟩ : ByteArray).size ≤ 9223372036854775807 := by rw [ba_size]; exact htl
  have d01 : decide (s.size ≤ p) = false := decide_eq_false (by omega)
  have d02 : decide ((s.size : Int) ≤ (p : Int)) = false := decide_eq_false (by omega)
  have d1 : ((s[p].toNat : Int) == 34) = true := by rw [beq_iff_eq]; exact hc
  clear hc hu hq hf htl
  go_enter Tryz.func34, Tryz.ntmps34
  go_wp2_with fail
  refine (HQ.out _).mono ?_
  rintro e W1 ⟨hB1, rfl⟩
  have hV0 : VBox ((W.alloc (.cells #[.int .i64 0, .int .i64 0, .string ⟨#[]⟩, .slice none 0 0] 37)).alloc (.cells #[.int .i64 2, .int .i64 0, .string ⟨#[]⟩, .slice none 0 0] 37)) W.heap.size 0 0 ⟨#[]⟩ (.slice none 0 0) := (VBox.new W 0 0 ⟨#[]⟩ (.slice none 0 0)).alloc _
  have hV1 : VBox ((W.alloc (.cells #[.int .i64 0, .int .i64 0, .string ⟨#[]⟩, .slice none 0 0] 37)).alloc (.cells #[.int .i64 2, .int .i64 0, .string ⟨#[]⟩, .slice none 0 0] 37)) (W.heap.size + 1) 2 0 ⟨#[]⟩ (.slice none 0 0) := by
    have := VBox.new (W.alloc (.cells #[.int .i64 0, .int .i64 0, .string ⟨#[]⟩, .slice none 0 0] 37)) 2 0 ⟨#[]⟩ (.slice none 0 0)
    rwa [show (W.alloc (.cells #[.int .i64 0, .int .i64 0, .string ⟨#[]⟩, .slice none 0 0] 37)).heap.size = W.heap.size + 1 from by simp] at this
  have hV2 := hV0.below hB1
  have hU2 := hV1.below hB1
  have hBW := below_two' _ _ hB1
  obtain ⟨⟨v0, v1, v2, v3⟩, g0, g1, g2, g3⟩ := hU2.facts
  have hV3 := hV2.past ⟨W.heap.size + 1, 2, none⟩ (by show W.heap.size ≠ W.heap.size + 1; omega) (.string ⟨t.toArray⟩)
  have hU3 := hU2.set2 ⟨t.toArray⟩
  have hBW3 := hBW.setCell (p := ⟨W.heap.size + 1, 2, none⟩) (by show W.heap.size ≤ W.heap.size + 1; omega) (.string ⟨t.toArray⟩)
  have hr := right_flat 2 0 (by decide) ⟨t.toArray⟩ hts none 0 0 _ (hT.below hBW3)
  rw [HF.out] at hr
  have HV0 := Lib.hid hV3
  have HV1 := Lib.hid hU3
  have HB0 := Lib.hid hBW3
  clear hV0 hV1 hV2 hU2 hBW hV3 hBW3 hB1 hU3
  go_wp2_with fail
  refine hr.mono ?_
  rintro e W2 ⟨rfl, hB2⟩
  have hV2 := HV0.out.below hB2
  have hU2 := HV1.out.below hB2
  have hBW := HB0.out.trans (hB2.mono HB0.out.size)
  clear v0 v1 v2 v3 g0 g1 g2 g3
  obtain ⟨⟨c0, c1, c2, c3⟩, f0, f1, f2, f3⟩ := hV2.facts
  obtain ⟨⟨v0, v1, v2, v3⟩, g0, g1, g2, g3⟩ := hU2.facts
  have HV2 := Lib.hid hV2
  have HBW := Lib.hid hBW
  clear hr hB2 hV2 hU2 hBW HV0 HV1 HB0
  go_wp2_with fail
  have hV := HV2.out.put 2 0 ⟨t.toArray⟩ (.slice none 0 0)
  have hB := below_put HBW.out (b := W.heap.size) (Nat.le_refl _) 2 0 ⟨t.toArray⟩ (.slice none 0 0)
  unfold putBox at hV hB
  generalize (((W2.setCell ⟨W.heap.size, 0, none⟩ (.int .i64 2)).setCell ⟨W.heap.size, 1, none⟩ (.int .i64 0)).setCell ⟨W.heap.size, 2, none⟩ (.string ⟨t.toArray⟩)).setCell ⟨W.heap.size, 3, none⟩ (.slice none 0 0) = W9 at hV hB ⊢
  obtain ⟨⟨e0, e1, e2, e3⟩, _⟩ := hV.facts
  exact bodyPost_ret (v := .tuple #[valV 2 0 ⟨t.toArray⟩ (.slice none 0 0), .int .i64 (k : Int), .bool true]) (by simp [results, Tryz.results34, go_sem, e0, e1, e2, e3]) rfl ⟨hB, by show _ = Ending.returned (.tuple #[valV 2 0 ⟨t.toArray⟩ (.slice none 0 0), .int .i64 ((p : Int) + ((k - p : Nat) : Int)), .bool true]); rw [show (p : Int) + ((k - p : Nat) : Int) = k from by omega]⟩

set_option maxHeartbeats 4000000 in
set_option maxRecDepth 100000 in
theorem read_text_false (s : ByteArray) (hs : s.size ≤ 140737488355327) (p : Nat) (hp : p < s.size) (hc : (s[p].toNat : Int) = 34) (t : List UInt8) (k : Nat) (hkp : p ≤ k) (hu : unqAt s (p + 1) [] = some (t, k)) (htl : t.length ≤ 9223372036854775807) (hf : flatOk 2 0 ⟨t.toArray⟩ 0 = false) (W : World) (hT : Tabs W) :
    Calls Tryz.prog 34 #[.string s, .int .i64 (p : Int)] W (readPost none p W) := by
  have hq := fun w => unquote_at s hs p hp hc w
  rw [hu] at hq
  have HQ := Lib.hid hq
  have HF := Lib.hid hf
  have hts : (⟨t.toArray⟩ : ByteArray).size ≤ 9223372036854775807 := by rw [ba_size]; exact htl
  have d01 : decide (s.size ≤ p) = false := decide_eq_false (by omega)
  have d02 : decide ((s.size : Int) ≤ (p : Int)) = false := decide_eq_false (by omega)
  have d1 : ((s[p].toNat : Int) == 34) = true := by rw [beq_iff_eq]; exact hc
  clear hc hu hq hf htl
  go_enter Tryz.func34, Tryz.ntmps34
  go_wp2_with fail
  refine (HQ.out _).mono ?_
  rintro e W1 ⟨hB1, rfl⟩
  have hV0 : VBox ((W.alloc (.cells #[.int .i64 0, .int .i64 0, .string ⟨#[]⟩, .slice none 0 0] 37)).alloc (.cells #[.int .i64 2, .int .i64 0, .string ⟨#[]⟩, .slice none 0 0] 37)) W.heap.size 0 0 ⟨#[]⟩ (.slice none 0 0) := (VBox.new W 0 0 ⟨#[]⟩ (.slice none 0 0)).alloc _
  have hV1 : VBox ((W.alloc (.cells #[.int .i64 0, .int .i64 0, .string ⟨#[]⟩, .slice none 0 0] 37)).alloc (.cells #[.int .i64 2, .int .i64 0, .string ⟨#[]⟩, .slice none 0 0] 37)) (W.heap.size + 1) 2 0 ⟨#[]⟩ (.slice none 0 0) := by
    have := VBox.new (W.alloc (.cells #[.int .i64 0, .int .i64 0, .string ⟨#[]⟩, .slice none 0 0] 37)) 2 0 ⟨#[]⟩ (.slice none 0 0)
    rwa [show (W.alloc (.cells #[.int .i64 0, .int .i64 0, .string ⟨#[]⟩, .slice none 0 0] 37)).heap.size = W.heap.size + 1 from by simp] at this
  have hV2 := hV0.below hB1
  have hU2 := hV1.below hB1
  have hBW := below_two' _ _ hB1
  obtain ⟨⟨v0, v1, v2, v3⟩, g0, g1, g2, g3⟩ := hU2.facts
  have hV3 := hV2.past ⟨W.heap.size + 1, 2, none⟩ (by show W.heap.size ≠ W.heap.size + 1; omega) (.string ⟨t.toArray⟩)
  have hU3 := hU2.set2 ⟨t.toArray⟩
  have hBW3 := hBW.setCell (p := ⟨W.heap.size + 1, 2, none⟩) (by show W.heap.size ≤ W.heap.size + 1; omega) (.string ⟨t.toArray⟩)
  have hr := right_flat 2 0 (by decide) ⟨t.toArray⟩ hts none 0 0 _ (hT.below hBW3)
  rw [HF.out] at hr
  have HV0 := Lib.hid hV3
  have HV1 := Lib.hid hU3
  have HB0 := Lib.hid hBW3
  clear hV0 hV1 hV2 hU2 hBW hV3 hBW3 hB1 hU3
  go_wp2_with fail
  refine hr.mono ?_
  rintro e W2 ⟨rfl, hB2⟩
  have hV2 := HV0.out.below hB2
  have hU2 := HV1.out.below hB2
  have hBW := HB0.out.trans (hB2.mono HB0.out.size)
  clear v0 v1 v2 v3 g0 g1 g2 g3
  obtain ⟨⟨c0, c1, c2, c3⟩, f0, f1, f2, f3⟩ := hV2.facts
  obtain ⟨⟨v0, v1, v2, v3⟩, g0, g1, g2, g3⟩ := hU2.facts
  have HV2 := Lib.hid hV2
  have HBW := Lib.hid hBW
  clear hr hB2 hV2 hU2 hBW HV0 HV1 HB0
  go_wp2_with fail
  have hV := HV2.out.put 0 0 ⟨#[]⟩ (.slice none 0 0)
  have hB := below_put HBW.out (b := W.heap.size) (Nat.le_refl _) 0 0 ⟨#[]⟩ (.slice none 0 0)
  unfold putBox at hV hB
  generalize (((W2.setCell ⟨W.heap.size, 0, none⟩ (.int .i64 0)).setCell ⟨W.heap.size, 1, none⟩ (.int .i64 0)).setCell ⟨W.heap.size, 2, none⟩ (.string ⟨#[]⟩)).setCell ⟨W.heap.size, 3, none⟩ (.slice none 0 0) = W9 at hV hB ⊢
  obtain ⟨⟨e0, e1, e2, e3⟩, _⟩ := hV.facts
  exact bodyPost_ret (v := .tuple #[valV 0 0 ⟨#[]⟩ (.slice none 0 0), .int .i64 0, .bool false]) (by simp [results, Tryz.results34, go_sem, e0, e1, e2, e3]) rfl ⟨hB, rfl⟩

set_option maxHeartbeats 4000000 in
set_option maxRecDepth 100000 in
theorem read_ref_none (s : ByteArray) (hs : s.size ≤ 140737488355327) (p : Nat) (hp : p < s.size) (hc : (s[p].toNat : Int) = 64) (n : Int) (k : Nat) (hx : numTxt (-20) 100000 (s.data.toList.drop (p + 1)) = (n, k, false)) (W : World) :
    Calls Tryz.prog 34 #[.string s, .int .i64 (p : Int)] W (readPost none p W) := by
  have hq := fun w => readNum_txt s hs (p + 1) (by omega) (-20) 100000 (by decide) (by decide) (by decide) (by decide) w
  rw [hx] at hq
  unfold readNumE at hq
  rw [show ((p + 1 : Nat) : Int) = (p : Int) + 1 from by omega] at hq
  simp only at hq
  have HQ := Lib.hid hq
  have d01 : decide (s.size ≤ p) = false := decide_eq_false (by omega)
  have d02 : decide ((s.size : Int) ≤ (p : Int)) = false := decide_eq_false (by omega)
  have d0 : ((s[p].toNat : Int) == 34) = false := by rw [beq_eq_false_iff_ne]; omega
  have d1 : ((s[p].toNat : Int) == 64) = true := by rw [beq_iff_eq]; exact hc
  clear hc hx hq
  go_enter Tryz.func34, Tryz.ntmps34
  go_wp2_with fail
  refine (HQ.out _).mono ?_
  rintro e W1 ⟨rfl, rfl⟩
  go_wp2_with fail
  exact bodyPost_ret (v := .tuple #[valV 0 0 ⟨#[]⟩ (.slice none 0 0), .int .i64 0, .bool false]) (by simp [results, Tryz.results34, go_sem]) rfl ⟨below_two _ _, rfl⟩

set_option maxHeartbeats 4000000 in
set_option maxRecDepth 100000 in
theorem read_ref_true (s : ByteArray) (hs : s.size ≤ 140737488355327) (p : Nat) (hp : p < s.size) (hc : (s[p].toNat : Int) = 64) (n : Int) (k : Nat) (hx : numTxt (-20) 100000 (s.data.toList.drop (p + 1)) = (n, k, true)) (hf : flatOk 3 n ⟨#[]⟩ 0 = true) (W : World) (hT : Tabs W) :
    Calls Tryz.prog 34 #[.string s, .int .i64 (p : Int)] W (readPost (some (.mk 3 n ⟨#[]⟩ [], k + 1)) p W) := by
  have HF := Lib.hid hf
  clear hf
  have hq := fun w => readNum_txt s hs (p + 1) (by omega) (-20) 100000 (by decide) (by decide) (by decide) (by decide) w
  rw [hx] at hq
  unfold readNumE at hq
  rw [show ((p + 1 : Nat) : Int) = (p : Int) + 1 from by omega] at hq
  simp only at hq
  have HQ := Lib.hid hq
  have d01 : decide (s.size ≤ p) = false := decide_eq_false (by omega)
  have d02 : decide ((s.size : Int) ≤ (p : Int)) = false := decide_eq_false (by omega)
  have d0 : ((s[p].toNat : Int) == 34) = false := by rw [beq_eq_false_iff_ne]; omega
  have d1 : ((s[p].toNat : Int) == 64) = true := by rw [beq_iff_eq]; exact hc
  clear hc hx hq
  have hr := right_flat 3 n (by decide) ⟨#[]⟩ (by decide) none 0 0 _ (hT.below (below_two (.cells #[.int .i64 0, .int .i64 0, .string ⟨#[]⟩, .slice none 0 0] 37) (.cells #[.int .i64 3, .int .i64 n, .string ⟨#[]⟩, .slice none 0 0] 37)))
  rw [HF.out] at hr
  have hV0 : VBox ((W.alloc (.cells #[.int .i64 0, .int .i64 0, .string ⟨#[]⟩, .slice none 0 0] 37)).alloc (.cells #[.int .i64 3, .int .i64 n, .string ⟨#[]⟩, .slice none 0 0] 37)) W.heap.size 0 0 ⟨#[]⟩ (.slice none 0 0) := (VBox.new W 0 0 ⟨#[]⟩ (.slice none 0 0)).alloc _
  have hV1 : VBox ((W.alloc (.cells #[.int .i64 0, .int .i64 0, .string ⟨#[]⟩, .slice none 0 0] 37)).alloc (.cells #[.int .i64 3, .int .i64 n, .string ⟨#[]⟩, .slice none 0 0] 37)) (W.heap.size + 1) 3 n ⟨#[]⟩ (.slice none 0 0) := by
    have := VBox.new (W.alloc (.cells #[.int .i64 0, .int .i64 0, .string ⟨#[]⟩, .slice none 0 0] 37)) 3 n ⟨#[]⟩ (.slice none 0 0)
    rwa [show (W.alloc (.cells #[.int .i64 0, .int .i64 0, .string ⟨#[]⟩, .slice none 0 0] 37)).heap.size = W.heap.size + 1 from by simp] at this
  have HV0 := Lib.hid hV0
  have HV1 := Lib.hid hV1
  clear hV0 hV1
  go_enter Tryz.func34, Tryz.ntmps34
  go_wp2_with fail
  refine (HQ.out _).mono ?_
  rintro e W1 ⟨rfl, rfl⟩
  go_wp2_with fail
  refine hr.mono ?_
  rintro e W2 ⟨rfl, hB2⟩
  have hV2 := HV0.out.below hB2
  have hU2 := HV1.out.below hB2
  have hBW := below_two' _ _ hB2
  obtain ⟨⟨c0, c1, c2, c3⟩, f0, f1, f2, f3⟩ := hV2.facts
  obtain ⟨⟨v0, v1, v2, v3⟩, g0, g1, g2, g3⟩ := hU2.facts
  have HV2 := Lib.hid hV2
  have HBW := Lib.hid hBW
  clear hr hB2 hV2 hU2 hBW
  go_wp2_with fail
  have hV := HV2.out.put 3 n ⟨#[]⟩ (.slice none 0 0)
  have hB := below_put HBW.out (b := W.heap.size) (Nat.le_refl _) 3 n ⟨#[]⟩ (.slice none 0 0)
  unfold putBox at hV hB
  generalize (((W2.setCell ⟨W.heap.size, 0, none⟩ (.int .i64 3)).setCell ⟨W.heap.size, 1, none⟩ (.int .i64 n)).setCell ⟨W.heap.size, 2, none⟩ (.string ⟨#[]⟩)).setCell ⟨W.heap.size, 3, none⟩ (.slice none 0 0) = W9 at hV hB ⊢
  obtain ⟨⟨e0, e1, e2, e3⟩, _⟩ := hV.facts
  exact bodyPost_ret (v := .tuple #[valV 3 n ⟨#[]⟩ (.slice none 0 0), .int .i64 (((p : Int) + 1) + (k : Nat)), .bool true]) (by simp [results, Tryz.results34, go_sem, e0, e1, e2, e3]) rfl ⟨hB, by show _ = Ending.returned (.tuple #[valV 3 n ⟨#[]⟩ (.slice none 0 0), .int .i64 ((p : Int) + ((k + 1 : Nat) : Int)), .bool true]); rw [show (p : Int) + ((k + 1 : Nat) : Int) = (p : Int) + 1 + (k : Nat) from by omega]⟩

set_option maxHeartbeats 4000000 in
set_option maxRecDepth 100000 in
theorem read_ref_false (s : ByteArray) (hs : s.size ≤ 140737488355327) (p : Nat) (hp : p < s.size) (hc : (s[p].toNat : Int) = 64) (n : Int) (k : Nat) (hx : numTxt (-20) 100000 (s.data.toList.drop (p + 1)) = (n, k, true)) (hf : flatOk 3 n ⟨#[]⟩ 0 = false) (W : World) (hT : Tabs W) :
    Calls Tryz.prog 34 #[.string s, .int .i64 (p : Int)] W (readPost none p W) := by
  have HF := Lib.hid hf
  clear hf
  have hq := fun w => readNum_txt s hs (p + 1) (by omega) (-20) 100000 (by decide) (by decide) (by decide) (by decide) w
  rw [hx] at hq
  unfold readNumE at hq
  rw [show ((p + 1 : Nat) : Int) = (p : Int) + 1 from by omega] at hq
  simp only at hq
  have HQ := Lib.hid hq
  have d01 : decide (s.size ≤ p) = false := decide_eq_false (by omega)
  have d02 : decide ((s.size : Int) ≤ (p : Int)) = false := decide_eq_false (by omega)
  have d0 : ((s[p].toNat : Int) == 34) = false := by rw [beq_eq_false_iff_ne]; omega
  have d1 : ((s[p].toNat : Int) == 64) = true := by rw [beq_iff_eq]; exact hc
  clear hc hx hq
  have hr := right_flat 3 n (by decide) ⟨#[]⟩ (by decide) none 0 0 _ (hT.below (below_two (.cells #[.int .i64 0, .int .i64 0, .string ⟨#[]⟩, .slice none 0 0] 37) (.cells #[.int .i64 3, .int .i64 n, .string ⟨#[]⟩, .slice none 0 0] 37)))
  rw [HF.out] at hr
  have hV0 : VBox ((W.alloc (.cells #[.int .i64 0, .int .i64 0, .string ⟨#[]⟩, .slice none 0 0] 37)).alloc (.cells #[.int .i64 3, .int .i64 n, .string ⟨#[]⟩, .slice none 0 0] 37)) W.heap.size 0 0 ⟨#[]⟩ (.slice none 0 0) := (VBox.new W 0 0 ⟨#[]⟩ (.slice none 0 0)).alloc _
  have hV1 : VBox ((W.alloc (.cells #[.int .i64 0, .int .i64 0, .string ⟨#[]⟩, .slice none 0 0] 37)).alloc (.cells #[.int .i64 3, .int .i64 n, .string ⟨#[]⟩, .slice none 0 0] 37)) (W.heap.size + 1) 3 n ⟨#[]⟩ (.slice none 0 0) := by
    have := VBox.new (W.alloc (.cells #[.int .i64 0, .int .i64 0, .string ⟨#[]⟩, .slice none 0 0] 37)) 3 n ⟨#[]⟩ (.slice none 0 0)
    rwa [show (W.alloc (.cells #[.int .i64 0, .int .i64 0, .string ⟨#[]⟩, .slice none 0 0] 37)).heap.size = W.heap.size + 1 from by simp] at this
  have HV0 := Lib.hid hV0
  have HV1 := Lib.hid hV1
  clear hV0 hV1
  go_enter Tryz.func34, Tryz.ntmps34
  go_wp2_with fail
  refine (HQ.out _).mono ?_
  rintro e W1 ⟨rfl, rfl⟩
  go_wp2_with fail
  refine hr.mono ?_
  rintro e W2 ⟨rfl, hB2⟩
  have hV2 := HV0.out.below hB2
  have hU2 := HV1.out.below hB2
  have hBW := below_two' _ _ hB2
  obtain ⟨⟨c0, c1, c2, c3⟩, f0, f1, f2, f3⟩ := hV2.facts
  obtain ⟨⟨v0, v1, v2, v3⟩, g0, g1, g2, g3⟩ := hU2.facts
  have HV2 := Lib.hid hV2
  have HBW := Lib.hid hBW
  clear hr hB2 hV2 hU2 hBW
  go_wp2_with fail
  have hV := HV2.out.put 0 0 ⟨#[]⟩ (.slice none 0 0)
  have hB := below_put HBW.out (b := W.heap.size) (Nat.le_refl _) 0 0 ⟨#[]⟩ (.slice none 0 0)
  unfold putBox at hV hB
  generalize (((W2.setCell ⟨W.heap.size, 0, none⟩ (.int .i64 0)).setCell ⟨W.heap.size, 1, none⟩ (.int .i64 0)).setCell ⟨W.heap.size, 2, none⟩ (.string ⟨#[]⟩)).setCell ⟨W.heap.size, 3, none⟩ (.slice none 0 0) = W9 at hV hB ⊢
  obtain ⟨⟨e0, e1, e2, e3⟩, _⟩ := hV.facts
  exact bodyPost_ret (v := .tuple #[valV 0 0 ⟨#[]⟩ (.slice none 0 0), .int .i64 0, .bool false]) (by simp [results, Tryz.results34, go_sem, e0, e1, e2, e3]) rfl ⟨hB, rfl⟩

set_option maxHeartbeats 4000000 in
set_option maxRecDepth 100000 in
theorem read_weak_none (s : ByteArray) (hs : s.size ≤ 140737488355327) (p : Nat) (hp : p < s.size) (hc : (s[p].toNat : Int) = 126) (n : Int) (k : Nat) (hx : numTxt (-20) 100000 (s.data.toList.drop (p + 1)) = (n, k, false)) (W : World) :
    Calls Tryz.prog 34 #[.string s, .int .i64 (p : Int)] W (readPost none p W) := by
  have hq := fun w => readNum_txt s hs (p + 1) (by omega) (-20) 100000 (by decide) (by decide) (by decide) (by decide) w
  rw [hx] at hq
  unfold readNumE at hq
  rw [show ((p + 1 : Nat) : Int) = (p : Int) + 1 from by omega] at hq
  simp only at hq
  have HQ := Lib.hid hq
  have d01 : decide (s.size ≤ p) = false := decide_eq_false (by omega)
  have d02 : decide ((s.size : Int) ≤ (p : Int)) = false := decide_eq_false (by omega)
  have d0 : ((s[p].toNat : Int) == 34) = false := by rw [beq_eq_false_iff_ne]; omega
  have d1 : ((s[p].toNat : Int) == 64) = false := by rw [beq_eq_false_iff_ne]; omega
  have d2 : ((s[p].toNat : Int) == 126) = true := by rw [beq_iff_eq]; exact hc
  clear hc hx hq
  go_enter Tryz.func34, Tryz.ntmps34
  go_wp2_with fail
  refine (HQ.out _).mono ?_
  rintro e W1 ⟨rfl, rfl⟩
  go_wp2_with fail
  exact bodyPost_ret (v := .tuple #[valV 0 0 ⟨#[]⟩ (.slice none 0 0), .int .i64 0, .bool false]) (by simp [results, Tryz.results34, go_sem]) rfl ⟨below_two _ _, rfl⟩

set_option maxHeartbeats 4000000 in
set_option maxRecDepth 100000 in
theorem read_weak_true (s : ByteArray) (hs : s.size ≤ 140737488355327) (p : Nat) (hp : p < s.size) (hc : (s[p].toNat : Int) = 126) (n : Int) (k : Nat) (hx : numTxt (-20) 100000 (s.data.toList.drop (p + 1)) = (n, k, true)) (hf : flatOk 4 n ⟨#[]⟩ 0 = true) (W : World) (hT : Tabs W) :
    Calls Tryz.prog 34 #[.string s, .int .i64 (p : Int)] W (readPost (some (.mk 4 n ⟨#[]⟩ [], k + 1)) p W) := by
  have HF := Lib.hid hf
  clear hf
  have hq := fun w => readNum_txt s hs (p + 1) (by omega) (-20) 100000 (by decide) (by decide) (by decide) (by decide) w
  rw [hx] at hq
  unfold readNumE at hq
  rw [show ((p + 1 : Nat) : Int) = (p : Int) + 1 from by omega] at hq
  simp only at hq
  have HQ := Lib.hid hq
  have d01 : decide (s.size ≤ p) = false := decide_eq_false (by omega)
  have d02 : decide ((s.size : Int) ≤ (p : Int)) = false := decide_eq_false (by omega)
  have d0 : ((s[p].toNat : Int) == 34) = false := by rw [beq_eq_false_iff_ne]; omega
  have d1 : ((s[p].toNat : Int) == 64) = false := by rw [beq_eq_false_iff_ne]; omega
  have d2 : ((s[p].toNat : Int) == 126) = true := by rw [beq_iff_eq]; exact hc
  clear hc hx hq
  have hr := right_flat 4 n (by decide) ⟨#[]⟩ (by decide) none 0 0 _ (hT.below (below_two (.cells #[.int .i64 0, .int .i64 0, .string ⟨#[]⟩, .slice none 0 0] 37) (.cells #[.int .i64 4, .int .i64 n, .string ⟨#[]⟩, .slice none 0 0] 37)))
  rw [HF.out] at hr
  have hV0 : VBox ((W.alloc (.cells #[.int .i64 0, .int .i64 0, .string ⟨#[]⟩, .slice none 0 0] 37)).alloc (.cells #[.int .i64 4, .int .i64 n, .string ⟨#[]⟩, .slice none 0 0] 37)) W.heap.size 0 0 ⟨#[]⟩ (.slice none 0 0) := (VBox.new W 0 0 ⟨#[]⟩ (.slice none 0 0)).alloc _
  have hV1 : VBox ((W.alloc (.cells #[.int .i64 0, .int .i64 0, .string ⟨#[]⟩, .slice none 0 0] 37)).alloc (.cells #[.int .i64 4, .int .i64 n, .string ⟨#[]⟩, .slice none 0 0] 37)) (W.heap.size + 1) 4 n ⟨#[]⟩ (.slice none 0 0) := by
    have := VBox.new (W.alloc (.cells #[.int .i64 0, .int .i64 0, .string ⟨#[]⟩, .slice none 0 0] 37)) 4 n ⟨#[]⟩ (.slice none 0 0)
    rwa [show (W.alloc (.cells #[.int .i64 0, .int .i64 0, .string ⟨#[]⟩, .slice none 0 0] 37)).heap.size = W.heap.size + 1 from by simp] at this
  have HV0 := Lib.hid hV0
  have HV1 := Lib.hid hV1
  clear hV0 hV1
  go_enter Tryz.func34, Tryz.ntmps34
  go_wp2_with fail
  refine (HQ.out _).mono ?_
  rintro e W1 ⟨rfl, rfl⟩
  go_wp2_with fail
  refine hr.mono ?_
  rintro e W2 ⟨rfl, hB2⟩
  have hV2 := HV0.out.below hB2
  have hU2 := HV1.out.below hB2
  have hBW := below_two' _ _ hB2
  obtain ⟨⟨c0, c1, c2, c3⟩, f0, f1, f2, f3⟩ := hV2.facts
  obtain ⟨⟨v0, v1, v2, v3⟩, g0, g1, g2, g3⟩ := hU2.facts
  have HV2 := Lib.hid hV2
  have HBW := Lib.hid hBW
  clear hr hB2 hV2 hU2 hBW
  go_wp2_with fail
  have hV := HV2.out.put 4 n ⟨#[]⟩ (.slice none 0 0)
  have hB := below_put HBW.out (b := W.heap.size) (Nat.le_refl _) 4 n ⟨#[]⟩ (.slice none 0 0)
  unfold putBox at hV hB
  generalize (((W2.setCell ⟨W.heap.size, 0, none⟩ (.int .i64 4)).setCell ⟨W.heap.size, 1, none⟩ (.int .i64 n)).setCell ⟨W.heap.size, 2, none⟩ (.string ⟨#[]⟩)).setCell ⟨W.heap.size, 3, none⟩ (.slice none 0 0) = W9 at hV hB ⊢
  obtain ⟨⟨e0, e1, e2, e3⟩, _⟩ := hV.facts
  exact bodyPost_ret (v := .tuple #[valV 4 n ⟨#[]⟩ (.slice none 0 0), .int .i64 (((p : Int) + 1) + (k : Nat)), .bool true]) (by simp [results, Tryz.results34, go_sem, e0, e1, e2, e3]) rfl ⟨hB, by show _ = Ending.returned (.tuple #[valV 4 n ⟨#[]⟩ (.slice none 0 0), .int .i64 ((p : Int) + ((k + 1 : Nat) : Int)), .bool true]); rw [show (p : Int) + ((k + 1 : Nat) : Int) = (p : Int) + 1 + (k : Nat) from by omega]⟩

set_option maxHeartbeats 4000000 in
set_option maxRecDepth 100000 in
theorem read_weak_false (s : ByteArray) (hs : s.size ≤ 140737488355327) (p : Nat) (hp : p < s.size) (hc : (s[p].toNat : Int) = 126) (n : Int) (k : Nat) (hx : numTxt (-20) 100000 (s.data.toList.drop (p + 1)) = (n, k, true)) (hf : flatOk 4 n ⟨#[]⟩ 0 = false) (W : World) (hT : Tabs W) :
    Calls Tryz.prog 34 #[.string s, .int .i64 (p : Int)] W (readPost none p W) := by
  have HF := Lib.hid hf
  clear hf
  have hq := fun w => readNum_txt s hs (p + 1) (by omega) (-20) 100000 (by decide) (by decide) (by decide) (by decide) w
  rw [hx] at hq
  unfold readNumE at hq
  rw [show ((p + 1 : Nat) : Int) = (p : Int) + 1 from by omega] at hq
  simp only at hq
  have HQ := Lib.hid hq
  have d01 : decide (s.size ≤ p) = false := decide_eq_false (by omega)
  have d02 : decide ((s.size : Int) ≤ (p : Int)) = false := decide_eq_false (by omega)
  have d0 : ((s[p].toNat : Int) == 34) = false := by rw [beq_eq_false_iff_ne]; omega
  have d1 : ((s[p].toNat : Int) == 64) = false := by rw [beq_eq_false_iff_ne]; omega
  have d2 : ((s[p].toNat : Int) == 126) = true := by rw [beq_iff_eq]; exact hc
  clear hc hx hq
  have hr := right_flat 4 n (by decide) ⟨#[]⟩ (by decide) none 0 0 _ (hT.below (below_two (.cells #[.int .i64 0, .int .i64 0, .string ⟨#[]⟩, .slice none 0 0] 37) (.cells #[.int .i64 4, .int .i64 n, .string ⟨#[]⟩, .slice none 0 0] 37)))
  rw [HF.out] at hr
  have hV0 : VBox ((W.alloc (.cells #[.int .i64 0, .int .i64 0, .string ⟨#[]⟩, .slice none 0 0] 37)).alloc (.cells #[.int .i64 4, .int .i64 n, .string ⟨#[]⟩, .slice none 0 0] 37)) W.heap.size 0 0 ⟨#[]⟩ (.slice none 0 0) := (VBox.new W 0 0 ⟨#[]⟩ (.slice none 0 0)).alloc _
  have hV1 : VBox ((W.alloc (.cells #[.int .i64 0, .int .i64 0, .string ⟨#[]⟩, .slice none 0 0] 37)).alloc (.cells #[.int .i64 4, .int .i64 n, .string ⟨#[]⟩, .slice none 0 0] 37)) (W.heap.size + 1) 4 n ⟨#[]⟩ (.slice none 0 0) := by
    have := VBox.new (W.alloc (.cells #[.int .i64 0, .int .i64 0, .string ⟨#[]⟩, .slice none 0 0] 37)) 4 n ⟨#[]⟩ (.slice none 0 0)
    rwa [show (W.alloc (.cells #[.int .i64 0, .int .i64 0, .string ⟨#[]⟩, .slice none 0 0] 37)).heap.size = W.heap.size + 1 from by simp] at this
  have HV0 := Lib.hid hV0
  have HV1 := Lib.hid hV1
  clear hV0 hV1
  go_enter Tryz.func34, Tryz.ntmps34
  go_wp2_with fail
  refine (HQ.out _).mono ?_
  rintro e W1 ⟨rfl, rfl⟩
  go_wp2_with fail
  refine hr.mono ?_
  rintro e W2 ⟨rfl, hB2⟩
  have hV2 := HV0.out.below hB2
  have hU2 := HV1.out.below hB2
  have hBW := below_two' _ _ hB2
  obtain ⟨⟨c0, c1, c2, c3⟩, f0, f1, f2, f3⟩ := hV2.facts
  obtain ⟨⟨v0, v1, v2, v3⟩, g0, g1, g2, g3⟩ := hU2.facts
  have HV2 := Lib.hid hV2
  have HBW := Lib.hid hBW
  clear hr hB2 hV2 hU2 hBW
  go_wp2_with fail
  have hV := HV2.out.put 0 0 ⟨#[]⟩ (.slice none 0 0)
  have hB := below_put HBW.out (b := W.heap.size) (Nat.le_refl _) 0 0 ⟨#[]⟩ (.slice none 0 0)
  unfold putBox at hV hB
  generalize (((W2.setCell ⟨W.heap.size, 0, none⟩ (.int .i64 0)).setCell ⟨W.heap.size, 1, none⟩ (.int .i64 0)).setCell ⟨W.heap.size, 2, none⟩ (.string ⟨#[]⟩)).setCell ⟨W.heap.size, 3, none⟩ (.slice none 0 0) = W9 at hV hB ⊢
  obtain ⟨⟨e0, e1, e2, e3⟩, _⟩ := hV.facts
  exact bodyPost_ret (v := .tuple #[valV 0 0 ⟨#[]⟩ (.slice none 0 0), .int .i64 0, .bool false]) (by simp [results, Tryz.results34, go_sem, e0, e1, e2, e3]) rfl ⟨hB, rfl⟩

set_option maxHeartbeats 4000000 in
set_option maxRecDepth 100000 in
theorem read_num_none (s : ByteArray) (hs : s.size ≤ 140737488355327) (p : Nat) (hp : p < s.size) (hc : (s[p].toNat : Int) ≠ 34 ∧ (s[p].toNat : Int) ≠ 64 ∧ (s[p].toNat : Int) ≠ 126) (h45 : (s[p].toNat : Int) ≠ 45) (n : Int) (k : Nat) (hx : numTxt (-1000000000000000) 1000000000000000 (s.data.toList.drop (p)) = (n, k, false)) (W : World) :
    Calls Tryz.prog 34 #[.string s, .int .i64 (p : Int)] W (readPost none p W) := by
  have d9 : ((s[p].toNat : Int) == 45) = false := by rw [beq_eq_false_iff_ne]; exact h45
  clear h45
  have hq := fun w => readNum_txt s hs (p) (by omega) (-1000000000000000) 1000000000000000 (by decide) (by decide) (by decide) (by decide) w
  rw [hx] at hq
  unfold readNumE at hq
  simp only at hq
  have HQ := Lib.hid hq
  have d01 : decide (s.size ≤ p) = false := decide_eq_false (by omega)
  have d02 : decide ((s.size : Int) ≤ (p : Int)) = false := decide_eq_false (by omega)
  have d0 : ((s[p].toNat : Int) == 34) = false := by rw [beq_eq_false_iff_ne]; omega
  have d1 : ((s[p].toNat : Int) == 64) = false := by rw [beq_eq_false_iff_ne]; omega
  have d2 : ((s[p].toNat : Int) == 126) = false := by rw [beq_eq_false_iff_ne]; omega
  clear hc hx hq
  go_enter Tryz.func34, Tryz.ntmps34
  go_wp2_with fail
  refine (HQ.out _).mono ?_
  rintro e W1 ⟨rfl, rfl⟩
  go_wp2_with fail
  exact bodyPost_ret (v := .tuple #[valV 0 0 ⟨#[]⟩ (.slice none 0 0), .int .i64 0, .bool false]) (by simp [results, Tryz.results34, go_sem]) rfl ⟨below_two _ _, rfl⟩

set_option maxHeartbeats 4000000 in
set_option maxRecDepth 100000 in
theorem read_num_nil (s : ByteArray) (hs : s.size ≤ 140737488355327) (p : Nat) (hp : p < s.size) (hc : (s[p].toNat : Int) ≠ 34 ∧ (s[p].toNat : Int) ≠ 64 ∧ (s[p].toNat : Int) ≠ 126) (h45 : (s[p].toNat : Int) = 45) (n : Int) (k : Nat) (hx : numTxt (-1000000000000000) 1000000000000000 (s.data.toList.drop (p)) = (n, k, false)) (W : World) :
    Calls Tryz.prog 34 #[.string s, .int .i64 (p : Int)] W (readPost (some (.mk 0 0 ⟨#[]⟩ [], 1)) p W) := by
  have d9 : ((s[p].toNat : Int) == 45) = true := by rw [beq_iff_eq]; exact h45
  have hq := fun w => readNum_txt s hs (p) (by omega) (-1000000000000000) 1000000000000000 (by decide) (by decide) (by decide) (by decide) w
  rw [hx] at hq
  unfold readNumE at hq
  simp only at hq
  have HQ := Lib.hid hq
  have d01 : decide (s.size ≤ p) = false := decide_eq_false (by omega)
  have d02 : decide ((s.size : Int) ≤ (p : Int)) = false := decide_eq_false (by omega)
  have d0 : ((s[p].toNat : Int) == 34) = false := by rw [beq_eq_false_iff_ne]; omega
  have d1 : ((s[p].toNat : Int) == 64) = false := by rw [beq_eq_false_iff_ne]; omega
  have d2 : ((s[p].toNat : Int) == 126) = false := by rw [beq_eq_false_iff_ne]; omega
  clear hc hx hq
  clear h45
  go_enter Tryz.func34, Tryz.ntmps34
  go_wp2_with fail
  refine (HQ.out _).mono ?_
  rintro e W1 ⟨rfl, rfl⟩
  go_wp2_with fail
  exact bodyPost_ret (v := .tuple #[valV 0 0 ⟨#[]⟩ (.slice none 0 0), .int .i64 ((p : Int) + 1), .bool true]) (by simp [results, Tryz.results34, go_sem]) rfl ⟨below_two _ _, rfl⟩

set_option maxHeartbeats 4000000 in
set_option maxRecDepth 100000 in
theorem read_num_true (s : ByteArray) (hs : s.size ≤ 140737488355327) (p : Nat) (hp : p < s.size) (hc : (s[p].toNat : Int) ≠ 34 ∧ (s[p].toNat : Int) ≠ 64 ∧ (s[p].toNat : Int) ≠ 126) (n : Int) (k : Nat) (hx : numTxt (-1000000000000000) 1000000000000000 (s.data.toList.drop (p)) = (n, k, true)) (hf : flatOk 1 n ⟨#[]⟩ 0 = true) (W : World) (hT : Tabs W) :
    Calls Tryz.prog 34 #[.string s, .int .i64 (p : Int)] W (readPost (some (.mk 1 n ⟨#[]⟩ [], k)) p W) := by
  have HF := Lib.hid hf
  clear hf
  have hq := fun w => readNum_txt s hs (p) (by omega) (-1000000000000000) 1000000000000000 (by decide) (by decide) (by decide) (by decide) w
  rw [hx] at hq
  unfold readNumE at hq
  simp only at hq
  have HQ := Lib.hid hq
  have d01 : decide (s.size ≤ p) = false := decide_eq_false (by omega)
  have d02 : decide ((s.size : Int) ≤ (p : Int)) = false := decide_eq_false (by omega)
  have d0 : ((s[p].toNat : Int) == 34) = false := by rw [beq_eq_false_iff_ne]; omega
  have d1 : ((s[p].toNat : Int) == 64) = false := by rw [beq_eq_false_iff_ne]; omega
  have d2 : ((s[p].toNat : Int) == 126) = false := by rw [beq_eq_false_iff_ne]; omega
  clear hc hx hq
  have hr := right_flat 1 n (by decide) ⟨#[]⟩ (by decide) none 0 0 _ (hT.below (below_two (.cells #[.int .i64 0, .int .i64 0, .string ⟨#[]⟩, .slice none 0 0] 37) (.cells #[.int .i64 1, .int .i64 n, .string ⟨#[]⟩, .slice none 0 0] 37)))
  rw [HF.out] at hr
  have hV0 : VBox ((W.alloc (.cells #[.int .i64 0, .int .i64 0, .string ⟨#[]⟩, .slice none 0 0] 37)).alloc (.cells #[.int .i64 1, .int .i64 n, .string ⟨#[]⟩, .slice none 0 0] 37)) W.heap.size 0 0 ⟨#[]⟩ (.slice none 0 0) := (VBox.new W 0 0 ⟨#[]⟩ (.slice none 0 0)).alloc _
  have hV1 : VBox ((W.alloc (.cells #[.int .i64 0, .int .i64 0, .string ⟨#[]⟩, .slice none 0 0] 37)).alloc (.cells #[.int .i64 1, .int .i64 n, .string ⟨#[]⟩, .slice none 0 0] 37)) (W.heap.size + 1) 1 n ⟨#[]⟩ (.slice none 0 0) := by
    have := VBox.new (W.alloc (.cells #[.int .i64 0, .int .i64 0, .string ⟨#[]⟩, .slice none 0 0] 37)) 1 n ⟨#[]⟩ (.slice none 0 0)
    rwa [show (W.alloc (.cells #[.int .i64 0, .int .i64 0, .string ⟨#[]⟩, .slice none 0 0] 37)).heap.size = W.heap.size + 1 from by simp] at this
  have HV0 := Lib.hid hV0
  have HV1 := Lib.hid hV1
  clear hV0 hV1
  go_enter Tryz.func34, Tryz.ntmps34
  go_wp2_with fail
  refine (HQ.out _).mono ?_
  rintro e W1 ⟨rfl, rfl⟩
  go_wp2_with fail
  refine hr.mono ?_
  rintro e W2 ⟨rfl, hB2⟩
  have hV2 := HV0.out.below hB2
  have hU2 := HV1.out.below hB2
  have hBW := below_two' _ _ hB2
  obtain ⟨⟨c0, c1, c2, c3⟩, f0, f1, f2, f3⟩ := hV2.facts
  obtain ⟨⟨v0, v1, v2, v3⟩, g0, g1, g2, g3⟩ := hU2.facts
  have HV2 := Lib.hid hV2
  have HBW := Lib.hid hBW
  clear hr hB2 hV2 hU2 hBW
  go_wp2_with fail
  have hV := HV2.out.put 1 n ⟨#[]⟩ (.slice none 0 0)
  have hB := below_put HBW.out (b := W.heap.size) (Nat.le_refl _) 1 n ⟨#[]⟩ (.slice none 0 0)
  unfold putBox at hV hB
  generalize (((W2.setCell ⟨W.heap.size, 0, none⟩ (.int .i64 1)).setCell ⟨W.heap.size, 1, none⟩ (.int .i64 n)).setCell ⟨W.heap.size, 2, none⟩ (.string ⟨#[]⟩)).setCell ⟨W.heap.size, 3, none⟩ (.slice none 0 0) = W9 at hV hB ⊢
  obtain ⟨⟨e0, e1, e2, e3⟩, _⟩ := hV.facts
  exact bodyPost_ret (v := .tuple #[valV 1 n ⟨#[]⟩ (.slice none 0 0), .int .i64 ((p : Int) + (k : Nat)), .bool true]) (by simp [results, Tryz.results34, go_sem, e0, e1, e2, e3]) rfl ⟨hB, rfl⟩

set_option maxHeartbeats 4000000 in
set_option maxRecDepth 100000 in
theorem read_num_false (s : ByteArray) (hs : s.size ≤ 140737488355327) (p : Nat) (hp : p < s.size) (hc : (s[p].toNat : Int) ≠ 34 ∧ (s[p].toNat : Int) ≠ 64 ∧ (s[p].toNat : Int) ≠ 126) (n : Int) (k : Nat) (hx : numTxt (-1000000000000000) 1000000000000000 (s.data.toList.drop (p)) = (n, k, true)) (hf : flatOk 1 n ⟨#[]⟩ 0 = false) (W : World) (hT : Tabs W) :
    Calls Tryz.prog 34 #[.string s, .int .i64 (p : Int)] W (readPost none p W) := by
  have HF := Lib.hid hf
  clear hf
  have hq := fun w => readNum_txt s hs (p) (by omega) (-1000000000000000) 1000000000000000 (by decide) (by decide) (by decide) (by decide) w
  rw [hx] at hq
  unfold readNumE at hq
  simp only at hq
  have HQ := Lib.hid hq
  have d01 : decide (s.size ≤ p) = false := decide_eq_false (by omega)
  have d02 : decide ((s.size : Int) ≤ (p : Int)) = false := decide_eq_false (by omega)
  have d0 : ((s[p].toNat : Int) == 34) = false := by rw [beq_eq_false_iff_ne]; omega
  have d1 : ((s[p].toNat : Int) == 64) = false := by rw [beq_eq_false_iff_ne]; omega
  have d2 : ((s[p].toNat : Int) == 126) = false := by rw [beq_eq_false_iff_ne]; omega
  clear hc hx hq
  have hr := right_flat 1 n (by decide) ⟨#[]⟩ (by decide) none 0 0 _ (hT.below (below_two (.cells #[.int .i64 0, .int .i64 0, .string ⟨#[]⟩, .slice none 0 0] 37) (.cells #[.int .i64 1, .int .i64 n, .string ⟨#[]⟩, .slice none 0 0] 37)))
  rw [HF.out] at hr
  have hV0 : VBox ((W.alloc (.cells #[.int .i64 0, .int .i64 0, .string ⟨#[]⟩, .slice none 0 0] 37)).alloc (.cells #[.int .i64 1, .int .i64 n, .string ⟨#[]⟩, .slice none 0 0] 37)) W.heap.size 0 0 ⟨#[]⟩ (.slice none 0 0) := (VBox.new W 0 0 ⟨#[]⟩ (.slice none 0 0)).alloc _
  have hV1 : VBox ((W.alloc (.cells #[.int .i64 0, .int .i64 0, .string ⟨#[]⟩, .slice none 0 0] 37)).alloc (.cells #[.int .i64 1, .int .i64 n, .string ⟨#[]⟩, .slice none 0 0] 37)) (W.heap.size + 1) 1 n ⟨#[]⟩ (.slice none 0 0) := by
    have := VBox.new (W.alloc (.cells #[.int .i64 0, .int .i64 0, .string ⟨#[]⟩, .slice none 0 0] 37)) 1 n ⟨#[]⟩ (.slice none 0 0)
    rwa [show (W.alloc (.cells #[.int .i64 0, .int .i64 0, .string ⟨#[]⟩, .slice none 0 0] 37)).heap.size = W.heap.size + 1 from by simp] at this
  have HV0 := Lib.hid hV0
  have HV1 := Lib.hid hV1
  clear hV0 hV1
  go_enter Tryz.func34, Tryz.ntmps34
  go_wp2_with fail
  refine (HQ.out _).mono ?_
  rintro e W1 ⟨rfl, rfl⟩
  go_wp2_with fail
  refine hr.mono ?_
  rintro e W2 ⟨rfl, hB2⟩
  have hV2 := HV0.out.below hB2
  have hU2 := HV1.out.below hB2
  have hBW := below_two' _ _ hB2
  obtain ⟨⟨c0, c1, c2, c3⟩, f0, f1, f2, f3⟩ := hV2.facts
  obtain ⟨⟨v0, v1, v2, v3⟩, g0, g1, g2, g3⟩ := hU2.facts
  have HV2 := Lib.hid hV2
  have HBW := Lib.hid hBW
  clear hr hB2 hV2 hU2 hBW
  go_wp2_with fail
  have hV := HV2.out.put 0 0 ⟨#[]⟩ (.slice none 0 0)
  have hB := below_put HBW.out (b := W.heap.size) (Nat.le_refl _) 0 0 ⟨#[]⟩ (.slice none 0 0)
  unfold putBox at hV hB
  generalize (((W2.setCell ⟨W.heap.size, 0, none⟩ (.int .i64 0)).setCell ⟨W.heap.size, 1, none⟩ (.int .i64 0)).setCell ⟨W.heap.size, 2, none⟩ (.string ⟨#[]⟩)).setCell ⟨W.heap.size, 3, none⟩ (.slice none 0 0) = W9 at hV hB ⊢
  obtain ⟨⟨e0, e1, e2, e3⟩, _⟩ := hV.facts
  exact bodyPost_ret (v := .tuple #[valV 0 0 ⟨#[]⟩ (.slice none 0 0), .int .i64 0, .bool false]) (by simp [results, Tryz.results34, go_sem, e0, e1, e2, e3]) rfl ⟨hB, rfl⟩

theorem unqAt_lt (s : ByteArray) : ∀ (n j : Nat) (acc : List UInt8), s.size - j ≤ n → ∀ t k, unqAt s j acc = some (t, k) → j < k ∧ k ≤ s.size ∧ t.length + j ≤ acc.length + k := by
  intro n
  induction n using Nat.strongRecOn with
  | _ n ih =>
    intro j acc hn t k h
    by_cases hlt : j < s.size
    · by_cases h34 : (s[j].toNat : Int) = 34
      · rw [unqAt_quote s j hlt acc h34] at h
        cases h
        omega
      · by_cases h92 : (s[j].toNat : Int) = 92
        · by_cases hj1 : j + 1 < s.size
          · by_cases e : (s[j + 1].toNat : Int) = 34 ∨ (s[j + 1].toNat : Int) = 92
            · rw [unqAt_back s j hlt acc h92 hj1 e] at h
              have := ih (s.size - (j + 2)) (by omega) (j + 2) _ (by omega) t k h
              simp at this
              omega
            · rw [unqAt_back_bad s j hlt acc h92 hj1 (fun h => e (.inl h)) (fun h => e (.inr h))] at h
              cases h
          · rw [unqAt_back_end s j hlt acc h92 (by omega)] at h
            cases h
        · rw [unqAt_plain s j hlt acc h34 h92] at h
          have := ih (s.size - (j + 1)) (by omega) (j + 1) _ (by omega) t k h
          simp at this
          omega
    · unfold unqAt at h
      rw [drop_end s j (by omega)] at h
      cases h

/-- val.read, at any place -/
theorem read_any (s : ByteArray) (hs : s.size ≤ 140737488355327) (p : Nat) (W : World) (hT : Tabs W) :
    Calls Tryz.prog 34 #[.string s, .int .i64 (p : Int)] W (readPost (readIn (s.data.toList.drop p)) p W) := by
  by_cases hp : p < s.size
  · rw [dropAt s p hp]
    unfold readIn
    show Calls _ _ _ _ (readPost (if _ then _ else _) p W)
    have hu : ∀ c : UInt8, s[p] = c ↔ (s[p].toNat : Int) = (c.toNat : Int) := fun c => ⟨fun h => by rw [h], fun h => UInt8.toNat_inj.1 (by omega)⟩
    by_cases h34 : s[p] = 34
    · rw [if_pos h34]
      have hc : (s[p].toNat : Int) = 34 := (hu 34).1 h34
      cases hq : unqAt s (p + 1) [] with
      | none =>
        have hq2 : unq [] (s.data.toList.drop (p + 1)) = none := by
          unfold unqAt at hq
          cases h : unq [] (s.data.toList.drop (p + 1)) with
          | none => rfl
          | some x => rw [h] at hq; cases hq
        rw [hq2]
        exact read_text_none s hs p hp hc hq W
      | some x =>
        obtain ⟨t, k⟩ := x
        have hlt := unqAt_lt s _ (p + 1) [] (Nat.le_refl _) t k hq
        obtain ⟨k', hq2, hk⟩ : ∃ k', unq [] (s.data.toList.drop (p + 1)) = some (t, k') ∧ k = k' + (p + 1) := by
          unfold unqAt at hq
          cases h : unq [] (s.data.toList.drop (p + 1)) with
          | none => rw [h] at hq; cases hq
          | some x => rw [h] at hq; cases hq; exact ⟨_, rfl, rfl⟩
        rw [hq2]
        simp only
        have hts : t.length ≤ 9223372036854775807 := by have := hlt.2.2; simp at this; omega
        by_cases hf : flatOk 2 0 ⟨t.toArray⟩ 0 = true
        · rw [if_pos hf]
          have := read_text_true s hs p hp hc t k (by omega) hq hts hf W hT
          rwa [show k - p = k' + 1 from by omega] at this
        · rw [if_neg hf]
          exact read_text_false s hs p hp hc t k (by omega) hq hts (Bool.eq_false_iff.2 hf) W hT
    · rw [if_neg h34]
      have n34 : (s[p].toNat : Int) ≠ 34 := fun h => h34 ((hu 34).2 h)
      by_cases h64 : s[p] = 64
      · rw [if_pos h64]
        have hc : (s[p].toNat : Int) = 64 := (hu 64).1 h64
        obtain ⟨⟨n, k, ok⟩, hx⟩ : ∃ x, numTxt (-20) 100000 (s.data.toList.drop (p + 1)) = x := ⟨_, rfl⟩
        rw [hx]
        cases ok with
        | false => rw [if_neg (by simp)]; exact read_ref_none s hs p hp hc n k hx W
        | true =>
          by_cases hf : flatOk 3 n ⟨#[]⟩ 0 = true
          · rw [if_pos ⟨rfl, hf⟩]; exact read_ref_true s hs p hp hc n k hx hf W hT
          · rw [if_neg (fun h => hf h.2)]; exact read_ref_false s hs p hp hc n k hx (Bool.eq_false_iff.2 hf) W hT
      · rw [if_neg h64]
        have n64 : (s[p].toNat : Int) ≠ 64 := fun h => h64 ((hu 64).2 h)
        by_cases h126 : s[p] = 126
        · rw [if_pos h126]
          have hc : (s[p].toNat : Int) = 126 := (hu 126).1 h126
          obtain ⟨⟨n, k, ok⟩, hx⟩ : ∃ x, numTxt (-20) 100000 (s.data.toList.drop (p + 1)) = x := ⟨_, rfl⟩
          rw [hx]
          cases ok with
          | false => rw [if_neg (by simp)]; exact read_weak_none s hs p hp hc n k hx W
          | true =>
            by_cases hf : flatOk 4 n ⟨#[]⟩ 0 = true
            · rw [if_pos ⟨rfl, hf⟩]; exact read_weak_true s hs p hp hc n k hx hf W hT
            · rw [if_neg (fun h => hf h.2)]; exact read_weak_false s hs p hp hc n k hx (Bool.eq_false_iff.2 hf) W hT
        · rw [if_neg h126]
          have n126 : (s[p].toNat : Int) ≠ 126 := fun h => h126 ((hu 126).2 h)
          rw [← dropAt s p hp]
          obtain ⟨⟨n, k, ok⟩, hx⟩ : ∃ x, numTxt (-1000000000000000) 1000000000000000 (s.data.toList.drop p) = x := ⟨_, rfl⟩
          rw [hx]
          cases ok with
          | true =>
            rw [if_pos rfl]
            by_cases hf : flatOk 1 n ⟨#[]⟩ 0 = true
            · rw [if_pos hf]; exact read_num_true s hs p hp ⟨n34, n64, n126⟩ n k hx hf W hT
            · rw [if_neg hf]; exact read_num_false s hs p hp ⟨n34, n64, n126⟩ n k hx (Bool.eq_false_iff.2 hf) W hT
          | false =>
            rw [if_neg (by simp)]
            by_cases h45 : s[p] = 45
            · rw [if_pos h45]; exact read_num_nil s hs p hp ⟨n34, n64, n126⟩ ((hu 45).1 h45) n k hx W
            · rw [if_neg h45]; exact read_num_none s hs p hp ⟨n34, n64, n126⟩ (fun h => h45 ((hu 45).2 h)) n k hx W
  · rw [drop_end s p (by omega)]
    exact read_end s p (by omega) W
end Go.Proofs.YtffoklhopmhjaaaGreatDoor

/- (val.reader).list. -/
set_option linter.unusedSimpArgs false
set_option linter.unusedVariables false
namespace Go.Proofs.YtffoklhopmhjaaaGreatDoor
open Go Go.RowKit Go.Shelf Go.Sort

/-- cells of a value that is no list -/
def Itm (u : V) (y : It) : Prop := u.flatOk = true ∧ y.k = u.k ∧ y.n = u.n ∧ y.s = u.s ∧ y.m = 0
theorem Itm.at {u : V} {y : It} (h : Itm u y) (d : Nat) (W : World) : VAt d W u y := by
  obtain ⟨h0, h1, h2, h3, h4⟩ := h
  have hl : u.l = [] := List.eq_nil_of_length_eq_zero (flatOk_parts h0).2.2.1
  obtain ⟨k, n, s, p, m, c⟩ := y
  simp only at h1 h2 h3 h4
  subst h4
  have ht : ∀ J, VTop W u ⟨k, n, s, p, 0, c⟩ J := fun J => ⟨flat_fine h0, h1, h2, h3, [], by rw [hl]; rfl, ⟨rfl, .inl ⟨rfl, p, c, rfl⟩⟩, fun i h => absurd h (by simp)⟩
  cases d with
  | zero => exact ht _
  | succ d => exact ht _
theorem Itm.of {d : Nat} {W : World} {u : V} {y : It} (h : VAt d W u y) (hf : u.flatOk = true) : Itm u y := by
  have t := h.top
  exact ⟨hf, t.2.1, t.2.2.1, t.2.2.2.1, by rw [t.len]; exact (flatOk_parts hf).2.2.1⟩

theorem decIn_err {l : List UInt8} {e : Int} (h : decIn l = .error e) : e = 10 ∨ e = 30 := by
  unfold decIn at h
  repeat' split at h
  all_goals first | (cases h; exact .inl rfl) | (cases h; exact .inr rfl) | cases h
theorem decIn_ok {l : List UInt8} {u : V} {n : Nat} (h : decIn l = .ok (u, n)) : u.flatOk = true := by
  unfold decIn at h
  repeat' split at h
  all_goals first | (cases h; assumption) | (cases h; rfl) | cases h
theorem decIn_le {l : List UInt8} {u : V} {n : Nat} (h : decIn l = .ok (u, n)) : n ≤ l.length := by
  have nl : ∀ {l : List UInt8} {v : Int}, numL l = some v → (Wire.num v).length ≤ l.length := fun h => (numL_some h).2.length_le
  have tl : ∀ {l t : List UInt8}, textL l = some t → (Wire.num t.length).length + t.length ≤ l.length := fun h => by have := (textL_some h).2.length_le; rwa [List.length_append] at this
  unfold decIn at h
  split at h
  · cases h
  · rename_i k hk
    have h1 := nl hk
    split at h
    · split at h
      · cases h
      · rename_i n' hn
        have h2 := nl hn
        rw [List.length_drop] at h2
        split at h <;> cases h
        omega
    · split at h
      · split at h
        · cases h
        · rename_i t ht
          have h2 := tl ht
          rw [List.length_drop] at h2
          split at h <;> cases h
          omega
      · split at h <;> cases h
        exact h1
theorem decMany_more : ∀ (k : Nat) (l : List UInt8) (us : List V) (q : Nat), decMany k l = .ok (us, q) → decMany (k + 1) l = match decIn (l.drop q) with
    | .error e => .error e
    | .ok (u, r) => .ok (us ++ [u], q + r)
  | 0, l, us, q, h => by
    cases h
    rw [decMany_succ, List.drop_zero]
    cases decIn l with
    | error e => rfl
    | ok x =>
      obtain ⟨u, r⟩ := x
      simp [decMany]
  | k + 1, l, us, q, h => by
    rw [decMany_succ] at h
    rw [decMany_succ]
    cases h1 : decIn l with
    | error e => rw [h1] at h; cases h
    | ok x =>
      obtain ⟨u, r⟩ := x
      rw [h1] at h
      simp only at h ⊢
      cases h2 : decMany k (l.drop r) with
      | error e => rw [h2] at h; cases h
      | ok y =>
        obtain ⟨us', q'⟩ := y
        rw [h2] at h
        simp only at h
        cases h
        rw [decMany_more k (l.drop r) us' q' h2, List.drop_drop]
        cases decIn (l.drop (r + q')) with
        | error e => rfl
        | ok z => simp [Nat.add_assoc]
theorem decMany_err : ∀ (k n : Nat) (l : List UInt8) (e : Int), decMany k l = .error e → k ≤ n → decMany n l = .error e
  | 0, n, l, e, h, _ => by cases h
  | k + 1, 0, l, e, h, hn => by omega
  | k + 1, n + 1, l, e, h, hn => by
    rw [decMany_succ] at h ⊢
    cases h1 : decIn l with
    | error e' => rw [h1] at h; simpa using h
    | ok x =>
      obtain ⟨u, r⟩ := x
      rw [h1] at h
      simp only at h ⊢
      cases h2 : decMany k (l.drop r) with
      | error e' =>
        rw [h2] at h
        rw [decMany_err k n _ e' h2 (by omega)]
        exact h
      | ok y => rw [h2] at h; cases h
theorem decMany_len : ∀ (k : Nat) (l : List UInt8) (us : List V) (q : Nat), decMany k l = .ok (us, q) → us.length = k ∧ q ≤ l.length ∧ ∀ u ∈ us, u.flatOk = true
  | 0, l, us, q, h => by cases h; exact ⟨rfl, Nat.zero_le _, by simp⟩
  | k + 1, l, us, q, h => by
    rw [decMany_succ] at h
    cases h1 : decIn l with
    | error e' => rw [h1] at h; cases h
    | ok x =>
      obtain ⟨u, r⟩ := x
      rw [h1] at h
      simp only at h
      cases h2 : decMany k (l.drop r) with
      | error e' => rw [h2] at h; cases h
      | ok y =>
        obtain ⟨us', q'⟩ := y
        rw [h2] at h
        cases h
        obtain ⟨a, b, c⟩ := decMany_len k _ _ _ h2
        have := decIn_le h1
        rw [List.length_drop] at b
        refine ⟨by simp [a], by omega, ?_⟩
        intro v hv
        rcases List.mem_cons.1 hv with rfl | hv
        · exact decIn_ok h1
        · exact c v hv

noncomputable def decList (l : List UInt8) : Except Int (List V × Nat) :=
  match numL l with
  | none => .error 10
  | some n =>
    if n < 0 ∨ 12 < n then .error 30
    else
      match decMany n.toNat (l.drop (Wire.num n).length) with
      | .error e => .error e
      | .ok (us, r) => .ok (us, (Wire.num n).length + r)
/-- what list answers -/
def listPost (r : Except Int (List V × Nat)) (w0 : World) (ea : Addr) (s : ByteArray) (Sb Ab p : Nat) (W : World) (e : Ending) (W' : World) : Prop :=
  Kept Ab W W' ∧ match r with
    | .error n => e = .returned (.tuple #[.slice none 0 0, .int .i64 n]) ∧ ∃ q, Rd w0 ea s Sb Ab q W'
    | .ok (us, n) => Rd w0 ea s Sb Ab (p + n) W' ∧ ∃ (v : Value) (ys : List It), e = .returned (.tuple #[v, .int .i64 0]) ∧ ys.length = us.length ∧ Lies W' v ys.length 4 (itsCells ys) ∧ (∀ (i : Nat) (h : i < ys.length) (h' : i < us.length), Itm us[i] ys[i]) ∧ ∀ a m c, v = .slice (some a) m c → W.heap.size ≤ a.block

/-- the reader's box, behind a call -/
structure One (W0 : World) (Sb Ab : Nat) (W : World) : Prop where
  hA : Ab < W0.heap.size
  rd : W.heap[W0.heap.size]? = some (.cells #[numFn Sb Ab, textFn Sb Ab] 76 (0, 0))
  kept : Kept Ab W0 W
theorem One.new {W0 : World} {Sb Ab : Nat} (hA : Ab < W0.heap.size) : One W0 Sb Ab (W0.alloc (.cells #[numFn Sb Ab, textFn Sb Ab] 76)) :=
  ⟨hA, World.alloc_heap_new _ _, grownBy_of_below ((Below.refl _ _).alloc (Nat.le_refl _) _) _⟩
theorem One.go {W0 : World} {Sb Ab : Nat} {W W' : World} (h : One W0 Sb Ab W) (hk : Kept Ab W W') : One W0 Sb Ab W' := by
  have hA := h.hA
  have hlt := (Array.getElem?_eq_some_iff.1 h.rd).1
  exact ⟨hA, (hk.block _ hlt (fun e => by have := Option.some.inj e; omega)).trans h.rd, h.kept.trans hk⟩
theorem One.below {W0 : World} {Sb Ab : Nat} {W W' : World} (h : One W0 Sb Ab W) (hb : Below W.heap.size W W') : One W0 Sb Ab W' := h.go (grownBy_of_below hb _)
theorem One.cells {W0 : World} {Sb Ab : Nat} {W : World} (h : One W0 Sb Ab W) : W.cell? ⟨W0.heap.size, 0, none⟩ = some (numFn Sb Ab) ∧ W.cell? ⟨W0.heap.size, 1, none⟩ = some (textFn Sb Ab) := by
  constructor <;> (rw [Lib.cell_of_heap h.rd]; rfl)
theorem One.lt {W0 : World} {Sb Ab : Nat} {W : World} (h : One W0 Sb Ab W) : W0.heap.size < W.heap.size := (Array.getElem?_eq_some_iff.1 h.rd).1

theorem own_kept {W0 W W' : World} {Ab : Nat} {e : TypeId} {size n : Nat} {v : Value} {xs : List Value} (h : W.ownsRow (W0.heap.size + 1) e size v n xs) (hA : Ab < W0.heap.size) (hk : Kept Ab W W') : W'.ownsRow (W0.heap.size + 1) e size v n xs := by
  refine h.kept hk ?_
  rcases h.2 with ⟨rfl, _⟩ | ⟨g, cap, cur, rfl, hg, _⟩
  · exact .inl rfl
  · refine .inr ?_
    show some g ≠ some Ab
    intro e
    have := Option.some.inj e
    omega

theorem Rd.grown {w0 : World} {ea : Addr} {s : ByteArray} {Sb Ab p : Nat} {W W' : World} {row : Option Nat} (h : Rd w0 ea s Sb Ab p W) (hg : W.grownBy W' row) (hr : ∀ g, row = some g → g ≠ Sb ∧ g ≠ Ab ∧ w0.heap.size ≤ g) : Rd w0 ea s Sb Ab p W' :=
  ⟨h.hs, h.t0, h.e0, ⟨hg.os.trans h.b0.os, hg.tape.trans h.b0.tape, hg.output.trans h.b0.output, Nat.le_trans h.b0.size hg.size, fun k hk => (hg.block k (Nat.lt_of_lt_of_le hk h.b0.size) (fun e => by have := (hr k e.symm).2.2; omega)).trans (h.b0.block k hk)⟩, h.ls, h.la, h.ne,
    (hg.block _ h.lts (fun e => (hr _ e.symm).1 rfl)).trans h.sb, (hg.block _ h.lt (fun e => (hr _ e.symm).2.1 rfl)).trans h.ab, h.hp⟩
theorem One.grown {W0 W W' : World} {Sb Ab : Nat} {row : Option Nat} (h : One W0 Sb Ab W) (hg : W.grownBy W' row) (hr : ∀ g, row = some g → W0.heap.size < g) : One W0 Sb Ab W' :=
  ⟨h.hA, (hg.block _ h.lt (fun e => by have := hr _ e.symm; omega)).trans h.rd,
   ⟨hg.os.trans h.kept.os, hg.tape.trans h.kept.tape, hg.output.trans h.kept.output, Nat.le_trans h.kept.size hg.size, fun k hk hne => (hg.block k (Nat.lt_of_lt_of_le hk h.kept.size) (fun e => by have := hr _ e.symm; omega)).trans (h.kept.block k hk hne)⟩⟩

theorem infoVal : (Tryz.prog.info? 37).map (fun i => (i.zero, i.size, i.bytes)) = some (some (.agg #[.int .i64 0, .int .i64 0, .string ⟨#[]⟩, .slice none 0 0]), 4, 56) := by kernel_rfl
theorem itsCells_append (xs ys : List It) : itsCells (xs ++ ys) = itsCells xs ++ itsCells ys := by
  induction xs with
  | nil => rfl
  | cons x xs ih => show x.cells ++ itsCells (xs ++ ys) = _; rw [ih]; simp [itsCells]
/-- a round of the list -/
def ListI (w0 : World) (ea : Addr) (s : ByteArray) (Sb Ab p2 : Nat) (W0 : World) (l : List UInt8) (k : Nat) (v : Value) (wr : World) : Prop :=
  ∃ (us : List V) (q : Nat) (ys : List It), decMany k l = .ok (us, q) ∧ ys.length = k ∧ wr.ownsRow (W0.heap.size + 1) 37 4 v k (itsCells ys) ∧ (∀ (i : Nat) (h : i < ys.length) (h' : i < us.length), Itm us[i] ys[i]) ∧ Rd w0 ea s Sb Ab (p2 + q) wr ∧ One W0 Sb Ab wr

set_option maxHeartbeats 4000000 in
set_option maxRecDepth 100000 in
theorem list_good (w0 : World) (ea : Addr) (s : ByteArray) (Sb Ab p : Nat) (W : World) (h : Rd w0 ea s Sb Ab p W) (n : Nat) (hn : numL (s.data.toList.drop p) = some (n : Int)) (hn12 : n ≤ 12) :
    Calls Tryz.prog 60 #[rdr Sb Ab] W (listPost (decList (s.data.toList.drop p)) w0 ea s Sb Ab p W) := by
  obtain ⟨i0, hi, hz0, hz1, hz2⟩ := info_parts infoVal
  have hlt := h.lt
  have h2 := One.new (W0 := W) (Sb := Sb) (Ab := Ab) hlt
  have hc := decNum w0 ea s Sb Ab p _ (h.below ((Below.refl _ _).alloc (Nat.le_refl _) (.cells #[numFn Sb Ab, textFn Sb Ab] 76)))
  unfold decNumPost at hc
  rw [hn] at hc
  simp only at hc
  generalize hres : decList (s.data.toList.drop p) = res
  have hres2 : res = match decMany n (s.data.toList.drop (p + (Wire.num (n : Int)).length)) with
      | .error e => .error e
      | .ok (us, r) => .ok (us, (Wire.num (n : Int)).length + r) := by
    rw [← hres]
    unfold decList
    rw [hn]
    simp only [List.drop_drop]
    rw [if_neg (by omega), Int.toNat_natCast]
  generalize hp2 : p + (Wire.num (n : Int)).length = p2 at hc hres2
  have HP := Lib.hid hp2
  have HRES := Lib.hid hres2
  have H := Lib.hid h
  have H2 := Lib.hid h2
  clear h h2 hn hres hres2 hp2
  go_enter Tryz.func60, Tryz.ntmps60
  go_wp2_with fail
  refine hc.mono ?_
  rintro e W1 ⟨hk1, rfl, hR1⟩
  have hO := H2.out.go hk1
  have hI0 : ListI w0 ea s Sb Ab p2 W (s.data.toList.drop p2) 0 (.slice none 0 0) W1 := ⟨[], 0, [], rfl, rfl, World.ownsRow_nil _ _ _ _, fun i h => absurd h (by simp), hR1, hO⟩
  clear hc hk1 hR1 hO
  go_wp2_with fail
  go_loopw [6, 25] (fun v i wr => ∃ k : Nat, k ≤ n ∧ i = .int .i64 (k : Int) ∧ ListI w0 ea s Sb Ab p2 W (s.data.toList.drop p2) k v wr) (fun _ i _ => n - (intOf i).toNat)
  case atStart => exact ⟨0, by omega, rfl, hI0⟩
  case round =>
    obtain ⟨k, hk, rfl, us, q, ys, hd, hy, hown, hit, hR, hO⟩ := hrel
    obtain ⟨r0, r1⟩ := hO.cells
    have hzl := hO.lt
    by_cases hkn : k < n
    · have hv := value_flat false w0 ea s Sb Ab (p2 + q) _ hR (fun _ _ => .inr rfl)
      have hmore := decMany_more k _ us q hd
      rw [List.drop_drop] at hmore
      cases hdi : decIn (s.data.toList.drop (p2 + q)) with
      | error e =>
        rw [hdi] at hv hmore
        have hr : res = .error e := by
          rw [HRES.out, decMany_err (k + 1) n _ e hmore (by omega)]
        have he := decIn_err hdi
        have HR := Lib.hid hr
        have HO := Lib.hid hO
        clear hr hmore hdi hd hit hown hR hO
        go_wp2_with fail
        refine hv.mono ?_
        rintro e' W2 ⟨hk2, rfl, hR2⟩
        have hK := HO.out.kept.trans hk2
        have HR2 := Lib.hid hR2
        clear hk2 hR2 hv
        rcases he with rfl | rfl
        all_goals
          go_wp2_with fail
          go_ret2
          refine ⟨?_, ?_⟩
          · exact hK.below ((Below.refl _ _).alloc (Nat.le_refl _) _)
          · rw [HR.out]
            exact ⟨rfl, HR2.out.choose, HR2.out.choose_spec.below ((Below.refl _ _).alloc (Nat.le_refl _) _)⟩
      | ok x =>
        obtain ⟨u, r⟩ := x
        rw [hdi] at hv hmore
        have hu := decIn_ok hdi
        have HU := Lib.hid hu
        have HM := Lib.hid hmore
        have HO := Lib.hid hO
        have HOW := Lib.hid hown
        have HIT := Lib.hid hit
        have HY := Lib.hid hy
        have HD := Lib.hid (decMany_len k _ us q hd).1
        clear hu hmore hdi hd hit hown hR hO hy
        go_wp2_with fail
        refine hv.mono ?_
        rintro e' W2 ⟨hk2, hR2, y, rfl, hy2⟩
        have hIt := Itm.of hy2 HU.out
        have hO2 := HO.out.go hk2
        have hown2 := own_kept HOW.out HO.out.hA hk2
        have HI := Lib.hid hIt
        have HO2 := Lib.hid hO2
        have HR2 := Lib.hid hR2
        have z2 := hO2.lt
        obtain ⟨yk, yn, yss, yp, ym, yc⟩ := y
        clear hv hy2 hIt hO2 hR2 r0 r1 hk2
        go_wp2_with (at_builtin; refine wpList_append_lies _ rfl _ _ _ rfl (W.heap.size + 1) 37 i0 _ 4 56 Tryz.underlying31 hi hz0 hz1 hz2 rfl (by omega) _ k _ rfl ((hown2.alloc _).alloc _) ⟨W2.heap.size + 1, 0, none⟩ 1 1 [.int .i64 yk, .int .i64 yn, .string yss, .slice yp ym yc] rfl rfl (World.news_of_block (cs := #[.int .i64 yk, .int .i64 yn, .string yss, .slice yp ym yc]) (t := 37) (fr := (0, 0)) (by have h := World.alloc_heap_new (W2.alloc (.cells #[.int .i64 yk, .int .i64 yn, .string yss, .slice yp ym yc] 37)) (.cells #[.int .i64 yk, .int .i64 yn, .string yss, .slice yp ym yc] 37); rw [World.size_alloc] at h; exact h)) (by simp [Value.oneCell']) (by omega) (by simp [maxLen]; omega) (by omega) (by simp; omega) (W2.heap.size + 2) (by simp) ?_; intro gg cap w2 hown1 hgrow hat hlt2)
        have hB2 : Below W2.heap.size W2 ((W2.alloc (.cells #[.int .i64 yk, .int .i64 yn, .string yss, .slice yp ym yc] 37)).alloc (.cells #[.int .i64 yk, .int .i64 yn, .string yss, .slice yp ym yc] 37)) := below_two _ _
        refine ⟨⟨k + 1, by omega, by go_num, us ++ [u], q + r, ys ++ [⟨yk, yn, yss, yp, ym, yc⟩], HM.out, by simp [HY.out], ?_, ?_, ?_, ?_⟩, by simp [intOf]; omega⟩
        · rw [itsCells_append]
          exact hown1
        · intro i h h'
          by_cases hi : i < us.length
          · rw [List.getElem_append_left hi, List.getElem_append_left (by rw [HY.out, ← HD.out]; exact hi)]
            exact HIT.out i _ hi
          · have e : i = us.length := by simp at h'; omega
            have e' : i = ys.length := by rw [HY.out, ← HD.out]; exact e
            rw [List.getElem_append_right (by omega), List.getElem_append_right (by omega)]
            simpa using HI.out
        · rw [← Nat.add_assoc]
          refine (HR2.out.below hB2).grown hgrow (fun g hg => ?_)
          have h1 := (hown2.lt g hg).1
          have h3 := H.out.lts
          have h4 := H.out.lt
          have h5 := H.out.b0.size
          exact ⟨by omega, by omega, by omega⟩
        · exact (HO2.out.below hB2).grown hgrow (fun g hg => by have := (hown2.lt g hg).1; omega)
    · obtain rfl : k = n := by omega
      have hr : res = .ok (us, (Wire.num (k : Int)).length + q) := by rw [HRES.out, hd]
      have HR := Lib.hid hr
      have HD := Lib.hid (decMany_len k _ us q hd).1
      have HRD := Lib.hid hR
      have HO := Lib.hid hO
      have HIT := Lib.hid hit
      have HY := Lib.hid hy
      have hL := Lies.own hown
      rw [← hy] at hL
      have hlo : ∀ a, a ∈ (none : Option Addr) → True := fun _ _ => trivial
      have hbk : ∀ g, Value.ownBlock _ = some g → _ := fun g hg => (hown.lt g hg).1
      have HBK := Lib.hid hbk
      clear hlo hbk
      have HL := Lib.hid hL
      clear hr hd hR hO hit hy hown hL r0 r1
      go_wp2_with fail
      go_ret2
      refine ⟨HO.out.kept, ?_⟩
      rw [HR.out]
      refine ⟨by rw [← Nat.add_assoc, HP.out]; exact HRD.out, _, ys, rfl, by rw [HY.out, HD.out], HL.out, HIT.out, fun a m c hv => by have := HBK.out a.block (congrArg Value.ownBlock hv); omega⟩

set_option maxHeartbeats 4000000 in
set_option maxRecDepth 100000 in
theorem list_none (w0 : World) (ea : Addr) (s : ByteArray) (Sb Ab p : Nat) (W : World) (h : Rd w0 ea s Sb Ab p W) (hn : numL (s.data.toList.drop p) = none) :
    Calls Tryz.prog 60 #[rdr Sb Ab] W (listPost (.error 10) w0 ea s Sb Ab p W) := by
  have hlt := h.lt
  have h2 := One.new (W0 := W) (Sb := Sb) (Ab := Ab) hlt
  have hc := decNum w0 ea s Sb Ab p _ (h.below ((Below.refl _ _).alloc (Nat.le_refl _) (.cells #[numFn Sb Ab, textFn Sb Ab] 76)))
  unfold decNumPost at hc
  rw [hn] at hc
  simp only at hc
  have H2 := Lib.hid h2
  clear h h2 hn
  go_enter Tryz.func60, Tryz.ntmps60
  go_wp2_with fail
  refine hc.mono ?_
  rintro e W1 ⟨hk1, rfl, hR1⟩
  have HO := Lib.hid (H2.out.go hk1)
  have HR := Lib.hid hR1
  clear hc hk1 hR1
  go_wp2_with fail
  go_ret2
  exact ⟨HO.out.kept, rfl, _, HR.out⟩

set_option maxHeartbeats 4000000 in
set_option maxRecDepth 100000 in
theorem list_far (w0 : World) (ea : Addr) (s : ByteArray) (Sb Ab p : Nat) (W : World) (h : Rd w0 ea s Sb Ab p W) (n : Int) (hn : numL (s.data.toList.drop p) = some n) (hf : n < 0 ∨ 12 < n) :
    Calls Tryz.prog 60 #[rdr Sb Ab] W (listPost (.error 30) w0 ea s Sb Ab p W) := by
  have hlt := h.lt
  have h2 := One.new (W0 := W) (Sb := Sb) (Ab := Ab) hlt
  have hc := decNum w0 ea s Sb Ab p _ (h.below ((Below.refl _ _).alloc (Nat.le_refl _) (.cells #[numFn Sb Ab, textFn Sb Ab] 76)))
  unfold decNumPost at hc
  rw [hn] at hc
  simp only at hc
  have H2 := Lib.hid h2
  clear h h2 hn
  by_cases h0 : n < 0
  · clear hf
    go_enter Tryz.func60, Tryz.ntmps60
    go_wp2_with fail
    refine hc.mono ?_
    rintro e W1 ⟨hk1, rfl, hR1⟩
    have HO := Lib.hid (H2.out.go hk1)
    have HR := Lib.hid hR1
    clear hc hk1 hR1
    go_wp2_with fail
    go_ret2
    exact ⟨HO.out.kept, rfl, _, HR.out⟩
  · have h1 : 12 < n := hf.resolve_left h0
    clear hf
    go_enter Tryz.func60, Tryz.ntmps60
    go_wp2_with fail
    refine hc.mono ?_
    rintro e W1 ⟨hk1, rfl, hR1⟩
    have HO := Lib.hid (H2.out.go hk1)
    have HR := Lib.hid hR1
    clear hc hk1 hR1
    go_wp2_with fail
    go_ret2
    exact ⟨HO.out.kept, rfl, _, HR.out⟩

theorem list_any (w0 : World) (ea : Addr) (s : ByteArray) (Sb Ab p : Nat) (W : World) (h : Rd w0 ea s Sb Ab p W) :
    Calls Tryz.prog 60 #[rdr Sb Ab] W (listPost (decList (s.data.toList.drop p)) w0 ea s Sb Ab p W) := by
  cases hn : numL (s.data.toList.drop p) with
  | none =>
    have : decList (s.data.toList.drop p) = .error 10 := by unfold decList; rw [hn]
    rw [this]
    exact list_none w0 ea s Sb Ab p W h hn
  | some n =>
    by_cases hf : n < 0 ∨ 12 < n
    · have : decList (s.data.toList.drop p) = .error 30 := by unfold decList; rw [hn]; simp only; rw [if_pos hf]
      rw [this]
      exact list_far w0 ea s Sb Ab p W h n hn hf
    · obtain ⟨m, rfl⟩ := Int.eq_ofNat_of_zero_le (show 0 ≤ n by omega)
      exact list_good w0 ea s Sb Ab p W h m hn (by omega)
end Go.Proofs.YtffoklhopmhjaaaGreatDoor

/- (val.reader).value of lists; val.Decode. -/
set_option linter.unusedSimpArgs false
set_option linter.unusedVariables false
namespace Go.Proofs.YtffoklhopmhjaaaGreatDoor
open Go Go.RowKit Go.Shelf Go.Sort

theorem decV_list {l : List UInt8} (h : numL l = some 5) : decV l = match decList (l.drop (Wire.num 5).length) with
    | .error e => .error e
    | .ok (us, r) => .ok (.mk 5 0 ⟨#[]⟩ us, (Wire.num 5).length + r) := by
  unfold decV decList
  rw [h]
  simp only
  rw [if_pos trivial]
  cases numL (l.drop (Wire.num 5).length) with
  | none => rfl
  | some n =>
    simp only
    by_cases hf : n < 0 ∨ 12 < n
    · rw [if_pos hf, if_pos hf]
    · rw [if_neg hf, if_neg hf, List.drop_drop]
      cases decMany n.toNat (l.drop ((Wire.num 5).length + (Wire.num n).length)) with
      | error e => rfl
      | ok x => simp [Nat.add_assoc]
theorem decList_err {l : List UInt8} {e : Int} (h : decList l = .error e) : e = 10 ∨ e = 30 := by
  have hm : ∀ (n : Nat) (l : List UInt8) (e : Int), decMany n l = .error e → e = 10 ∨ e = 30 := by
    intro n
    induction n with
    | zero => intro l e h; cases h
    | succ n ih =>
      intro l e h
      rw [decMany_succ] at h
      cases h1 : decIn l with
      | error e' => rw [h1] at h; cases h; exact decIn_err h1
      | ok x =>
        rw [h1] at h
        simp only at h
        cases h2 : decMany n (l.drop x.2) with
        | error e' => rw [h2] at h; cases h; exact ih _ _ h2
        | ok y => rw [h2] at h; cases h
  unfold decList at h
  split at h
  · cases h; exact .inl rfl
  · split at h
    · cases h; exact .inr rfl
    · split at h
      · cases h; rename_i h2; exact hm _ _ _ h2
      · cases h
theorem decList_ok {l : List UInt8} {us : List V} {n : Nat} (h : decList l = .ok (us, n)) : us.length ≤ 12 ∧ n ≤ l.length ∧ ∀ u ∈ us, u.flatOk = true := by
  unfold decList at h
  split at h
  · cases h
  · rename_i k hk
    split at h
    · cases h
    · split at h
      · cases h
      · rename_i us' r hr
        cases h
        obtain ⟨a, b, c⟩ := decMany_len _ _ _ _ hr
        have := (numL_some hk).2.length_le
        rw [List.length_drop] at b
        exact ⟨by omega, by omega, c⟩
theorem flatOk_not5 {u : V} (h : u.flatOk = true) : u.okIn = true := by
  have := (flatOk_parts h).1
  unfold V.okIn
  rw [h, Bool.and_true]
  simp; omega
theorem ok_of_items {us : List V} (hl : us.length ≤ 12) (h : ∀ u ∈ us, u.flatOk = true) : (V.mk 5 0 ⟨#[]⟩ us).ok = true := by
  unfold V.ok
  show (if (5 : Int) = 5 then _ else _) = true
  rw [if_pos rfl, Bool.and_eq_true, Bool.and_eq_true]
  exact ⟨decide_eq_true ⟨rfl, rfl⟩, decide_eq_true hl, List.all_eq_true.2 (fun u hu => flatOk_not5 (h u hu))⟩
/-- a list lies, when its items do -/
theorem vat_list {W : World} {p : Option Addr} {m c : Nat} {us : List V} {ys : List It} (hl : us.length ≤ 12) (hy : ys.length = us.length) (hL : Lies W (.slice p m c) ys.length 4 (itsCells ys)) (hi : ∀ (i : Nat) (h : i < ys.length) (h' : i < us.length), Itm us[i] ys[i]) : VAt 1 W (.mk 5 0 ⟨#[]⟩ us) ⟨5, 0, ⟨#[]⟩, p, m, c⟩ := by
  refine ⟨⟨by show (_ : Int) ≤ 5 ∧ (5 : Int) ≤ _; decide, by show (_ : Int) ≤ 0 ∧ (0 : Int) ≤ _; decide, by show (⟨#[]⟩ : ByteArray).size ≤ _; decide, by show us.length ≤ _; omega⟩, rfl, rfl, rfl, ys, hy, hL, fun i h h' => (hi i h h').at 0 W⟩

theorem Lies.past {W : World} {v : Value} {n size : Nat} {xs : List Value} (h : Lies W v n size xs) (q : Addr) (hne : ∀ a m c, v = .slice (some a) m c → a.block ≠ q.block) (u : Value) : Lies (W.setCell q u) v n size xs := by
  obtain ⟨h1, h2 | ⟨b, off, c, hv, hlt, hc⟩⟩ := h
  · exact ⟨h1, .inl h2⟩
  · refine ⟨h1, .inr ⟨b, off, c, hv, by simpa using hlt, fun j u' hu => ?_⟩⟩
    rw [World.cell?_of_block (Below.heap_setCell W q u b (hne _ _ _ hv))]
    exact hc j u' hu

/-- what value answers, and where the row of a list lies -/
def valPost2 (r : Except Int (V × Nat)) (w0 : World) (ea : Addr) (s : ByteArray) (Sb Ab p : Nat) (W : World) (e : Ending) (W' : World) : Prop :=
  valPost r w0 ea s Sb Ab p W e W' ∧ match r with
    | .error _ => True
    | .ok (u, _) => u.flatOk = true ∨ ∀ x : It, e = .returned (.tuple #[x.v, .int .i64 0]) → ∀ a, x.p = some a → W.heap.size ≤ a.block

set_option maxHeartbeats 4000000 in
set_option maxRecDepth 100000 in
theorem value_list (w0 : World) (ea : Addr) (s : ByteArray) (Sb Ab p : Nat) (W : World) (h : Rd w0 ea s Sb Ab p W) (hn : numL (s.data.toList.drop p) = some 5) :
    Calls Tryz.prog 32 #[rdr Sb Ab, .bool true] W (valPost2 (decV (s.data.toList.drop p)) w0 ea s Sb Ab p W) := by
  have hdv := decV_list hn
  rw [List.drop_drop] at hdv
  generalize hres : decV (s.data.toList.drop p) = res at hdv ⊢
  have hlt := h.lt
  have h2 := Two.new (W0 := W) (Sb := Sb) (Ab := Ab) hlt
  have hc := decNum w0 ea s Sb Ab p _ (h.below (below_two (.cells #[numFn Sb Ab, textFn Sb Ab] 76) (.cells #[.int .i64 0, .int .i64 0, .string ⟨#[]⟩, .slice none 0 0] 37)))
  unfold decNumPost at hc
  rw [hn] at hc
  have H := Lib.hid h
  have H2 := Lib.hid h2
  clear h h2 hn hres
  have HDV := Lib.hid hdv
  clear hdv
  go_enter Tryz.func32, Tryz.ntmps32
  go_wp2_with fail
  refine hc.mono ?_
  rintro e W1 ⟨hk1, rfl, hR1⟩
  have hT := H2.out.go hk1
  have z1 : W.heap.size + 2 ≤ W1.heap.size := by have := hT.out.lt; omega
  have hV0 : VBox (W1.alloc (.cells #[.int .i64 5, .int .i64 0, .string ⟨#[]⟩, .slice none 0 0] 37)) W1.heap.size 5 0 ⟨#[]⟩ (.slice none 0 0) := VBox.new W1 _ _ _ _
  have hB0 : Below W1.heap.size W1 (W1.alloc (.cells #[.int .i64 5, .int .i64 0, .string ⟨#[]⟩, .slice none 0 0] 37)) := (Below.refl _ _).alloc (Nat.le_refl _) _
  have hT0 := hT.below hB0
  have hR0 := hR1.below hB0
  have hc2 := list_any w0 ea s Sb Ab (p + (Wire.num 5).length) _ hR0
  obtain ⟨c0, c1⟩ := hT0.cells
  have HT0 := Lib.hid hT0
  have HV0 := Lib.hid hV0
  clear hT hk1 hR1 hc hT0 hR0 hB0 hV0
  cases hdl : decList (s.data.toList.drop (p + (Wire.num 5).length)) with
  | error e2 =>
    rw [hdl] at hc2
    have hr : res = .error e2 := by rw [HDV.out, hdl]
    have he := decList_err hdl
    have HR := Lib.hid hr
    clear hr hdl
    go_wp2_with fail
    refine hc2.mono ?_
    rintro e W2 ⟨hk2, rfl, q, hR2⟩
    have hT2 := HT0.out.go hk2
    have hV2 := HV0.out.kept hk2 (by have := H2.out.hA; omega)
    have z2 := hV2.lt
    clear c0 c1 hk2 hc2
    obtain ⟨⟨v0, v1, v2, v3⟩, g0, g1, g2, g3⟩ := hV2.facts
    have hT3 := hT2.past ⟨W1.heap.size, 3, none⟩ z1 (.slice none 0 0)
    have hR3 := hR2.past ⟨W1.heap.size, 3, none⟩ (by have := H.out.lts; show Sb ≠ W1.heap.size; omega) (by have := H.out.lt; show Ab ≠ W1.heap.size; omega) (by have := H.out.b0.size; show _ ≤ W1.heap.size; omega) (.slice none 0 0)
    obtain ⟨⟨c0, c1, c2, c3⟩, f0, f1, f2, f3⟩ := hT3.out.facts
    have HT := Lib.hid hT3
    have HR1 := Lib.hid hR3
    clear hT2 hR2 hV2 hT3 hR3
    clear HDV
    rcases he with rfl | rfl
    all_goals
      go_wp2_with fail
      obtain ⟨hV, hK⟩ := HT.out.fin 0 0 ⟨#[]⟩ (.slice none 0 0)
      have hR := HR1.out.fin H.out 0 0 ⟨#[]⟩ (.slice none 0 0)
      unfold putBox at hV hK hR
      generalize ((((W2.setCell ⟨W1.heap.size, 3, none⟩ (.slice none 0 0)).setCell ⟨W.heap.size + 1, 0, none⟩ (.int .i64 0)).setCell ⟨W.heap.size + 1, 1, none⟩ (.int .i64 0)).setCell ⟨W.heap.size + 1, 2, none⟩ (.string ⟨#[]⟩)).setCell ⟨W.heap.size + 1, 3, none⟩ (.slice none 0 0) = W9 at hV hK hR ⊢
      obtain ⟨⟨e0, e1, e2, e3⟩, _⟩ := hV.facts
      first
        | exact bodyPost_ret (v := .tuple #[valV 0 0 ⟨#[]⟩ (.slice none 0 0), .int .i64 10]) (by simp [results, Tryz.results32, go_sem, e0, e1, e2, e3]) rfl ⟨⟨hK, by rw [HR.out]; exact ⟨rfl, _, hR⟩⟩, by rw [HR.out]; trivial⟩
        | exact bodyPost_ret (v := .tuple #[valV 0 0 ⟨#[]⟩ (.slice none 0 0), .int .i64 30]) (by simp [results, Tryz.results32, go_sem, e0, e1, e2, e3]) rfl ⟨⟨hK, by rw [HR.out]; exact ⟨rfl, _, hR⟩⟩, by rw [HR.out]; trivial⟩
  | ok x =>
    obtain ⟨us, r⟩ := x
    rw [hdl] at hc2
    have hr : res = .ok (.mk 5 0 ⟨#[]⟩ us, (Wire.num 5).length + r) := by rw [HDV.out, hdl]
    obtain ⟨hl12, hrl, hus⟩ := decList_ok hdl
    have HR := Lib.hid hr
    have HUS := Lib.hid hus
    clear hr hdl hrl hus
    go_wp2_with fail
    refine hc2.mono ?_
    rintro e W2 ⟨hk2, hR2, v, ys, rfl, hy, hL, hit, hbk⟩
    have hT2 := HT0.out.go hk2
    have hV2 := HV0.out.kept hk2 (by have := H2.out.hA; omega)
    have z2 := hV2.lt
    clear c0 c1 hk2 hc2
    obtain ⟨⟨v0, v1, v2, v3⟩, g0, g1, g2, g3⟩ := hV2.facts
    have hsl : ∃ p' m c, v = .slice p' m c := by
      rcases hL.2 with ⟨_, p', c, h⟩ | ⟨b, off, c, h, _⟩
      · exact ⟨p', 0, c, h⟩
      · exact ⟨_, _, c, h⟩
    obtain ⟨p', m, c, rfl⟩ := hsl
    have hT3 := hT2.past ⟨W1.heap.size, 3, none⟩ z1 (.slice p' m c)
    have hR3 := hR2.past ⟨W1.heap.size, 3, none⟩ (by have := H.out.lts; show Sb ≠ W1.heap.size; omega) (by have := H.out.lt; show Ab ≠ W1.heap.size; omega) (by have := H.out.b0.size; show _ ≤ W1.heap.size; omega) (.slice p' m c)
    have hV3 := hV2.set3 (.slice p' m c)
    have hbk2 : ∀ a, p' = some a → W1.heap.size + 1 ≤ a.block := fun a ha => by
      have := hbk a m c (by rw [ha])
      simpa using this
    have hL3 := hL.past ⟨W1.heap.size, 3, none⟩ (fun a m' c' ha => by injection ha with h1 _ _; have := hbk2 a h1; show a.block ≠ W1.heap.size; omega) (.slice p' m c)
    have hat := vat_list hl12 hy hL3 hit
    have hr := right_V 1 _ _ _ hat hR3.tabs
    rw [ok_of_items hl12 HUS.out] at hr
    have HT := Lib.hid hT3
    have HV := Lib.hid hV3
    have HR1 := Lib.hid hR3
    have HL := Lib.hid hL3
    have HIT := Lib.hid hit
    have HBK := Lib.hid hbk2
    have HY := Lib.hid hy
    clear hT2 hR2 hV2 hT3 hR3 hV3 hL hL3 hat hit hbk hbk2 hy
    go_wp2_with fail
    refine hr.mono ?_
    rintro e W3 ⟨rfl, hB3⟩
    have hT4 := HT.out.below hB3
    have hR4 := HR1.out.below hB3
    have hV4 := HV.out.below hB3
    have hL4 := HL.out.below hB3
    clear v0 v1 v2 v3 g0 g1 g2 g3 HT HR1 HV HL
    obtain ⟨⟨c0, c1, c2, c3⟩, f0, f1, f2, f3⟩ := hT4.out.facts
    obtain ⟨⟨v0, v1, v2, v3⟩, g0, g1, g2, g3⟩ := hV4.facts
    rw [Nat.add_assoc] at hR4
    have HT := Lib.hid hT4
    have HR1 := Lib.hid hR4
    have HL := Lib.hid hL4
    clear hT4 hR4 hV4 hB3 hr hL4
    go_wp2_with fail
    obtain ⟨hV, hK⟩ := HT.out.fin 5 0 ⟨#[]⟩ (.slice p' m c)
    have hR := HR1.out.fin H.out 5 0 ⟨#[]⟩ (.slice p' m c)
    have hne : ∀ a m' c', (Value.slice p' m c) = .slice (some a) m' c' → a.block ≠ W.heap.size + 1 := fun a m' c' ha => by injection ha with h1 _ _; have := HBK.out a h1; omega
    have hL9 := (((HL.out.past ⟨W.heap.size + 1, 0, none⟩ hne (.int .i64 5)).past ⟨W.heap.size + 1, 1, none⟩ hne (.int .i64 0)).past ⟨W.heap.size + 1, 2, none⟩ hne (.string ⟨#[]⟩)).past ⟨W.heap.size + 1, 3, none⟩ hne (.slice p' m c)
    unfold putBox at hV hK hR
    generalize (((W3.setCell ⟨W.heap.size + 1, 0, none⟩ (.int .i64 5)).setCell ⟨W.heap.size + 1, 1, none⟩ (.int .i64 0)).setCell ⟨W.heap.size + 1, 2, none⟩ (.string ⟨#[]⟩)).setCell ⟨W.heap.size + 1, 3, none⟩ (.slice p' m c) = W9 at hV hK hR hL9 ⊢
    obtain ⟨⟨e0, e1, e2, e3⟩, _⟩ := hV.facts
    exact bodyPost_ret (v := .tuple #[valV 5 0 ⟨#[]⟩ (.slice p' m c), .int .i64 0]) (by simp [results, Tryz.results32, go_sem, e0, e1, e2, e3]) rfl ⟨⟨hK, by rw [HR.out]; exact ⟨hR, ⟨5, 0, ⟨#[]⟩, p', m, c⟩, rfl, vat_list hl12 HY.out hL9 HIT.out⟩⟩, by rw [HR.out]; exact .inr (fun x hx a ha => by obtain ⟨xk, xn, xs, xp, xm, xc⟩ := x; simp only [It.v, valV, Ending.returned.injEq, Value.tuple.injEq] at hx; simp at hx; simp only at ha; have := HBK.out a (by rw [hx.2.2.2.1, ha]); omega)⟩
end Go.Proofs.YtffoklhopmhjaaaGreatDoor

/- The cells of a value without items. -/
set_option linter.unusedSimpArgs false
set_option linter.unusedVariables false
namespace Go.Proofs.YtffoklhopmhjaaaGreatDoor
open Go Go.RowKit Go.Shelf

def itOf (u : V) : It := ⟨u.k, u.n, u.s, none, 0, 0⟩
end Go.Proofs.YtffoklhopmhjaaaGreatDoor

/- val.readList. -/
set_option linter.unusedSimpArgs false
set_option linter.unusedVariables false
namespace Go.Proofs.YtffoklhopmhjaaaGreatDoor
open Go Go.RowKit Go.Shelf

def rlAt (s : ByteArray) (j : Nat) (acc : List V) : Option (List V × Nat) := (readItems (14 - acc.length) acc (s.data.toList.drop j)).map (fun x => (x.1, x.2 + j))
theorem rl_fuel {acc : List V} (h : acc.length ≤ 13) : ∃ n, 14 - acc.length = n + 1 := ⟨13 - acc.length, by omega⟩
theorem rlAt_end (s : ByteArray) (acc : List V) (h : acc.length ≤ 13) : rlAt s s.size acc = none := by
  obtain ⟨n, hn⟩ := rl_fuel h
  unfold rlAt
  rw [drop_end s s.size (Nat.le_refl _), hn]
  rfl
theorem rlAt_long (s : ByteArray) (j : Nat) (hj : j < s.size) (acc : List V) (h : acc.length ≤ 13) (hl : 12 < acc.length) : rlAt s j acc = none := by
  obtain ⟨n, hn⟩ := rl_fuel h
  unfold rlAt
  rw [dropAt s j hj, hn]
  unfold readItems
  rw [if_pos hl]; rfl
theorem rlAt_close (s : ByteArray) (j : Nat) (hj : j < s.size) (acc : List V) (h : acc.length ≤ 12) (hc : (s[j].toNat : Int) = 93) : rlAt s j acc = some (acc, 1 + j) := by
  obtain ⟨n, hn⟩ := rl_fuel (acc := acc) (by omega)
  have e : s[j] = 93 := UInt8.toNat_inj.1 (by have : (93 : UInt8).toNat = 93 := rfl; omega)
  unfold rlAt
  rw [dropAt s j hj, hn, e]
  unfold readItems
  show Option.map _ (if _ then _ else _) = _
  rw [if_neg (by omega), if_pos rfl]; rfl
theorem rlAt_first (s : ByteArray) (j : Nat) (hj : j < s.size) (hc : (s[j].toNat : Int) ≠ 93) : rlAt s j [] = match readIn (s.data.toList.drop j) with
    | none => none
    | some (u, k) => rlAt s (j + k) [u] := by
  have e : s[j] ≠ 93 := fun h => hc (by rw [h]; rfl)
  unfold rlAt
  rw [dropAt s j hj]
  show Option.map _ (readItems 14 [] _) = _
  conv => lhs; unfold readItems
  show Option.map _ (if _ then _ else _) = _
  rw [if_neg (by decide), if_neg e, if_pos rfl]
  cases readIn (s[j] :: s.data.toList.drop (j + 1)) with
  | none => rfl
  | some x =>
    obtain ⟨u, k⟩ := x
    simp only
    rw [Option.map_map, ← dropAt s j hj, List.drop_drop]
    show Option.map _ (readItems 13 [u] _) = Option.map _ (readItems 13 [u] _)
    congr 1
    funext x
    simp; omega
theorem rlAt_gap (s : ByteArray) (j : Nat) (hj : j < s.size) (acc : List V) (h0 : acc ≠ []) (h : acc.length ≤ 12) (hc : (s[j].toNat : Int) ≠ 93) (hs : (s[j].toNat : Int) ≠ 32) : rlAt s j acc = none := by
  obtain ⟨n, hn⟩ := rl_fuel (acc := acc) (by omega)
  have e : s[j] ≠ 93 := fun h => hc (by rw [h]; rfl)
  have e2 : s[j] ≠ 32 := fun h => hs (by rw [h]; rfl)
  unfold rlAt
  rw [dropAt s j hj, hn]
  unfold readItems
  show Option.map _ (if _ then _ else _) = _
  rw [if_neg (by omega), if_neg e, if_neg h0, if_neg e2]; rfl
theorem rlAt_more (s : ByteArray) (j : Nat) (hj : j < s.size) (acc : List V) (h0 : acc ≠ []) (h : acc.length ≤ 12) (hs : (s[j].toNat : Int) = 32) : rlAt s j acc = match readIn (s.data.toList.drop (j + 1)) with
    | none => none
    | some (u, k) => rlAt s (j + 1 + k) (acc ++ [u]) := by
  obtain ⟨n, hn⟩ := rl_fuel (acc := acc) (by omega)
  have e2 : s[j] = 32 := UInt8.toNat_inj.1 (by have : (32 : UInt8).toNat = 32 := rfl; omega)
  unfold rlAt
  rw [dropAt s j hj, hn]
  conv => lhs; unfold readItems
  show Option.map _ (if _ then _ else _) = _
  rw [if_neg (by omega), if_neg (by rw [e2]; decide), if_neg h0, if_pos e2]
  cases readIn (s.data.toList.drop (j + 1)) with
  | none => rfl
  | some x =>
    obtain ⟨u, k⟩ := x
    simp only
    rw [Option.map_map, List.drop_drop, List.length_append, List.length_singleton, show 14 - (acc.length + 1) = n from by omega]
    congr 1
    funext x
    simp; omega

theorem itm_of {u : V} (h : u.flatOk = true) : Itm u (itOf u) := ⟨h, rfl, rfl, rfl, rfl⟩
theorem readIn_ok {l : List UInt8} {u : V} {k : Nat} (h : readIn l = some (u, k)) : u.flatOk = true := by
  unfold readIn at h
  repeat' split at h
  all_goals first
    | (cases h; assumption)
    | (cases h; rename_i h1; exact h1.2)
    | (cases h; rfl)
    | cases h

/-- what readList answers -/
def readListPost (r : Option (List V × Nat)) (W : World) (e : Ending) (W' : World) : Prop :=
  Below W.heap.size W W' ∧ match r with
    | none => e = .returned (.tuple #[valV 0 0 ⟨#[]⟩ (.slice none 0 0), .int .i64 0, .bool false])
    | some (us, k) => us.length ≤ 12 ∧ (∀ u ∈ us, u.flatOk = true) ∧ ∃ (p : Option Addr) (m c : Nat), e = .returned (.tuple #[valV 5 0 ⟨#[]⟩ (.slice p m c), .int .i64 (k : Int), .bool true]) ∧ VAt 1 W' (.mk 5 0 ⟨#[]⟩ us) ⟨5, 0, ⟨#[]⟩, p, m, c⟩ ∧ ∀ a, p = some a → W.heap.size ≤ a.block

def Boxes (W : World) (acc : List V) (v : Value) (wr : World) : Prop :=
  VBox wr W.heap.size 0 0 ⟨#[]⟩ (.slice none 0 0) ∧ VBox wr (W.heap.size + 1) 5 0 ⟨#[]⟩ v ∧ wr.ownsRow (W.heap.size + 2) 37 4 v acc.length (itsCells (acc.map itOf)) ∧ Below W.heap.size W wr
theorem Boxes.below {W : World} {acc : List V} {v : Value} {wr wr' : World} (h : Boxes W acc v wr) (hb : Below wr.heap.size wr wr') : Boxes W acc v wr' :=
  ⟨h.1.below hb, h.2.1.below hb, owned_below h.2.2.1 hb, h.2.2.2.trans (hb.mono h.2.2.2.size)⟩

theorem boxes_grown {W w1 w2 : World} {acc : List V} {v : Value} {o o' : Obj} (h : Boxes W acc v w1) (hg : ((w1.alloc o).alloc o').grownBy w2 v.ownBlock) (hb : ∀ g, v.ownBlock = some g → W.heap.size + 2 ≤ g) : VBox w2 W.heap.size 0 0 ⟨#[]⟩ (.slice none 0 0) ∧ VBox w2 (W.heap.size + 1) 5 0 ⟨#[]⟩ v ∧ Below W.heap.size W w2 := by
  obtain ⟨h1, h2, h3, h4⟩ := h
  have a1 := (h1.alloc o).alloc o'
  have a2 := (h2.alloc o).alloc o'
  refine ⟨(hg.block _ a1.lt (fun e => by have := hb _ e.symm; omega)).trans a1, (hg.block _ a2.lt (fun e => by have := hb _ e.symm; omega)).trans a2, ?_⟩
  exact ((h4.alloc h4.size o).alloc (by have := h4.size; simp; omega) o').grown hg (by have := h4.size; simp; omega) (fun g hg' => by have := hb g hg'; omega)
theorem boxes_next {W w2 : World} {acc : List V} {v v' : Value} {u : V} (h : VBox w2 W.heap.size 0 0 ⟨#[]⟩ (.slice none 0 0) ∧ VBox w2 (W.heap.size + 1) 5 0 ⟨#[]⟩ v ∧ Below W.heap.size W w2) (hown : w2.ownsRow (W.heap.size + 2) 37 4 v' (acc.length + 1) (itsCells (acc.map itOf) ++ [.int .i64 u.k, .int .i64 u.n, .string u.s, .slice none 0 0])) : Boxes W (acc ++ [u]) v' (w2.setCell ⟨W.heap.size + 1, 3, none⟩ v') := by
  refine ⟨h.1.past ⟨W.heap.size + 1, 3, none⟩ (by show W.heap.size ≠ W.heap.size + 1; omega) _, h.2.1.set3 v', ?_, h.2.2.setCell (p := ⟨W.heap.size + 1, 3, none⟩) (by show W.heap.size ≤ W.heap.size + 1; omega) _⟩
  have e : itsCells ((acc ++ [u]).map itOf) = itsCells (acc.map itOf) ++ [.int .i64 u.k, .int .i64 u.n, .string u.s, .slice none 0 0] := by
    rw [List.map_append, itsCells_append]; rfl
  rw [e, List.length_append, List.length_singleton]
  refine hown.kept (row := some (W.heap.size + 1)) ⟨rfl, rfl, rfl, by simp, fun k hk hne => Below.heap_setCell w2 ⟨W.heap.size + 1, 3, none⟩ v' k (fun e => hne (by rw [e]))⟩ ?_
  rcases hown.2 with ⟨rfl, _⟩ | ⟨g, cap, cur, rfl, hg, _⟩
  · exact .inl rfl
  · exact .inr (fun e => by have e2 : g = W.heap.size + 1 := Option.some.inj e; omega)
theorem numTxt_le (least most : Int) (l : List UInt8) : (numTxt least most l).2.1 ≤ l.length := by
  have h1 : ∀ (sg m : Int) (l : List UInt8), (numTail sg m l).2.1 ≤ l.length := by
    intro sg m l
    unfold numTail
    split
    · rename_i h
      cases l with
      | nil => cases h
      | cons c r => simp
    · have : ∀ (l : List UInt8) (n : Int), (digGo m n l).2 ≤ l.length := by
        intro l
        induction l with
        | nil => intro n; exact Nat.le_refl _
        | cons c r ih =>
          intro n
          unfold digGo
          split
          · have := ih (n * 10 + ((c.toNat : Int) - 48)); simp; omega
          · simp
      exact this l 0
  unfold numTxt
  split
  · rename_i h
    cases l with
    | nil => cases h
    | cons c r => have := h1 (-1) (-least) r; simp; omega
  · exact h1 _ _ _
theorem unq_le : ∀ (n : Nat) (l acc : List UInt8), l.length ≤ n → ∀ t k, unq acc l = some (t, k) → k ≤ l.length := by
  intro n
  induction n using Nat.strongRecOn with
  | _ n ih =>
    intro l acc hn t k h
    cases l with
    | nil => cases h
    | cons c r =>
      unfold unq at h
      split at h
      · cases h; simp
      · split at h
        · cases r with
          | nil => cases h
          | cons d r' =>
            simp only at h
            split at h
            · cases h2 : unq (acc ++ [d]) r' with
              | none => rw [h2] at h; cases h
              | some x =>
                rw [h2] at h; cases h
                have := ih r'.length (by simp at hn; omega) r' _ (Nat.le_refl _) x.1 x.2 h2
                simp; omega
            · cases h
        · cases h2 : unq (acc ++ [c]) r with
          | none => rw [h2] at h; cases h
          | some x =>
            rw [h2] at h; cases h
            have := ih r.length (by simp at hn; omega) r _ (Nat.le_refl _) x.1 x.2 h2
            simp; omega
theorem readIn_le {l : List UInt8} {u : V} {k : Nat} (h : readIn l = some (u, k)) : k ≤ l.length := by
  cases l with
  | nil => cases h
  | cons c r =>
    have n1 := numTxt_le (-20) 100000 r
    have n2 := numTxt_le (-1000000000000000) 1000000000000000 (c :: r)
    unfold readIn at h
    simp only at h
    split at h
    · cases h2 : unq [] r with
      | none => rw [h2] at h; cases h
      | some x =>
        rw [h2] at h
        simp only at h
        split at h
        · cases h
          have := unq_le _ r [] (Nat.le_refl _) x.1 x.2 h2
          simp; omega
        · cases h
    · split at h
      · split at h
        · cases h; simp; omega
        · cases h
      · split at h
        · split at h
          · cases h; simp; omega
          · cases h
        · split at h
          · split at h
            · cases h; exact n2
            · cases h
          · split at h
            · cases h; simp
            · cases h

set_option maxHeartbeats 4000000 in
set_option maxRecDepth 100000 in
theorem readList_no (s : ByteArray) (p : Nat) (h : ∀ hp : p < s.size, (s[p].toNat : Int) ≠ 91) (W : World) :
    Calls Tryz.prog 35 #[.string s, .int .i64 (p : Int)] W (readListPost none W) := by
  by_cases hp : p < s.size
  · have h1 := h hp
    have d0 : ((s[p].toNat : Int) != 91) = true := by rw [bne_iff_ne]; exact h1
    clear h h1
    go_enter Tryz.func35, Tryz.ntmps35
    go_wp2_with fail
    exact bodyPost_ret (v := .tuple #[valV 0 0 ⟨#[]⟩ (.slice none 0 0), .int .i64 0, .bool false]) (by simp [results, Tryz.results35, go_sem]) rfl ⟨below_two _ _, rfl⟩
  · clear h
    go_enter Tryz.func35, Tryz.ntmps35
    go_wp2_with fail
    exact bodyPost_ret (v := .tuple #[valV 0 0 ⟨#[]⟩ (.slice none 0 0), .int .i64 0, .bool false]) (by simp [results, Tryz.results35, go_sem]) rfl ⟨below_two _ _, rfl⟩

set_option maxHeartbeats 4000000 in
set_option maxRecDepth 100000 in
theorem readList_yes (s : ByteArray) (hs : s.size ≤ 140737488355327) (p : Nat) (hp : p < s.size) (h : (s[p].toNat : Int) = 91) (W : World) (hT : Tabs W) :
    Calls Tryz.prog 35 #[.string s, .int .i64 (p : Int)] W (readListPost (rlAt s (p + 1) []) W) := by
  obtain ⟨i0, hi, hz0, hz1, hz2'⟩ := info_parts infoVal
  have d0 : ((s[p].toNat : Int) != 91) = false := by rw [bne_eq_false_iff_eq]; exact h
  have d00 : decide (s.size ≤ p) = false := decide_eq_false (by omega)
  have d01 : decide ((s.size : Int) ≤ (p : Int)) = false := decide_eq_false (by omega)
  generalize hr : rlAt s (p + 1) [] = res
  have HR := Lib.hid hr
  have HT := Lib.hid hT
  have hV0 : VBox ((W.alloc (.cells #[.int .i64 0, .int .i64 0, .string ⟨#[]⟩, .slice none 0 0] 37)).alloc (.cells #[.int .i64 5, .int .i64 0, .string ⟨#[]⟩, .slice none 0 0] 37)) W.heap.size 0 0 ⟨#[]⟩ (.slice none 0 0) := (VBox.new W _ _ _ _).alloc _
  have hV1 : VBox ((W.alloc (.cells #[.int .i64 0, .int .i64 0, .string ⟨#[]⟩, .slice none 0 0] 37)).alloc (.cells #[.int .i64 5, .int .i64 0, .string ⟨#[]⟩, .slice none 0 0] 37)) (W.heap.size + 1) 5 0 ⟨#[]⟩ (.slice none 0 0) := by
    have := VBox.new (W.alloc (.cells #[.int .i64 0, .int .i64 0, .string ⟨#[]⟩, .slice none 0 0] 37)) 5 0 ⟨#[]⟩ (.slice none 0 0)
    rwa [show (W.alloc (.cells #[.int .i64 0, .int .i64 0, .string ⟨#[]⟩, .slice none 0 0] 37)).heap.size = W.heap.size + 1 from by simp] at this
  have hB0 : Boxes W [] (.slice none 0 0) ((W.alloc (.cells #[.int .i64 0, .int .i64 0, .string ⟨#[]⟩, .slice none 0 0] 37)).alloc (.cells #[.int .i64 5, .int .i64 0, .string ⟨#[]⟩, .slice none 0 0] 37)) := ⟨hV0, hV1, World.ownsRow_nil _ _ _ _, below_two _ _⟩
  clear h hr hT hV0 hV1
  go_enter Tryz.func35, Tryz.ntmps35
  go_wp2_with fail
  go_loopw [1] (fun i wr => ∃ (j : Nat) (acc : List V) (v : Value), j ≤ s.size ∧ i = .int .i64 (j : Int) ∧ acc.length ≤ 13 ∧ (∀ u ∈ acc, u.flatOk = true) ∧ rlAt s j acc = res ∧ Boxes W acc v wr) (fun _ wr => match wr.cell? ⟨W.heap.size + 1, 3, none⟩ with | some (.slice _ m _) => 14 - m | _ => 0)
  case atStart => exact ⟨p + 1, [], _, by omega, by go_num, by simp, by simp, HR.out, hB0⟩
  case round =>
    obtain ⟨j, acc, v, hj, rfl, hal, hflat, hrl, hbx⟩ := hrel
    have HRL := Lib.hid hrl
    have HFL := Lib.hid hflat
    have HBX := Lib.hid hbx
    have hown := hbx.2.2.1
    have hzw := hbx.2.1.lt
    obtain ⟨⟨c0, c1, c2, c3⟩, f0, f1, f2, f3⟩ := hbx.2.1.facts
    obtain ⟨⟨e0, e1, e2, e3⟩, g0, g1, g2, g3⟩ := hbx.1.facts
    obtain ⟨vp, vc, hv⟩ : ∃ vp vc, v = .slice vp acc.length vc := by
      rcases hown.2 with ⟨h, h'⟩ | ⟨g, cap, _, h, _⟩
      · exact ⟨none, 0, by rw [h, h']⟩
      · exact ⟨_, _, h⟩
    subst hv
    clear hrl hflat hbx d0
    by_cases hlt : j < s.size
    · by_cases hl12 : acc.length ≤ 12
      · by_cases h93 : (s[j].toNat : Int) = 93
        · have d1 : ((s[j].toNat : Int) == 93) = true := by rw [beq_iff_eq]; exact h93
          have hq := rlAt_close s j hlt acc hl12 h93
          rw [HRL.out] at hq
          have HQ := Lib.hid hq
          clear hq h93
          go_wp2_with fail
          have hV := HBX.out.1.put 5 0 ⟨#[]⟩ (.slice vp acc.length vc)
          have hB := below_put HBX.out.2.2.2 (b := W.heap.size) (Nat.le_refl _) 5 0 ⟨#[]⟩ (.slice vp acc.length vc)
          have hL : Lies wr (.slice vp acc.length vc) (acc.map itOf).length 4 (itsCells (acc.map itOf)) := by
            have := Lies.own hown
            rwa [List.length_map]
          have hne : ∀ a m' c', (Value.slice vp acc.length vc) = .slice (some a) m' c' → W.heap.size + 2 ≤ a.block := fun a m' c' ha => by
            injection ha with h1 _ _
            exact (hown.lt a.block (by rw [h1]; rfl)).1
          have hne2 : ∀ a m' c', (Value.slice vp acc.length vc) = .slice (some a) m' c' → a.block ≠ W.heap.size := fun a m' c' ha => by have := hne a m' c' ha; omega
          have hL9 := (((hL.past ⟨W.heap.size, 0, none⟩ hne2 (.int .i64 5)).past ⟨W.heap.size, 1, none⟩ hne2 (.int .i64 0)).past ⟨W.heap.size, 2, none⟩ hne2 (.string ⟨#[]⟩)).past ⟨W.heap.size, 3, none⟩ hne2 (.slice vp acc.length vc)
          unfold putBox at hV hB
          generalize (((wr.setCell ⟨W.heap.size, 0, none⟩ (.int .i64 5)).setCell ⟨W.heap.size, 1, none⟩ (.int .i64 0)).setCell ⟨W.heap.size, 2, none⟩ (.string ⟨#[]⟩)).setCell ⟨W.heap.size, 3, none⟩ (.slice vp acc.length vc) = W9 at hV hB hL9 ⊢
          obtain ⟨⟨x0, x1, x2, x3⟩, _⟩ := hV.facts
          have hat := vat_list hl12 (by simp) hL9 (fun i h h' => by rw [List.getElem_map]; exact itm_of (HFL.out _ (List.getElem_mem _)))
          exact bodyPost_ret (v := .tuple #[valV 5 0 ⟨#[]⟩ (.slice vp acc.length vc), .int .i64 ((j : Int) + 1), .bool true]) (by simp [results, Tryz.results35, go_sem, x0, x1, x2, x3]) rfl ⟨hB, by rw [HQ.out]; exact ⟨hl12, HFL.out, vp, acc.length, vc, by rw [show ((1 + j : Nat) : Int) = (j : Int) + 1 from by omega], hat, fun a ha => by have := hne a _ _ (by rw [ha]); omega⟩⟩
        · have d1 : ((s[j].toNat : Int) == 93) = false := by rw [beq_eq_false_iff_ne]; exact h93
          by_cases hnil : acc = []
          · have hq := hnil ▸ rlAt_first s j hlt h93
            have hq : rlAt s j acc = match readIn (s.data.toList.drop j) with
                | none => none
                | some (u, k) => rlAt s (j + k) (acc ++ [u]) := by rw [hnil]; exact rlAt_first s j hlt h93
            have hl0 : ¬ 0 < acc.length := by rw [hnil]; simp
            rw [HRL.out] at hq
            clear hnil h93
            have hrd := fun w hw => read_any s hs (j) w hw
            have HRD := Lib.hid hrd
            cases hri : readIn (s.data.toList.drop (j)) with
            | none =>
              rw [hri] at hq
              have HQ := Lib.hid hq
              have HRI := Lib.hid hri
              clear hq hri hrd
              go_wp2_with fail
              refine (HRD.out _ (HT.out.below HBX.out.2.2.2)).mono ?_
              rintro e W2 ⟨hB2, hm⟩
              rw [HRI.out] at hm
              obtain rfl := hm
              have hbx2 := HBX.out.below hB2
              clear c0 c1 c2 c3 f0 f1 f2 f3 e0 e1 e2 e3 g0 g1 g2 g3
              obtain ⟨⟨c0, c1, c2, c3⟩, f0, f1, f2, f3⟩ := hbx2.2.1.facts
              obtain ⟨⟨e0, e1, e2, e3⟩, g0, g1, g2, g3⟩ := hbx2.1.facts
              have hz2 := hbx2.2.1.lt
              have hz3 := hbx2.1.lt
              have HBX2 := Lib.hid hbx2
              clear hbx2 hB2
              go_wp2_with fail
              have hV := (HBX2.out.1.put 0 0 ⟨#[]⟩ (.slice none 0 0)).alloc (.cells #[.int .i64 0, .int .i64 0, .string ⟨#[]⟩, .slice none 0 0] 37)
              have hB := (below_put HBX2.out.2.2.2 (b := W.heap.size) (Nat.le_refl _) 0 0 ⟨#[]⟩ (.slice none 0 0)).alloc (by simp [putBox]; omega) (.cells #[.int .i64 0, .int .i64 0, .string ⟨#[]⟩, .slice none 0 0] 37)
              unfold putBox at hV hB
              generalize ((((W2.setCell ⟨W.heap.size, 0, none⟩ (.int .i64 0)).setCell ⟨W.heap.size, 1, none⟩ (.int .i64 0)).setCell ⟨W.heap.size, 2, none⟩ (.string ⟨#[]⟩)).setCell ⟨W.heap.size, 3, none⟩ (.slice none 0 0)).alloc (.cells #[.int .i64 0, .int .i64 0, .string ⟨#[]⟩, .slice none 0 0] 37) = W9 at hV hB ⊢
              obtain ⟨⟨x0, x1, x2, x3⟩, _⟩ := hV.facts
              exact bodyPost_ret (v := .tuple #[valV 0 0 ⟨#[]⟩ (.slice none 0 0), .int .i64 0, .bool false]) (by simp [results, Tryz.results35, go_sem, x0, x1, x2, x3]) rfl ⟨hB, by rw [HQ.out]⟩
            | some x =>
              obtain ⟨u, k⟩ := x
              rw [hri] at hq
              have hfu := readIn_ok hri
              have HQ := Lib.hid hq
              have HRI := Lib.hid hri
              have HFU := Lib.hid hfu
              have hpk := readIn_le hri
              have hdl : (s.data.toList.drop (j)).length = s.size - (j) := by simp
              rw [hdl] at hpk
              clear hq hri hrd hfu hdl
              go_wp2_with fail
              refine (HRD.out _ (HT.out.below HBX.out.2.2.2)).mono ?_
              rintro e W2 ⟨hB2, hm⟩
              rw [HRI.out] at hm
              obtain rfl := hm
              have hbx2 := HBX.out.below hB2
              clear c0 c1 c2 c3 f0 f1 f2 f3 e0 e1 e2 e3 g0 g1 g2 g3 hown
              have hown2 := hbx2.2.2.1
              obtain ⟨⟨c0, c1, c2, c3⟩, f0, f1, f2, f3⟩ := hbx2.2.1.facts
              have hz2 := hbx2.2.1.lt
              have hz3 := hbx2.1.lt
              have HBX2 := Lib.hid hbx2
              clear hbx2 hB2
              obtain ⟨uk, un, us, ul⟩ := u
              simp only [V.k, V.n, V.s] at *
              go_wp2_with (at_builtin; refine wpList_append_lies _ rfl _ _ _ rfl (W.heap.size + 2) 37 i0 _ 4 56 Tryz.underlying31 hi hz0 hz1 hz2' rfl (by omega) _ acc.length _ rfl ((hown2.alloc _).alloc _) ⟨W2.heap.size + 1, 0, none⟩ 1 1 [.int .i64 uk, .int .i64 un, .string us, .slice none 0 0] rfl rfl (World.news_of_block (cs := #[.int .i64 uk, .int .i64 un, .string us, .slice none 0 0]) (t := 37) (fr := (0, 0)) (by have h := World.alloc_heap_new (W2.alloc (.cells #[.int .i64 uk, .int .i64 un, .string us, .slice none 0 0] 37)) (.cells #[.int .i64 uk, .int .i64 un, .string us, .slice none 0 0] 37); rw [World.size_alloc] at h; exact h)) (by simp [Value.oneCell']) (by omega) (by simp [maxLen]; omega) (by omega) (by simp; omega) (W2.heap.size + 2) (by simp) ?_; intro gg cap w2 hown1 hgrow hat hlt2; have hgo := fun g (hg : Value.ownBlock (.slice vp acc.length vc) = some g) => (hown2.lt g hg).1; have hV2 := boxes_grown HBX2.out hgrow hgo; obtain ⟨⟨y0, y1, y2, y3⟩, z0, z1, z2, z3⟩ := hV2.2.1.facts)
              have hfinal : Boxes W (acc ++ [.mk uk un us ul]) (.slice (some ⟨gg, 0, none⟩) (acc.length + 1) cap) (w2.setCell ⟨W.heap.size + 1, 3, none⟩ (.slice (some ⟨gg, 0, none⟩) (acc.length + 1) cap)) := boxes_next hV2 hown1
              refine ⟨⟨j + k, acc ++ [.mk uk un us ul], _, by omega, by go_num, by simp; omega, ?_, HQ.out.symm, hfinal⟩, ?_⟩
              · intro v hv
                rcases List.mem_append.1 hv with h | h
                · exact HFL.out v h
                · rw [List.mem_singleton.1 h]; exact HFU.out
              · have q3 := hfinal.2.1.facts.1.2.2.2
                have q4 := HBX.out.2.1.facts.1.2.2.2
                rw [q3, q4]
                simp only
                omega
          · have hl0 : 0 < acc.length := List.length_pos_iff.2 hnil
            by_cases h32 : (s[j].toNat : Int) = 32
            · have d2 : ((s[j].toNat : Int) != 32) = false := by rw [bne_eq_false_iff_eq]; exact h32
              have hq := rlAt_more s j hlt acc hnil hl12 h32
              rw [HRL.out] at hq
              clear hnil h93 h32
              have hrd := fun w hw => read_any s hs (j + 1) w hw
              have HRD := Lib.hid hrd
              cases hri : readIn (s.data.toList.drop (j + 1)) with
              | none =>
                rw [hri] at hq
                have HQ := Lib.hid hq
                have HRI := Lib.hid hri
                clear hq hri hrd
                go_wp2_with fail
                refine (HRD.out _ (HT.out.below HBX.out.2.2.2)).mono ?_
                rintro e W2 ⟨hB2, hm⟩
                rw [HRI.out] at hm
                obtain rfl := hm
                have hbx2 := HBX.out.below hB2
                clear c0 c1 c2 c3 f0 f1 f2 f3 e0 e1 e2 e3 g0 g1 g2 g3
                obtain ⟨⟨c0, c1, c2, c3⟩, f0, f1, f2, f3⟩ := hbx2.2.1.facts
                obtain ⟨⟨e0, e1, e2, e3⟩, g0, g1, g2, g3⟩ := hbx2.1.facts
                have hz2 := hbx2.2.1.lt
                have hz3 := hbx2.1.lt
                have HBX2 := Lib.hid hbx2
                clear hbx2 hB2
                go_wp2_with fail
                have hV := (HBX2.out.1.put 0 0 ⟨#[]⟩ (.slice none 0 0)).alloc (.cells #[.int .i64 0, .int .i64 0, .string ⟨#[]⟩, .slice none 0 0] 37)
                have hB := (below_put HBX2.out.2.2.2 (b := W.heap.size) (Nat.le_refl _) 0 0 ⟨#[]⟩ (.slice none 0 0)).alloc (by simp [putBox]; omega) (.cells #[.int .i64 0, .int .i64 0, .string ⟨#[]⟩, .slice none 0 0] 37)
                unfold putBox at hV hB
                generalize ((((W2.setCell ⟨W.heap.size, 0, none⟩ (.int .i64 0)).setCell ⟨W.heap.size, 1, none⟩ (.int .i64 0)).setCell ⟨W.heap.size, 2, none⟩ (.string ⟨#[]⟩)).setCell ⟨W.heap.size, 3, none⟩ (.slice none 0 0)).alloc (.cells #[.int .i64 0, .int .i64 0, .string ⟨#[]⟩, .slice none 0 0] 37) = W9 at hV hB ⊢
                obtain ⟨⟨x0, x1, x2, x3⟩, _⟩ := hV.facts
                exact bodyPost_ret (v := .tuple #[valV 0 0 ⟨#[]⟩ (.slice none 0 0), .int .i64 0, .bool false]) (by simp [results, Tryz.results35, go_sem, x0, x1, x2, x3]) rfl ⟨hB, by rw [HQ.out]⟩
              | some x =>
                obtain ⟨u, k⟩ := x
                rw [hri] at hq
                have hfu := readIn_ok hri
                have HQ := Lib.hid hq
                have HRI := Lib.hid hri
                have HFU := Lib.hid hfu
                have hpk := readIn_le hri
                have hdl : (s.data.toList.drop (j + 1)).length = s.size - (j + 1) := by simp
                rw [hdl] at hpk
                clear hq hri hrd hfu hdl
                go_wp2_with fail
                refine (HRD.out _ (HT.out.below HBX.out.2.2.2)).mono ?_
                rintro e W2 ⟨hB2, hm⟩
                rw [HRI.out] at hm
                obtain rfl := hm
                have hbx2 := HBX.out.below hB2
                clear c0 c1 c2 c3 f0 f1 f2 f3 e0 e1 e2 e3 g0 g1 g2 g3 hown
                have hown2 := hbx2.2.2.1
                obtain ⟨⟨c0, c1, c2, c3⟩, f0, f1, f2, f3⟩ := hbx2.2.1.facts
                have hz2 := hbx2.2.1.lt
                have hz3 := hbx2.1.lt
                have HBX2 := Lib.hid hbx2
                clear hbx2 hB2
                obtain ⟨uk, un, us, ul⟩ := u
                simp only [V.k, V.n, V.s] at *
                go_wp2_with (at_builtin; refine wpList_append_lies _ rfl _ _ _ rfl (W.heap.size + 2) 37 i0 _ 4 56 Tryz.underlying31 hi hz0 hz1 hz2' rfl (by omega) _ acc.length _ rfl ((hown2.alloc _).alloc _) ⟨W2.heap.size + 1, 0, none⟩ 1 1 [.int .i64 uk, .int .i64 un, .string us, .slice none 0 0] rfl rfl (World.news_of_block (cs := #[.int .i64 uk, .int .i64 un, .string us, .slice none 0 0]) (t := 37) (fr := (0, 0)) (by have h := World.alloc_heap_new (W2.alloc (.cells #[.int .i64 uk, .int .i64 un, .string us, .slice none 0 0] 37)) (.cells #[.int .i64 uk, .int .i64 un, .string us, .slice none 0 0] 37); rw [World.size_alloc] at h; exact h)) (by simp [Value.oneCell']) (by omega) (by simp [maxLen]; omega) (by omega) (by simp; omega) (W2.heap.size + 2) (by simp) ?_; intro gg cap w2 hown1 hgrow hat hlt2; have hgo := fun g (hg : Value.ownBlock (.slice vp acc.length vc) = some g) => (hown2.lt g hg).1; have hV2 := boxes_grown HBX2.out hgrow hgo; obtain ⟨⟨y0, y1, y2, y3⟩, z0, z1, z2, z3⟩ := hV2.2.1.facts)
                have hfinal : Boxes W (acc ++ [.mk uk un us ul]) (.slice (some ⟨gg, 0, none⟩) (acc.length + 1) cap) (w2.setCell ⟨W.heap.size + 1, 3, none⟩ (.slice (some ⟨gg, 0, none⟩) (acc.length + 1) cap)) := boxes_next hV2 hown1
                refine ⟨⟨j + 1 + k, acc ++ [.mk uk un us ul], _, by omega, by go_num, by simp; omega, ?_, HQ.out.symm, hfinal⟩, ?_⟩
                · intro v hv
                  rcases List.mem_append.1 hv with h | h
                  · exact HFL.out v h
                  · rw [List.mem_singleton.1 h]; exact HFU.out
                · have q3 := hfinal.2.1.facts.1.2.2.2
                  have q4 := HBX.out.2.1.facts.1.2.2.2
                  rw [q3, q4]
                  simp only
                  omega
            · have d2 : ((s[j].toNat : Int) != 32) = true := by rw [bne_iff_ne]; exact h32
              have hq := rlAt_gap s j hlt acc hnil hl12 h93 h32
              rw [HRL.out] at hq
              have HQ := Lib.hid hq
              clear hq h93 h32 hnil
              go_wp2_with fail
              have hV := HBX.out.1.put 0 0 ⟨#[]⟩ (.slice none 0 0)
              have hB := below_put HBX.out.2.2.2 (b := W.heap.size) (Nat.le_refl _) 0 0 ⟨#[]⟩ (.slice none 0 0)
              unfold putBox at hV hB
              generalize (((wr.setCell ⟨W.heap.size, 0, none⟩ (.int .i64 0)).setCell ⟨W.heap.size, 1, none⟩ (.int .i64 0)).setCell ⟨W.heap.size, 2, none⟩ (.string ⟨#[]⟩)).setCell ⟨W.heap.size, 3, none⟩ (.slice none 0 0) = W9 at hV hB ⊢
              obtain ⟨⟨x0, x1, x2, x3⟩, _⟩ := hV.facts
              exact bodyPost_ret (v := .tuple #[valV 0 0 ⟨#[]⟩ (.slice none 0 0), .int .i64 0, .bool false]) (by simp [results, Tryz.results35, go_sem, x0, x1, x2, x3]) rfl ⟨hB, by rw [HQ.out]⟩
      · have hq := rlAt_long s j hlt acc hal (by omega)
        rw [HRL.out] at hq
        have HQ := Lib.hid hq
        clear hq
        go_wp2_with fail
        have hV := HBX.out.1.put 0 0 ⟨#[]⟩ (.slice none 0 0)
        have hB := below_put HBX.out.2.2.2 (b := W.heap.size) (Nat.le_refl _) 0 0 ⟨#[]⟩ (.slice none 0 0)
        unfold putBox at hV hB
        generalize (((wr.setCell ⟨W.heap.size, 0, none⟩ (.int .i64 0)).setCell ⟨W.heap.size, 1, none⟩ (.int .i64 0)).setCell ⟨W.heap.size, 2, none⟩ (.string ⟨#[]⟩)).setCell ⟨W.heap.size, 3, none⟩ (.slice none 0 0) = W9 at hV hB ⊢
        obtain ⟨⟨x0, x1, x2, x3⟩, _⟩ := hV.facts
        exact bodyPost_ret (v := .tuple #[valV 0 0 ⟨#[]⟩ (.slice none 0 0), .int .i64 0, .bool false]) (by simp [results, Tryz.results35, go_sem, x0, x1, x2, x3]) rfl ⟨hB, by rw [HQ.out]⟩
    · obtain rfl : j = s.size := by omega
      have hq := rlAt_end s acc hal
      rw [HRL.out] at hq
      have HQ := Lib.hid hq
      clear hq
      go_wp2_with fail
      have hV := HBX.out.1.put 0 0 ⟨#[]⟩ (.slice none 0 0)
      have hB := below_put HBX.out.2.2.2 (b := W.heap.size) (Nat.le_refl _) 0 0 ⟨#[]⟩ (.slice none 0 0)
      unfold putBox at hV hB
      generalize (((wr.setCell ⟨W.heap.size, 0, none⟩ (.int .i64 0)).setCell ⟨W.heap.size, 1, none⟩ (.int .i64 0)).setCell ⟨W.heap.size, 2, none⟩ (.string ⟨#[]⟩)).setCell ⟨W.heap.size, 3, none⟩ (.slice none 0 0) = W9 at hV hB ⊢
      obtain ⟨⟨x0, x1, x2, x3⟩, _⟩ := hV.facts
      exact bodyPost_ret (v := .tuple #[valV 0 0 ⟨#[]⟩ (.slice none 0 0), .int .i64 0, .bool false]) (by simp [results, Tryz.results35, go_sem, x0, x1, x2, x3]) rfl ⟨hB, by rw [HQ.out]⟩

theorem readList_any (s : ByteArray) (hs : s.size ≤ 140737488355327) (p : Nat) (W : World) (hT : Tabs W) :
    Calls Tryz.prog 35 #[.string s, .int .i64 (p : Int)] W (readListPost (if (s.data.toList.drop p).head? = some 91 then rlAt s (p + 1) [] else none) W) := by
  by_cases hp : p < s.size
  · by_cases h : (s[p].toNat : Int) = 91
    · rw [if_pos ((head_at s p hp 91).2 h)]
      exact readList_yes s hs p hp h W hT
    · rw [if_neg (fun k => h ((head_at s p hp 91).1 k))]
      exact readList_no s p (fun _ => h) W
  · rw [if_neg (by rw [drop_end s p (by omega)]; simp)]
    exact readList_no s p (fun k => absurd k hp) W
end Go.Proofs.YtffoklhopmhjaaaGreatDoor

/- class.read. -/
set_option linter.unusedSimpArgs false
set_option linter.unusedVariables false
namespace Go.Proofs.YtffoklhopmhjaaaGreatDoor
open Go Go.RowKit Go.Shelf Go.Sort

theorem infoFld : (Tryz.prog.info? 48).map (fun i => (i.zero, i.size, i.bytes)) = some (some (.agg #[.string ⟨#[]⟩, .int .i64 0, .int .i64 0, .bool false]), 4, 40) := by kernel_rfl
abbrev textFnR (R : Nat) : Value := .func (.func 46) #[.pointer (some ⟨R, 0, none⟩)] #[]
abbrev numFnR (R : Nat) : Value := .func (.func 47) #[.pointer (some ⟨R, 0, none⟩)] #[]
/-- what read answers -/
def readCPost (w0 : World) (ea : Addr) (s : ByteArray) (R : Nat) (nm : ByteArray) (res : Bool × List Fl × Option Nat) (W : World) (e : Ending) (W' : World) : Prop :=
  Kept R W W' ∧ RrO w0 ea s R res.2.2 W' ∧ ∃ (cn : ByteArray) (q : Option Addr) (m c : Nat), e = .returned (.tuple #[clV cn q m c, .bool res.1]) ∧ (res.1 = true → cn = nm ∧ FLies W' q m c res.2.1)
theorem loopS_succ (s : ByteArray) (n : Nat) (acc : List Fl) (o : Option Nat) : loopS s (n + 1) acc o = if (stepF s o).2.1 = 0 then loopS s n (acc ++ [(stepF s o).1]) (stepF s o).2.2
      else if (stepF s o).2.1 = 1 then loopS s n (acc ++ [{ (stepF s o).1 with ix := true }]) (stepF s o).2.2
      else (false, acc, (stepF s o).2.2) := rfl
theorem loop_stop {s : ByteArray} {n : Nat} {acc : List Fl} {o : Option Nat} {f : Fl} {x : Int} {o' : Option Nat} (h : stepF s o = (f, x, o')) (h0 : x ≠ 0) (h1 : x ≠ 1) : loopS s (n + 1) acc o = (false, acc, o') := by
  rw [loopS_succ, h]
  simp only
  rw [if_neg h0, if_neg h1]
theorem loop_go {s : ByteArray} {n : Nat} {acc : List Fl} {o : Option Nat} {f : Fl} {x : Int} {o' : Option Nat} (h : stepF s o = (f, x, o')) (hx : x = 0 ∨ x = 1) (hf : f.ix = false) : loopS s (n + 1) acc o = loopS s n (acc ++ [{ f with ix := x == 1 }]) o' := by
  rw [loopS_succ, h]
  simp only
  rcases hx with rfl | rfl
  · rw [if_pos rfl]
    obtain ⟨a, b, c, d⟩ := f
    simp only at hf
    subst hf
    rfl
  · rw [if_neg (by decide), if_pos rfl]; rfl

theorem read_fin {w0 : World} {ea : Addr} {s : ByteArray} {R : Nat} {W0 : World} {C : Nat} {nm : ByteArray} {fs : List Fl} {vp : Option Addr} {vc : Nat} {o : Option Nat} {W : World} (h : ReadSt w0 ea s R W0 C nm fs vp vc o W) (nm' : ByteArray) (q : Option Addr) (m c : Nat) :
    Kept R W0 ((W.setCell ⟨W0.heap.size, 0, none⟩ (.string nm')).setCell ⟨W0.heap.size, 1, none⟩ (.slice q m c)) ∧ RrO w0 ea s R o ((W.setCell ⟨W0.heap.size, 0, none⟩ (.string nm')).setCell ⟨W0.heap.size, 1, none⟩ (.slice q m c)) ∧ CBox ((W.setCell ⟨W0.heap.size, 0, none⟩ (.string nm')).setCell ⟨W0.heap.size, 1, none⟩ (.slice q m c)) W0.heap.size nm' q m c := by
  have h1 := h.hR
  have h2 := h.lw
  have g1 := set_grown W W0.heap.size 0 (.string nm')
  have g2 := set_grown (W.setCell ⟨W0.heap.size, 0, none⟩ (.string nm')) W0.heap.size 1 (.slice q m c)
  have hb1 := below_grown h.rd.b0 g1 (by omega)
  have hr1 := h.rd.kept hb1 (g1.block R h.rd.lt (fun e => by have := Option.some.inj e; omega))
  exact ⟨kept_grown (kept_grown h.kept g1 (fun b e => by have := Option.some.inj e; omega)) g2 (fun b e => by have := Option.some.inj e; omega), hr1.kept (below_grown hb1 g2 (by omega)) (g2.block R hr1.lt (fun e => by have := Option.some.inj e; omega)), (h.out.set0 nm').set1 q m c⟩
theorem read_lies {w0 : World} {ea : Addr} {s : ByteArray} {R : Nat} {W0 : World} {C : Nat} {nm : ByteArray} {fs : List Fl} {vp : Option Addr} {vc : Nat} {o : Option Nat} {W : World} (h : ReadSt w0 ea s R W0 C nm fs vp vc o W) (nm' : ByteArray) (q : Option Addr) (m c : Nat) :
    FLies ((W.setCell ⟨W0.heap.size, 0, none⟩ (.string nm')).setCell ⟨W0.heap.size, 1, none⟩ (.slice q m c)) vp fs.length vc fs := by
  have h2 := h.hC
  have g1 := set_grown W W0.heap.size 0 (.string nm')
  have g2 := set_grown (W.setCell ⟨W0.heap.size, 0, none⟩ (.string nm')) W0.heap.size 1 (.slice q m c)
  have o1 := h.own.kept g1 (own_not h.own (by omega))
  exact ⟨rfl, Lies.own (o1.kept g2 (own_not o1 (by omega)))⟩

set_option maxHeartbeats 8000000 in
set_option maxRecDepth 100000 in
theorem clsRead_any (w0 : World) (ea : Addr) (s : ByteArray) (R : Nat) (o : Option Nat) (W : World) (h : RrO w0 ea s R o W) (hlw : w0.heap.size ≤ R) :
    Calls Tryz.prog 45 #[textFnR R, numFnR R] W (readCPost w0 ea s R ⟨(textS s o).1.toArray⟩ (clsRun s o) W) := by
  obtain ⟨i0, hi, hz0, hz1, hz2⟩ := info_parts infoFld
  have hRl := h.lt
  rcases ht0 : textS s o with ⟨t0, o1⟩
  rcases hn0 : numS s o1 with ⟨n0, o2⟩
  have hrun : clsRun s o = if n0 < 0 ∨ 8 < n0 then (false, [], o2) else loopS s n0.toNat [] o2 := by
    unfold clsRun
    rw [ht0]
    simp only
    rw [hn0]
  generalize clsRun s o = res at hrun ⊢
  simp only
  have hb : Below W.heap.size W (W.alloc (.cells #[.string ⟨#[]⟩, .slice none 0 0] 29)) := (Below.refl _ _).alloc (Nat.le_refl _) _
  have hT := rdText_any w0 ea s R o _ (h.below hb)
  unfold textRPost at hT
  rw [ht0] at hT
  simp only at hT
  generalize (⟨t0.toArray⟩ : ByteArray) = nm at hT ⊢
  have hA := CBox.new W ⟨#[]⟩ none 0 0
  have HA := Lib.hid hA
  have HB := Lib.hid hb
  have HT := Lib.hid hT
  have HRUN := Lib.hid hrun
  clear hA hb hT hrun h ht0
  go_enter Tryz.func45, Tryz.ntmps45
  go_wp2_with fail
  refine HT.out.mono ?_
  rintro e W1 ⟨rfl, hr1, hk1⟩
  have hzw : W.heap.size + 1 ≤ W1.heap.size := by have := hk1.size; simpa using this
  have hS : ReadSt w0 ea s R W W1.heap.size nm [] none 0 o1 (W1.alloc (.cells #[.string nm, .slice none 0 0] 29)) :=
    ⟨hlw, hRl, by omega, (HA.out.grown hk1 (fun e => by have := Option.some.inj e; omega)).alloc _, CBox.new _ _ _ _ _, World.ownsRow_nil _ _ _ _, hr1.below ((Below.refl _ _).alloc (Nat.le_refl _) _),
      ((Kept.below (Kept.refl R W) HB.out).trans hk1).below ((Below.refl _ _).alloc (Nat.le_refl _) _)⟩
  have HS1 := Lib.hid hS
  clear hS hr1 hk1 HA HB HT
  go_wp2_with fail
  generalize W1.alloc (.cells #[.string nm, .slice none 0 0] 29) = U1 at HS1 ⊢
  generalize W1.heap.size = C at HS1 hzw ⊢
  have hN := rdNum_any w0 ea s R o1 U1 HS1.out.rd
  unfold numRPost at hN
  rw [hn0] at hN
  simp only at hN
  refine hN.mono ?_
  rintro e W2 ⟨rfl, hr2, hk2⟩
  have HS2 := Lib.hid (HS1.out.call hr2 hk2)
  clear hr2 hk2 hN HS1 hn0
  obtain ⟨g0, g1⟩ := HS2.out.out.facts
  obtain ⟨g2, g3⟩ := HS2.out.out.free
  by_cases hbad : n0 < 0 ∨ 8 < n0
  · have hres : res = (false, [], o2) := by rw [HRUN.out, if_pos hbad]
    have hfin : Kept R W ((W2.setCell ⟨W.heap.size, 0, none⟩ (.string ⟨#[]⟩)).setCell ⟨W.heap.size, 1, none⟩ (.slice none 0 0)) ∧ RrO w0 ea s R o2 ((W2.setCell ⟨W.heap.size, 0, none⟩ (.string ⟨#[]⟩)).setCell ⟨W.heap.size, 1, none⟩ (.slice none 0 0)) ∧ CBox ((W2.setCell ⟨W.heap.size, 0, none⟩ (.string ⟨#[]⟩)).setCell ⟨W.heap.size, 1, none⟩ (.slice none 0 0)) W.heap.size ⟨#[]⟩ none 0 0 := read_fin HS2.out ⟨#[]⟩ none 0 0
    have HRES := Lib.hid hres
    have HFIN := Lib.hid hfin
    clear hres hfin
    by_cases h1 : n0 < 0
    · have d1 : decide (n0 < 0) = true := decide_eq_true h1
      go_wp2_with fail
      have hf := HFIN.out
      generalize ((W2.setCell ⟨W.heap.size, 0, none⟩ (.string ⟨#[]⟩)).setCell ⟨W.heap.size, 1, none⟩ (.slice none 0 0)) = W9 at hf ⊢
      obtain ⟨x0, x1⟩ := hf.2.2.facts
      exact bodyPost_ret (v := .tuple #[clV ⟨#[]⟩ none 0 0, .bool false]) (by simp [results, Tryz.results45, go_sem, x0, x1]) rfl ⟨hf.1, by rw [HRES.out]; exact hf.2.1, ⟨#[]⟩, none, 0, 0, by rw [HRES.out], fun e => by rw [HRES.out] at e; cases e⟩
    · have d1 : decide (n0 < 0) = false := decide_eq_false h1
      have h2 : 8 < n0 := by omega
      have d2 : decide (8 < n0) = true := decide_eq_true h2
      go_wp2_with fail
      have hf := HFIN.out
      generalize ((W2.setCell ⟨W.heap.size, 0, none⟩ (.string ⟨#[]⟩)).setCell ⟨W.heap.size, 1, none⟩ (.slice none 0 0)) = W9 at hf ⊢
      obtain ⟨x0, x1⟩ := hf.2.2.facts
      exact bodyPost_ret (v := .tuple #[clV ⟨#[]⟩ none 0 0, .bool false]) (by simp [results, Tryz.results45, go_sem, x0, x1]) rfl ⟨hf.1, by rw [HRES.out]; exact hf.2.1, ⟨#[]⟩, none, 0, 0, by rw [HRES.out], fun e => by rw [HRES.out] at e; cases e⟩
  · have hres : res = loopS s n0.toNat [] o2 := by rw [HRUN.out, if_neg hbad]
    obtain ⟨N, hN⟩ : ∃ N : Nat, n0 = (N : Int) := ⟨n0.toNat, by omega⟩
    subst hN
    rw [Int.toNat_natCast] at hres
    have hN8 : N ≤ 8 := by omega
    have d1 : decide ((N : Int) < 0) = false := decide_eq_false (by omega)
    have d2 : decide ((8 : Int) < (N : Int)) = false := decide_eq_false (by omega)
    have d1' : ¬ (N : Int) < 0 := by omega
    have d2' : ¬ (8 : Int) < (N : Int) := by omega
    have HRES := Lib.hid hres
    clear hres HRUN hbad g0 g1 g2 g3
    go_wp2_with fail
    go_loopw [23] (fun i wr => ∃ (k : Nat) (fs : List Fl) (vp : Option Addr) (vc : Nat) (o : Option Nat), k ≤ N ∧ i = .int .i64 (k : Int) ∧ fs.length = k ∧ res = loopS s (N - k) fs o ∧ ReadSt w0 ea s R W C nm fs vp vc o wr) (fun i _ => N - (intOf i).toNat)
    case atStart => exact ⟨0, [], none, 0, o2, by omega, rfl, rfl, HRES.out, HS2.out⟩
    case round =>
      obtain ⟨k, fs, vp, vc, o, hk, rfl, hfk, hres, hSt⟩ := hrel
      clear HS2 HRES
      by_cases hlt : k < N
      · have e1 : decide ((k : Int) < (N : Int)) = true := decide_eq_true (by omega)
        have e1' : (k : Int) < (N : Int) := by omega
        rcases ht : textS s o with ⟨t, o1⟩
        rcases hn1 : numS s o1 with ⟨kk, o2⟩
        rcases hn2 : numS s o2 with ⟨oo, o3⟩
        rcases hn3 : numS s o3 with ⟨xx, o4⟩
        have hstep : stepF s o = (⟨⟨t.toArray⟩, kk, oo, false⟩, xx, o4) := by
          unfold stepF
          simp only [ht, hn1, hn2, hn3]
        have hkn : N - k = (N - (k + 1)) + 1 := by omega
        rw [hkn] at hres
        have hstop := fun h0 h1 => hres.trans (loop_stop (n := N - (k + 1)) (acc := fs) hstep h0 h1)
        have hgo := fun hx => hres.trans (loop_go (n := N - (k + 1)) (acc := fs) hstep hx rfl)
        have hT := rdText_any w0 ea s R o _ hSt.rd
        unfold textRPost at hT
        rw [ht] at hT
        simp only at hT
        have hN1 := fun W' (h : RrO w0 ea s R o1 W') => rdNum_any w0 ea s R o1 W' h
        have hN2 := fun W' (h : RrO w0 ea s R o2 W') => rdNum_any w0 ea s R o2 W' h
        have hN3 := fun W' (h : RrO w0 ea s R o3 W') => rdNum_any w0 ea s R o3 W' h
        unfold numRPost at hN1 hN2 hN3
        rw [hn1] at hN1
        rw [hn2] at hN2
        rw [hn3] at hN3
        simp only at hN1 hN2 hN3
        have HSTOP := Lib.hid hstop
        have HGO := Lib.hid hgo
        have HT := Lib.hid hT
        have HN1 := Lib.hid hN1
        have HN2 := Lib.hid hN2
        have HN3 := Lib.hid hN3
        have S0 := Lib.hid hSt
        have HFK := Lib.hid hfk
        clear hstop hgo hT hN1 hN2 hN3 hSt hres hstep ht hn1 hn2 hn3 hkn hfk
        generalize (⟨t.toArray⟩ : ByteArray) = fn at *
        go_wp2_with fail
        refine HT.out.mono ?_
        rintro e X1 ⟨rfl, hr, hk⟩
        have S1 := Lib.hid (S0.out.call hr hk)
        clear hr hk S0 HT
        go_wp2_with fail
        refine (HN1.out _ S1.out.rd).mono ?_
        rintro e X2 ⟨rfl, hr, hk⟩
        have S2 := Lib.hid (S1.out.call hr hk)
        clear hr hk S1 HN1
        go_wp2_with fail
        refine (HN2.out _ S2.out.rd).mono ?_
        rintro e X3 ⟨rfl, hr, hk⟩
        have S3 := Lib.hid (S2.out.call hr hk)
        clear hr hk S2 HN2
        have S4 := Lib.hid (S3.out.alloc (.cells #[.string fn, .int .i64 kk, .int .i64 oo, .bool false] 48))
        have F4 := Lib.hid (FBox.new X3 ⟨fn, kk, oo, false⟩)
        have hzx : W.heap.size < X3.heap.size ∧ C < X3.heap.size ∧ R < X3.heap.size := ⟨by have := S3.out.out.lt; omega, S3.out.box.lt, S3.out.rd.lt⟩
        have hob : ∀ g, Value.ownBlock (.slice vp fs.length vc) = some g → g < X3.heap.size := fun g hg => (S3.out.own.lt g hg).2
        have HOB := Lib.hid hob
        clear hob S3
        go_wp2_with fail
        generalize X3.alloc (.cells #[.string fn, .int .i64 kk, .int .i64 oo, .bool false] 48) = X4 at S4 F4 ⊢
        generalize X3.heap.size = bf at F4 hzx HOB ⊢
        refine (HN3.out _ S4.out.rd).mono ?_
        rintro e X5 ⟨rfl, hr, hk⟩
        have S5 := Lib.hid (S4.out.call hr hk)
        have F5 := Lib.hid (F4.out.grown hk (fun e => by have := Option.some.inj e; omega))
        clear hr hk S4 HN3 F4
        by_cases hx : xx = 0 ∨ xx = 1
        · have hgo := HGO.out hx
          have HGO2 := Lib.hid hgo
          clear hgo HSTOP HGO
          have S6 := Lib.hid (S5.out.set bf 3 (.bool (xx == 1)) (by omega) (by omega) HOB.out)
          have F6 := Lib.hid (F5.out.set3 (xx == 1))
          obtain ⟨y0, y1, y2, y3⟩ := F5.out.facts
          have yf := F5.out.free
          obtain ⟨u0, u1, u2, u3⟩ := F6.out.facts
          simp only at y0 y1 y2 y3 u0 u1 u2 u3
          obtain ⟨c0, c1⟩ := S6.out.box.facts
          obtain ⟨c2, c3⟩ := S6.out.box.free
          have hown := S6.out.own
          have hC := S6.out.hC
          have hfl : fs.length ≤ 8 := by have := HFK.out; omega
          have HOWN := Lib.hid hown
          clear hown
          generalize hb1 : (xx == 1) = bx at *
          have dx : decide (xx = 0 ∨ xx = 1) = true := decide_eq_true hx
          rcases hx with rfl | rfl
          · have q1 : bx = false := by rw [← hb1]; rfl
            subst q1
            have hbx := F5.out.lt
            have S7 := Lib.hid (S6.out.alloc (.cells #[.string fn, .int .i64 kk, .int .i64 oo, .bool false] 48))
            go_wp2_with (at_builtin; refine wpList_append_lies _ rfl _ _ _ rfl (C + 1) 48 i0 _ 4 40 Tryz.underlying27 hi hz0 hz1 hz2 rfl (by omega) _ fs.length _ rfl (HOWN.out.alloc _) ⟨X5.heap.size, 0, none⟩ 1 1 [.string fn, .int .i64 kk, .int .i64 oo, .bool false] rfl rfl (World.news_of_block (cs := #[.string fn, .int .i64 kk, .int .i64 oo, .bool false]) (t := 48) (fr := (0, 0)) (by have h := World.alloc_heap_new (X5.setCell ⟨bf, 3, none⟩ (.bool false)) (.cells #[.string fn, .int .i64 kk, .int .i64 oo, .bool false] 48); rw [show (X5.setCell ⟨bf, 3, none⟩ (.bool false)).heap.size = X5.heap.size from by simp] at h; exact h)) (by simp [Value.oneCell']) (by omega) (by simp [maxLen] <;> omega) (by omega) (by simp <;> omega) (X5.heap.size + 1) (by simp) ?_; intro gg cap w2 hown1 hgrow hat hlt2; have hgo := S7.out.own.lt; have hB2 := S7.out.box.grown hgrow (fun e => by have := (hgo C e.symm).1; omega); obtain ⟨c4, c5⟩ := hB2.facts; obtain ⟨c6, c7⟩ := hB2.free)
            exact ⟨⟨k + 1, fs ++ [⟨fn, kk, oo, false⟩], some ⟨gg, 0, none⟩, cap, o4, by omega, by go_num, by rw [List.length_append, HFK.out]; rfl, HGO2.out, S7.out.more hgrow (by rw [flCells_append]; exact hown1)⟩, by simp [intOf]; omega⟩
          · have q1 : bx = true := by rw [← hb1]; rfl
            subst q1
            have hbx := F5.out.lt
            have S7 := Lib.hid (S6.out.alloc (.cells #[.string fn, .int .i64 kk, .int .i64 oo, .bool true] 48))
            go_wp2_with (at_builtin; refine wpList_append_lies _ rfl _ _ _ rfl (C + 1) 48 i0 _ 4 40 Tryz.underlying27 hi hz0 hz1 hz2 rfl (by omega) _ fs.length _ rfl (HOWN.out.alloc _) ⟨X5.heap.size, 0, none⟩ 1 1 [.string fn, .int .i64 kk, .int .i64 oo, .bool true] rfl rfl (World.news_of_block (cs := #[.string fn, .int .i64 kk, .int .i64 oo, .bool true]) (t := 48) (fr := (0, 0)) (by have h := World.alloc_heap_new (X5.setCell ⟨bf, 3, none⟩ (.bool true)) (.cells #[.string fn, .int .i64 kk, .int .i64 oo, .bool true] 48); rw [show (X5.setCell ⟨bf, 3, none⟩ (.bool true)).heap.size = X5.heap.size from by simp] at h; exact h)) (by simp [Value.oneCell']) (by omega) (by simp [maxLen] <;> omega) (by omega) (by simp <;> omega) (X5.heap.size + 1) (by simp) ?_; intro gg cap w2 hown1 hgrow hat hlt2; have hgo := S7.out.own.lt; have hB2 := S7.out.box.grown hgrow (fun e => by have := (hgo C e.symm).1; omega); obtain ⟨c4, c5⟩ := hB2.facts; obtain ⟨c6, c7⟩ := hB2.free)
            exact ⟨⟨k + 1, fs ++ [⟨fn, kk, oo, true⟩], some ⟨gg, 0, none⟩, cap, o4, by omega, by go_num, by rw [List.length_append, HFK.out]; rfl, HGO2.out, S7.out.more hgrow (by rw [flCells_append]; exact hown1)⟩, by simp [intOf]; omega⟩
        · have hstop := HSTOP.out (fun e => hx (.inl e)) (fun e => hx (.inr e))
          have q0 : (xx != 0) = true := by rw [bne_iff_ne]; exact fun e => hx (.inl e)
          have q1 : (xx != 1) = true := by rw [bne_iff_ne]; exact fun e => hx (.inr e)
          have HSTOP2 := Lib.hid hstop
          have hfin : Kept R W ((X5.setCell ⟨W.heap.size, 0, none⟩ (.string ⟨#[]⟩)).setCell ⟨W.heap.size, 1, none⟩ (.slice none 0 0)) ∧ RrO w0 ea s R o4 ((X5.setCell ⟨W.heap.size, 0, none⟩ (.string ⟨#[]⟩)).setCell ⟨W.heap.size, 1, none⟩ (.slice none 0 0)) ∧ CBox ((X5.setCell ⟨W.heap.size, 0, none⟩ (.string ⟨#[]⟩)).setCell ⟨W.heap.size, 1, none⟩ (.slice none 0 0)) W.heap.size ⟨#[]⟩ none 0 0 := read_fin S5.out ⟨#[]⟩ none 0 0
          have HFIN := Lib.hid hfin
          obtain ⟨g0, g1⟩ := S5.out.out.facts
          obtain ⟨g2, g3⟩ := S5.out.out.free
          clear hstop hfin HSTOP HGO hx
          go_wp2_with fail
          have hf := HFIN.out
          generalize ((X5.setCell ⟨W.heap.size, 0, none⟩ (.string ⟨#[]⟩)).setCell ⟨W.heap.size, 1, none⟩ (.slice none 0 0)) = W9 at hf ⊢
          obtain ⟨x0, x1⟩ := hf.2.2.facts
          exact bodyPost_ret (v := .tuple #[clV ⟨#[]⟩ none 0 0, .bool false]) (by simp [results, Tryz.results45, go_sem, x0, x1]) rfl ⟨hf.1, by rw [HSTOP2.out]; exact hf.2.1, ⟨#[]⟩, none, 0, 0, by rw [HSTOP2.out], fun e => by rw [HSTOP2.out] at e; cases e⟩
      · subst hfk
        obtain rfl : fs.length = N := by omega
        have e1 : decide ((fs.length : Int) < (fs.length : Int)) = false := decide_eq_false (by omega)
        have hres2 : res = (true, fs, o) := by rw [hres, Nat.sub_self]; rfl
        have HRES2 := Lib.hid hres2
        have SE := Lib.hid hSt
        obtain ⟨c0, c1⟩ := SE.out.box.facts
        obtain ⟨g0, g1⟩ := SE.out.out.facts
        obtain ⟨g2, g3⟩ := SE.out.out.free
        have hfin : Kept R W ((wr.setCell ⟨W.heap.size, 0, none⟩ (.string nm)).setCell ⟨W.heap.size, 1, none⟩ (.slice vp fs.length vc)) ∧ RrO w0 ea s R o ((wr.setCell ⟨W.heap.size, 0, none⟩ (.string nm)).setCell ⟨W.heap.size, 1, none⟩ (.slice vp fs.length vc)) ∧ CBox ((wr.setCell ⟨W.heap.size, 0, none⟩ (.string nm)).setCell ⟨W.heap.size, 1, none⟩ (.slice vp fs.length vc)) W.heap.size nm vp fs.length vc ∧ FLies ((wr.setCell ⟨W.heap.size, 0, none⟩ (.string nm)).setCell ⟨W.heap.size, 1, none⟩ (.slice vp fs.length vc)) vp fs.length vc fs := by
          obtain ⟨a, b, c⟩ := read_fin SE.out nm vp fs.length vc
          exact ⟨a, b, c, read_lies SE.out nm vp fs.length vc⟩
        have HFIN := Lib.hid hfin
        clear hres hres2 hSt hfin
        go_wp2_with fail
        have hf := HFIN.out
        generalize ((wr.setCell ⟨W.heap.size, 0, none⟩ (.string nm)).setCell ⟨W.heap.size, 1, none⟩ (.slice vp fs.length vc)) = W9 at hf ⊢
        obtain ⟨x0, x1⟩ := hf.2.2.1.facts
        exact bodyPost_ret (v := .tuple #[clV nm vp fs.length vc, .bool true]) (by simp [results, Tryz.results45, go_sem, x0, x1]) rfl ⟨hf.1, by rw [HRES2.out]; exact hf.2.1, nm, vp, fs.length, vc, by rw [HRES2.out], fun _ => ⟨rfl, by rw [HRES2.out]; exact hf.2.2.2⟩⟩
end Go.Proofs.YtffoklhopmhjaaaGreatDoor
