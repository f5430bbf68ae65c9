/- Texts put together: ClsOf, RefSignH, RefSignC, RefSignD, RefSignB, RefSignA, RefSign, RefText, RefRight, ClsReadW, ClsEnc, ClsSameR, ClsDec, ClsCheck, ClsExs, ClsExam. -/
import Derived.Deep.RegionHeld3
import Derived.OwnWalk
import Derived.Deep.AppendLies
import Derived.Test.YtffoklhopmhjaaaDoorClsSame
import Derived.Test.YtffoklhopmhjaaaDoorClsRead
import Derived.Test.YtffoklhopmhjaaaDoorValUtf
import Derived.Test.YtffoklhopmhjaaaDoorValRaw
import Derived.Test.YtffoklhopmhjaaaDoorValDef
import Derived.Test.YtffoklhopmhjaaaDoorVBox
import Derived.Test.YtffoklhopmhjaaaDoorValFits
import Derived.Test.YtffoklhopmhjaaaDoorClsOk
import Derived.Test.YtffoklhopmhjaaaDoorValLayN
import Derived.Test.YtffoklhopmhjaaaDoorClsPrs
/- morainelaw04.pick, morainelaw04.ClassOf. -/
set_option linter.unusedSimpArgs false
set_option linter.unusedVariables false
namespace Go.Proofs.YtffoklhopmhjaaaDoor
open Go Go.RowKit Go.Shelf Go.Sort

set_option maxHeartbeats 1000000 in
theorem pick4_any (c n : Int) (h0 : -9223372036854775808 ≤ c) (h1 : c ≤ 9223372036854775807) (hn : 0 < n) (hn2 : n ≤ 9223372036854775807) (w : World) :
    Calls Tryd.prog 10 #[.int .i64 c, .int .i64 n] w fun e w' => e = .returned (.int .i64 (pickI c n)) ∧ w = w' := by
  unfold pickI
  by_cases h : c < 0
  · rw [if_pos h]
    have e1 : IntKind.i64.wrap (c + 1) = c + 1 := IntWalk.i64_in _ (by omega)
    have e2 : IntKind.i64.wrap (-(c + 1)) = -(c + 1) := IntWalk.i64_in _ (by omega)
    have e3 : (-(c + 1)).tmod n = (-(c + 1)) % n := Int.tmod_eq_emod_of_nonneg (by omega)
    have e4 : (n == 0) = false := by rw [beq_eq_false_iff_ne]; omega
    go_enter Tryd.func10, Tryd.ntmps10
    go_wp2_with fail
    go_ret
    exact ⟨rfl, rfl⟩
  · rw [if_neg h]
    have h2 : 0 ≤ c := by omega
    have e3 : c.tmod n = c % n := Int.tmod_eq_emod_of_nonneg (by omega)
    have e4 : (n == 0) = false := by rw [beq_eq_false_iff_ne]; omega
    go_enter Tryd.func10, Tryd.ntmps10
    go_wp2_with fail
    go_ret
    exact ⟨rfl, rfl⟩

theorem infoFld2 : (Tryd.prog.info? 53).map (fun i => (i.zero, i.size, i.bytes)) = some (some (.agg #[.string ⟨#[]⟩, .int .i64 0, .int .i64 0, .bool false]), 4, 40) := by kernel_rfl
abbrev crawV (x : CRaw) (p : Option Addr) (c : Nat) : Value := .agg #[.int .i64 x.n, .slice p x.l.length c]
def names6 : Array Value := #[.string ⟨#[97]⟩, .string ⟨#[98, 50]⟩, .string ⟨#[110, 97, 109, 101]⟩, .string ⟨#[110, 101, 120, 116, 95, 111, 110, 101]⟩, .string ⟨#[107, 105, 100, 115]⟩, .string ⟨#[120]⟩]
theorem names6_at (q : Nat) (h : q < 6) : names6[q]? = some (.string (nameIn fNames (q : Int))) := by
  match q, h with
  | 0, _ => rfl
  | 1, _ => rfl
  | 2, _ => rfl
  | 3, _ => rfl
  | 4, _ => rfl
  | 5, _ => rfl
def cnames6 : Array Value := #[.string ⟨#[110, 111, 100, 101]⟩, .string ⟨#[105, 116, 101, 109]⟩, .string ⟨#[117, 115, 101, 114]⟩, .string ⟨#[112, 97, 103, 101, 95, 49]⟩, .string ⟨#[108, 101, 97, 102]⟩, .string ⟨#[113]⟩]
theorem cnames6_at (q : Nat) (h : q < 6) : cnames6[q]? = some (.string (nameIn cNames (q : Int))) := by
  match q, h with
  | 0, _ => rfl
  | 1, _ => rfl
  | 2, _ => rfl
  | 3, _ => rfl
  | 4, _ => rfl
  | 5, _ => rfl
structure OfSt (w : World) (x : CRaw) (p : Option Addr) (c : Nat) (nm : ByteArray) (fs : List Fl) (vp : Option Addr) (vc : Nat) (W : World) : Prop where
  raw : W.heap[w.heap.size]? = some (.cells #[.int .i64 x.n, .slice p x.l.length c] 24 (0, 0))
  out : CBox W (w.heap.size + 1) ⟨#[]⟩ none 0 0
  nms : W.heap[w.heap.size + 2]? = some (.cells names6 9 (0, 0))
  box : CBox W (w.heap.size + 4) nm vp fs.length vc
  own : W.ownsRow (w.heap.size + 5) 53 4 (.slice vp fs.length vc) fs.length (flCells fs)
  below : Below w.heap.size w W
section
variable {w : World} {x : CRaw} {p : Option Addr} {c : Nat} {nm : ByteArray} {fs : List Fl} {vp : Option Addr} {vc : Nat} {W W' : World}
theorem OfSt.lt (h : OfSt w x p c nm fs vp vc W) : w.heap.size + 5 ≤ W.heap.size := h.box.lt
theorem OfSt.go (h : OfSt w x p c nm fs vp vc W) (hb : Below W.heap.size W W') : OfSt w x p c nm fs vp vc W' := by
  have hl := h.lt
  exact ⟨(hb.block _ (by omega)).trans h.raw, h.out.below hb, (hb.block _ (by omega)).trans h.nms, h.box.below hb, owned_below h.own hb, h.below.trans (hb.mono h.below.size)⟩
theorem OfSt.alloc (h : OfSt w x p c nm fs vp vc W) (o : Obj) : OfSt w x p c nm fs vp vc (W.alloc o) := h.go ((Below.refl _ _).alloc (Nat.le_refl _) _)
theorem OfSt.set (h : OfSt w x p c nm fs vp vc W) (b i : Nat) (v : Value) (h1 : w.heap.size + 4 < b) (h3 : ∀ g, Value.ownBlock (.slice vp fs.length vc) = some g → g < b) : OfSt w x p c nm fs vp vc (W.setCell ⟨b, i, none⟩ v) := by
  have hg := set_grown W b i v
  have hl := h.lt
  refine ⟨(hg.block _ (by omega) (fun e => by have := Option.some.inj e; omega)).trans h.raw, h.out.grown hg (fun e => by have := Option.some.inj e; omega), (hg.block _ (by omega) (fun e => by have := Option.some.inj e; omega)).trans h.nms, h.box.grown hg (fun e => by have := Option.some.inj e; omega), h.own.kept hg ?_, below_grown h.below hg (by omega)⟩
  cases hv : Value.ownBlock (.slice vp fs.length vc) with
  | none => exact .inl rfl
  | some g => exact .inr (fun e => by have := h3 g hv; have := Option.some.inj e; omega)
theorem OfSt.more (h : OfSt w x p c nm fs vp vc W) {f : Fl} {gg cap : Nat} (hg : W.grownBy W' (Value.ownBlock (.slice vp fs.length vc))) (ho : W'.ownsRow (w.heap.size + 5) 53 4 (.slice (some ⟨gg, 0, none⟩) (fs.length + 1) cap) (fs.length + 1) (flCells (fs ++ [f]))) :
    OfSt w x p c nm (fs ++ [f]) (some ⟨gg, 0, none⟩) cap (W'.setCell ⟨w.heap.size + 4, 1, none⟩ (.slice (some ⟨gg, 0, none⟩) (fs.length + 1) cap)) := by
  have hl : ∀ g, Value.ownBlock (.slice vp fs.length vc) = some g → w.heap.size + 5 ≤ g := fun g e => (h.own.lt g e).1
  have hlt := h.lt
  have hn : ∀ k, k < w.heap.size + 5 → some k ≠ Value.ownBlock (.slice vp fs.length vc) := fun k hk e => by have := hl k e.symm; omega
  have hb := h.box.grown hg (hn _ (by omega))
  have hgs := set_grown W' (w.heap.size + 4) 1 (.slice (some ⟨gg, 0, none⟩) (fs.length + 1) cap)
  have hlen : (fs ++ [f]).length = fs.length + 1 := by simp
  have hbw : Below w.heap.size w W' := ⟨hg.os.trans h.below.os, hg.tape.trans h.below.tape, hg.output.trans h.below.output, Nat.le_trans h.below.size hg.size, fun k hk => (hg.block k (by omega) (hn k (by omega))).trans (h.below.block k hk)⟩
  have hs := hg.size
  have hr := (hg.block w.heap.size (by omega) (hn _ (by omega))).trans h.raw
  have hm := (hg.block (w.heap.size + 2) (by omega) (hn _ (by omega))).trans h.nms
  have ho1 := h.out.grown hg (hn _ (by omega))
  refine ⟨(hgs.block _ (by omega) (fun e => by have := Option.some.inj e; omega)).trans hr, ho1.grown hgs (fun e => by have := Option.some.inj e; omega), (hgs.block _ (by omega) (fun e => by have := Option.some.inj e; omega)).trans hm, ?_, ?_, below_grown hbw hgs (by omega)⟩
  · rw [hlen]; exact hb.set1 _ _ _
  · rw [hlen]; exact ho.kept hgs (own_not ho (by omega))
theorem OfSt.bx (h : OfSt w x p c nm fs vp vc W) : W.cell? ⟨w.heap.size + 1 + 1 + 1 + 1, 0, none⟩ = some (.string nm) ∧ W.cell? ⟨w.heap.size + 1 + 1 + 1 + 1, 1, none⟩ = some (.slice vp fs.length vc) := h.box.facts
theorem OfSt.bx2 (h : OfSt w x p c nm fs vp vc W) (hg : W.grownBy W' (Value.ownBlock (.slice vp fs.length vc))) : CBox W' (w.heap.size + 1 + 1 + 1 + 1) nm vp fs.length vc :=
  h.box.grown hg (fun e => by have := (h.own.lt _ e.symm).1; omega)
theorem OfSt.fin (h : OfSt w x p c nm fs vp vc W) : CBox ((W.setCell ⟨w.heap.size + 1, 0, none⟩ (.string nm)).setCell ⟨w.heap.size + 1, 1, none⟩ (.slice vp fs.length vc)) (w.heap.size + 1) nm vp fs.length vc ∧ FLies ((W.setCell ⟨w.heap.size + 1, 0, none⟩ (.string nm)).setCell ⟨w.heap.size + 1, 1, none⟩ (.slice vp fs.length vc)) vp fs.length vc fs ∧ Below w.heap.size w ((W.setCell ⟨w.heap.size + 1, 0, none⟩ (.string nm)).setCell ⟨w.heap.size + 1, 1, none⟩ (.slice vp fs.length vc)) := by
  have g1 := set_grown W (w.heap.size + 1) 0 (.string nm)
  have g2 := set_grown (W.setCell ⟨w.heap.size + 1, 0, none⟩ (.string nm)) (w.heap.size + 1) 1 (.slice vp fs.length vc)
  have o1 := h.own.kept g1 (own_not h.own (by omega))
  exact ⟨(h.out.set0 nm).set1 vp fs.length vc, ⟨rfl, Lies.own (o1.kept g2 (own_not o1 (by omega)))⟩, below_grown (below_grown h.below g1 (by omega)) g2 (by omega)⟩
end
theorem FBox.set2 {W : World} {b : Nat} {f : Fl} (h : FBox W b f) (o : Int) : FBox (W.setCell ⟨b, 2, none⟩ (.int .i64 o)) b { f with o := o } := (heap_setCell_same W b 2 _ _ (.int .i64 o) h).trans rfl
theorem FBox.free2 {W : World} {b : Nat} {f : Fl} (h : FBox W b f) : W.frozen? ⟨b, 2, none⟩ = false := Lib.frozen_of_heap h 2
/-- what ClassOf answers -/
def clsOfPost (x : CRaw) (w : World) (e : Ending) (w' : World) : Prop :=
  ∃ (q : Option Addr) (c : Nat), e = .returned (clV (clsOf x).nm q (clsOf x).fs.length c) ∧ FLies w' q (clsOf x).fs.length c (clsOf x).fs ∧ Below w.heap.size w w'

set_option maxHeartbeats 8000000 in
set_option maxRecDepth 100000 in
theorem clsOf_any (x : CRaw) (hx : x.fine) (p : Option Addr) (c : Nat) (w : World) (hL : Lies w (.slice p x.l.length c) x.l.length 4 (frawCells x.l)) :
    Calls Tryd.prog 8 #[crawV x p c] w (clsOfPost x w) := by
  obtain ⟨i0, hi, hz0, hz1, hz2⟩ := info_parts infoFld2
  have h6 := pickI_bd x.n 6 (by decide)
  have hpk := fun W => pick4_any x.n 6 hx.n.1 hx.n.2 (by decide) (by decide) W
  have hnm : (clsOf x).nm = nameIn cNames (pickI x.n 6) := rfl
  have hfs : (clsOf x).fs = fldsTo x.l 6 := rfl
  unfold clsOfPost
  rw [hnm, hfs]
  clear hnm hfs
  obtain ⟨q, hq⟩ : ∃ q : Nat, pickI x.n 6 = (q : Int) := ⟨(pickI x.n 6).toNat, by omega⟩
  rw [hq] at hpk ⊢
  have hq6 : q < 6 := by omega
  have hl := hx.len
  have hfine := hx.l
  obtain ⟨xn, l⟩ := x
  simp only at hL hl hfine hpk ⊢
  have hsucc := fldsTo_succ l
  have hend := fldsTo_end l
  have hgood := fldsTo_good l
  generalize hnmv : nameIn cNames (q : Int) = nm
  have hcq : cnames6[q]? = some (.string nm) := by rw [← hnmv]; exact cnames6_at q hq6
  have HSUCC := Lib.hid hsucc
  have HEND := Lib.hid hend
  have HGOOD := Lib.hid hgood
  have HPK := Lib.hid hpk
  have HL := Lib.hid hL
  have HFINE := Lib.hid hfine
  have hst : OfSt w ⟨xn, l⟩ p c nm [] none 0 (((((w.alloc (.cells #[.int .i64 xn, .slice p l.length c] 24)).alloc (.cells #[.string ⟨#[]⟩, .slice none 0 0] 27)).alloc (.cells names6 9)).alloc (.cells cnames6 9)).alloc (.cells #[.string nm, .slice none 0 0] 27)) := by
    have e : ∀ (W : World) (o : Obj) (i : Nat) (y : Obj), W.heap[i]? = some y → (W.alloc o).heap[i]? = some y := fun W o i y h => (Lib.alloc_old W o i (Array.getElem?_eq_some_iff.1 h).1).trans h
    have b1 : Below w.heap.size w (w.alloc (.cells #[.int .i64 xn, .slice p l.length c] 24)) := (Below.refl _ _).alloc (Nat.le_refl _) _
    have b2 := b1.alloc b1.size (.cells #[.string ⟨#[]⟩, .slice none 0 0] 27)
    have b3 := b2.alloc b2.size (.cells names6 9)
    have b4 := b3.alloc b3.size (.cells cnames6 9)
    have b5 := b4.alloc b4.size (.cells #[.string nm, .slice none 0 0] 27)
    refine ⟨e _ _ _ _ (e _ _ _ _ (e _ _ _ _ (e _ _ _ _ (World.alloc_heap_new w _)))), e _ _ _ _ (e _ _ _ _ (e _ _ _ _ ?_)), e _ _ _ _ (e _ _ _ _ ?_), ?_, World.ownsRow_nil _ _ _ _, b5⟩
    · have h := World.alloc_heap_new (w.alloc (.cells #[.int .i64 xn, .slice p l.length c] 24)) (.cells #[.string ⟨#[]⟩, .slice none 0 0] 27)
      rwa [World.size_alloc] at h
    · have h := World.alloc_heap_new ((w.alloc (.cells #[.int .i64 xn, .slice p l.length c] 24)).alloc (.cells #[.string ⟨#[]⟩, .slice none 0 0] 27)) (.cells names6 9)
      rwa [World.size_alloc, World.size_alloc] at h
    · have h := World.alloc_heap_new ((((w.alloc (.cells #[.int .i64 xn, .slice p l.length c] 24)).alloc (.cells #[.string ⟨#[]⟩, .slice none 0 0] 27)).alloc (.cells names6 9)).alloc (.cells cnames6 9)) (.cells #[.string nm, .slice none 0 0] 27)
      rwa [World.size_alloc, World.size_alloc, World.size_alloc, World.size_alloc] at h
  have HST := Lib.hid hst
  have hcell : World.cell? ((((w.alloc (.cells #[.int .i64 xn, .slice p l.length c] 24)).alloc (.cells #[.string ⟨#[]⟩, .slice none 0 0] 27)).alloc (.cells names6 9)).alloc (.cells cnames6 9)) ⟨w.heap.size + 1 + 1 + 1, q, none⟩ = some (.string nm) := by
    have h := World.alloc_heap_new (((w.alloc (.cells #[.int .i64 xn, .slice p l.length c] 24)).alloc (.cells #[.string ⟨#[]⟩, .slice none 0 0] 27)).alloc (.cells names6 9)) (.cells cnames6 9)
    rw [World.size_alloc, World.size_alloc, World.size_alloc] at h
    rw [Lib.cell_of_heap h]
    exact hcq
  have hraw0 : World.cell? ((((w.alloc (.cells #[.int .i64 xn, .slice p l.length c] 24)).alloc (.cells #[.string ⟨#[]⟩, .slice none 0 0] 27)).alloc (.cells names6 9)).alloc (.cells cnames6 9)) ⟨w.heap.size, 0, none⟩ = some (.int .i64 xn) := by
    have h : ((((w.alloc (.cells #[.int .i64 xn, .slice p l.length c] 24)).alloc (.cells #[.string ⟨#[]⟩, .slice none 0 0] 27)).alloc (.cells names6 9)).alloc (.cells cnames6 9)).heap[w.heap.size]? = some (.cells #[.int .i64 xn, .slice p l.length c] 24 (0, 0)) := by
      have e : ∀ (W : World) (o : Obj) (i : Nat) (y : Obj), W.heap[i]? = some y → (W.alloc o).heap[i]? = some y := fun W o i y h => (Lib.alloc_old W o i (Array.getElem?_eq_some_iff.1 h).1).trans h
      exact e _ _ _ _ (e _ _ _ _ (e _ _ _ _ (World.alloc_heap_new w _)))
    rw [Lib.cell_of_heap h]; rfl
  have hqi : (q : Int) < 6 := by omega
  have hq0 : (0 : Int) ≤ (q : Int) := by omega
  have HNM := Lib.hid hnmv
  clear hsucc hend hgood hpk hL hfine hst hnmv hcq h6 hq hx
  unfold names6 cnames6 at hcell hraw0
  unfold names6 cnames6 at HST
  go_enter Tryd.func8, Tryd.ntmps8
  go_wp2_with fail
  refine (HPK.out _).mono ?_
  rintro e W1 ⟨rfl, rfl⟩
  go_wp2_with fail
  clear hcell hraw0 HPK
  go_loopw [5] (fun i wr => ∃ (k : Nat) (fs : List Fl) (vp : Option Addr) (vc : Nat), k ≤ l.length ∧ k ≤ 6 ∧ i = .int .i64 (k : Int) ∧ fs = fldsTo l k ∧ OfSt w ⟨xn, l⟩ p c nm fs vp vc wr) (fun i _ => 6 - (intOf i).toNat)
  case atStart => exact ⟨0, [], none, 0, by omega, by omega, rfl, rfl, HST.out⟩
  case round =>
    obtain ⟨k, fs, vp, vc, hk, hk6, rfl, hfs, hSt⟩ := hrel
    clear HST
    have ST := Lib.hid hSt
    have hgood := HGOOD.out k
    rw [← hfs] at hgood
    have hfl : fs.length ≤ 6 := Nat.le_trans hgood.2 hk6
    have hraw1 : wr.cell? ⟨w.heap.size, 1, none⟩ = some (.slice p l.length c) := by rw [Lib.cell_of_heap hSt.raw]; rfl
    clear hgood HGOOD hSt
    by_cases hlt : k < l.length ∧ k < 6
    · obtain ⟨hk1, hk2⟩ := hlt
      have e1 : decide ((k : Int) < (l.length : Int)) = true := decide_eq_true (by omega)
      have e1' : (k : Int) < (l.length : Int) := by omega
      have e0 : (0 : Int) ≤ (k : Int) := by omega
      have e2 : decide ((k : Int) < 6) = true := decide_eq_true (by omega)
      have e2' : (k : Int) < 6 := by omega
      obtain ⟨b, off, rfl, hb, hc⟩ := HL.out.at (by omega)
      have hcx : ∀ (i : Nat) (u : Value), ((l[k]'hk1).cells)[i]? = some u → wr.cell? ⟨b, off + k * 4 + i, none⟩ = some u := fun i u hu => by
        rw [ST.out.below.cell (p := ⟨b, off + k * 4 + i, none⟩) hb, Nat.add_assoc]
        exact hc _ _ (frawCells_at l k hk1 i u hu)
      have hsuc := HSUCC.out k hk1
      have hff := HFINE.out (l[k]'hk1) (List.getElem_mem hk1)
      rw [← hfs] at hsuc
      clear hfs
      generalize l[k]'hk1 = r at hcx hsuc hff
      obtain ⟨rn, rk, ro, rx⟩ := r
      obtain ⟨f1, f2, f3⟩ := hff
      simp only at f1 f2 f3
      have z0 : wr.cell? ⟨b, off + k * 4, none⟩ = some (.int .i64 rn) := hcx 0 _ rfl
      have z1 : wr.cell? ⟨b, off + k * 4 + 1, none⟩ = some (.int .i64 rk) := hcx 1 _ rfl
      have z2 : wr.cell? ⟨b, off + k * 4 + 2, none⟩ = some (.int .i64 ro) := hcx 2 _ rfl
      have z3 : wr.cell? ⟨b, off + k * 4 + 3, none⟩ = some (.bool rx) := hcx 3 _ rfl
      clear hcx hc
      have hp6 := fun W => pick4_any rn 6 f1.1 f1.2 (by decide) (by decide) W
      have hp5 := fun W => pick4_any rk 5 f2.1 f2.2 (by decide) (by decide) W
      have hp4 := fun W => pick4_any ro 4 f3.1 f3.2 (by decide) (by decide) W
      have b6 := pickI_bd rn 6 (by decide)
      have b5 := pickI_bd rk 5 (by decide)
      have b4 := pickI_bd ro 4 (by decide)
      have hfo : fldOf ⟨rn, rk, ro, rx⟩ = ⟨nameIn fNames (pickI rn 6), 1 + pickI rk 5, if 1 + pickI rk 5 = 5 then 1 + pickI ro 4 else 0, rx && decide (1 + pickI rk 5 ≤ 3)⟩ := rfl
      rw [hfo] at hsuc
      clear hfo f1 f2 f3
      obtain ⟨fq, hfq⟩ : ∃ q : Nat, pickI rn 6 = (q : Int) := ⟨(pickI rn 6).toNat, by omega⟩
      rw [hfq] at hsuc hp6 b6
      have hfq6 : fq < 6 := by omega
      have hfqi : (fq : Int) < 6 := by omega
      have hfq0 : (0 : Int) ≤ (fq : Int) := by omega
      clear b6 hfq
      generalize pickI rk 5 = kk at hp5 b5 hsuc
      generalize pickI ro 4 = oo at hp4 b4 hsuc
      have hnm1 := names6_at fq hfq6
      generalize nameIn fNames (fq : Int) = fn at hnm1 hsuc
      have P6 := Lib.hid hp6
      have P5 := Lib.hid hp5
      have P4 := Lib.hid hp4
      have HSUC := Lib.hid hsuc
      have S1 := Lib.hid (ST.out.alloc (.cells #[.int .i64 rn, .int .i64 rk, .int .i64 ro, .bool rx] 63))
      have hR6 : (wr.alloc (.cells #[.int .i64 rn, .int .i64 rk, .int .i64 ro, .bool rx] 63)).heap[wr.heap.size]? = some (.cells #[.int .i64 rn, .int .i64 rk, .int .i64 ro, .bool rx] 63 (0, 0)) := World.alloc_heap_new _ _
      have R6 := Lib.hid hR6
      have hz6 : w.heap.size + 5 ≤ wr.heap.size := ST.out.lt
      have hob : ∀ g, Value.ownBlock (.slice vp fs.length vc) = some g → g < wr.heap.size := fun g hg => (ST.out.own.lt g hg).2
      have HOB := Lib.hid hob
      have NM1 := Lib.hid hnm1
      clear hp6 hp5 hp4 hsuc hR6 hob HSUCC HFINE HL hnm1 ST
      go_wp2_with fail
      generalize wr.alloc (.cells #[.int .i64 rn, .int .i64 rk, .int .i64 ro, .bool rx] 63) = U at S1 R6 ⊢
      generalize wr.heap.size = b6 at R6 hz6 HOB ⊢
      have w5 : IntKind.i64.wrap (1 + kk) = 1 + kk := IntWalk.i64_in _ (by omega)
      have w4 : IntKind.i64.wrap (1 + oo) = 1 + oo := IntWalk.i64_in _ (by omega)
      have hbl : b6 < U.heap.size := (Array.getElem?_eq_some_iff.1 R6.out).1
      have hS0 : U.drew.cell? ⟨b6, 0, none⟩ = some (.int .i64 rn) ∧ U.drew.cell? ⟨b6, 1, none⟩ = some (.int .i64 rk) ∧ U.drew.cell? ⟨w.heap.size + 1 + 1, fq, none⟩ = some (.string fn) ∧ b6 < U.drew.heap.size ∧ w.heap.size + 1 + 1 < U.drew.heap.size := by
        have hd := S1.out.go (Below.refl _ _).drew
        have h6 : U.drew.heap[b6]? = some (.cells #[.int .i64 rn, .int .i64 rk, .int .i64 ro, .bool rx] 63 (0, 0)) := R6.out
        refine ⟨by rw [Lib.cell_of_heap h6]; rfl, by rw [Lib.cell_of_heap h6]; rfl, ?_, hbl, by have := hd.lt; omega⟩
        have h2 := hd.nms
        rw [show w.heap.size + 2 = w.heap.size + 1 + 1 from rfl] at h2
        rw [Lib.cell_of_heap h2]
        exact NM1.out
      have hsw : ∀ W W' : World, (W.cell? ⟨b6, 0, none⟩ = some (.int .i64 rn) ∧ W.cell? ⟨b6, 1, none⟩ = some (.int .i64 rk) ∧ W.cell? ⟨w.heap.size + 1 + 1, fq, none⟩ = some (.string fn) ∧ b6 < W.heap.size ∧ w.heap.size + 1 + 1 < W.heap.size) → Below W.heap.size W W' → (W'.cell? ⟨b6, 0, none⟩ = some (.int .i64 rn) ∧ W'.cell? ⟨b6, 1, none⟩ = some (.int .i64 rk) ∧ W'.cell? ⟨w.heap.size + 1 + 1, fq, none⟩ = some (.string fn) ∧ b6 < W'.heap.size ∧ w.heap.size + 1 + 1 < W'.heap.size) := fun W W' h hb => by
        have hs := hb.size
        exact ⟨(hb.cell (p := ⟨b6, 0, none⟩) h.2.2.2.1).trans h.1, (hb.cell (p := ⟨b6, 1, none⟩) h.2.2.2.1).trans h.2.1, (hb.cell (p := ⟨w.heap.size + 1 + 1, fq, none⟩) h.2.2.2.2).trans h.2.2.1, by omega, by omega⟩
      have HSW := Lib.hid hsw
      have hV : (U.alloc (.cells #[.string fn, .int .i64 (1 + kk), .int .i64 0, .bool false] 53)).drew = U.drew.alloc (.cells #[.string fn, .int .i64 (1 + kk), .int .i64 0, .bool false] 53) := rfl
      have hS2 := HSW.out U.drew (U.alloc (.cells #[.string fn, .int .i64 (1 + kk), .int .i64 0, .bool false] 53)).drew hS0 (by rw [hV]; exact (Below.refl _ _).alloc (Nat.le_refl _) _)
      have hF : OfSt w ⟨xn, l⟩ (some ⟨b, off, none⟩) c nm fs vp vc (U.alloc (.cells #[.string fn, .int .i64 (1 + kk), .int .i64 0, .bool false] 53)).drew ∧ FBox (U.alloc (.cells #[.string fn, .int .i64 (1 + kk), .int .i64 0, .bool false] 53)).drew U.heap.size ⟨fn, 1 + kk, 0, false⟩ ∧ (U.alloc (.cells #[.string fn, .int .i64 (1 + kk), .int .i64 0, .bool false] 53)).drew.heap[b6]? = some (.cells #[.int .i64 rn, .int .i64 rk, .int .i64 ro, .bool rx] 63 (0, 0)) := by
        rw [hV]
        refine ⟨(S1.out.go (Below.refl _ _).drew).alloc _, FBox.new U.drew ⟨fn, 1 + kk, 0, false⟩, ?_⟩
        exact (Lib.alloc_old U.drew _ b6 hbl).trans R6.out
      have HF := Lib.hid hF
      clear hsw hF hV
      go_upto_region 7 with fail
      go_cut [7] from 18 to 79 (fun v7 wx => ∃ bf : Nat, v7 = .pointer (some ⟨bf, 0, none⟩) ∧ b6 < bf ∧ OfSt w ⟨xn, l⟩ (some ⟨b, off, none⟩) c nm fs vp vc wx ∧ FBox wx bf ⟨fn, 1 + kk, 0, false⟩ ∧ wx.heap[b6]? = some (.cells #[.int .i64 rn, .int .i64 rk, .int .i64 ro, .bool rx] 63 (0, 0)))
      case first =>
        go_wp2_with fail
        go_region_held3 (fun W : World => (W.cell? ⟨b6, 0, none⟩ = some (.int .i64 rn) ∧ W.cell? ⟨b6, 1, none⟩ = some (.int .i64 rk) ∧ W.cell? ⟨w.heap.size + 1 + 1, fq, none⟩ = some (.string fn) ∧ b6 < W.heap.size ∧ w.heap.size + 1 + 1 < W.heap.size))
          (first | assumption | (refine HSW.out _ _ (by assumption) ((Below.refl _ _).alloc (Nat.le_refl _) _)))
          (first
            | (go_at_call 10; (with_reducible refine (P6.out _).mono ?_); rintro e Y1 ⟨rfl, rfl⟩)
            | (go_at_call 10; (with_reducible refine (P5.out _).mono ?_); rintro e Y1 ⟨rfl, rfl⟩))
        all_goals
          go_wp2_with fail
          go_meet
          exact ⟨_, rfl, hbl, HF.out⟩
      case rest =>
        obtain ⟨bf, rfl, hbf, hSx, hFx, hRx⟩ := hcut
        clear HSW HF hS0 S1 R6
        have hkd1 : 1 ≤ 1 + kk ∧ 1 + kk ≤ 5 := by omega
        generalize 1 + kk = kd at w5 hFx HSUC hkd1
        generalize hod : 1 + oo = od at HSUC
        replace w4 := w4.trans hod
        obtain ⟨g0, g1, g2, g3⟩ := hFx.facts
        simp only at g0 g1 g2 g3
        have gf2 := hFx.free2
        have r2 : wc.cell? ⟨b6, 2, none⟩ = some (.int .i64 ro) := by rw [Lib.cell_of_heap hRx]; rfl
        have r3 : wc.cell? ⟨b6, 3, none⟩ = some (.bool rx) := by rw [Lib.cell_of_heap hRx]; rfl
        have hbl : bf < wc.heap.size := hFx.lt
        have SX := Lib.hid hSx
        have FX := Lib.hid hFx
        have RX := Lib.hid hRx
        clear hSx hFx hRx
        by_cases h5 : kd = 5
        · have q5 : (kd == 5) = true := by rw [beq_iff_eq]; exact h5
          have d3 : decide (kd ≤ 3) = false := decide_eq_false (by omega)
          have d3' : ¬ kd ≤ 3 := by omega
          have hs5 : fldsTo l (k + 1) = addF fs ⟨fn, kd, od, false⟩ := by rw [HSUC.out, if_pos h5, d3, Bool.and_false]
          have HS5 := Lib.hid hs5
          have SX1 := Lib.hid (SX.out.set bf 2 (.int .i64 od) (by omega) (fun g hg => by have := HOB.out g hg; omega))
          have FX1 := Lib.hid (FX.out.set2 od)
          have RX1 : (wc.setCell ⟨bf, 2, none⟩ (.int .i64 od)).heap[b6]? = some (.cells #[.int .i64 rn, .int .i64 rk, .int .i64 ro, .bool rx] 63 (0, 0)) := ((set_grown wc bf 2 (.int .i64 od)).block b6 (Array.getElem?_eq_some_iff.1 RX.out).1 (fun e => by have := Option.some.inj e; omega)).trans RX.out
          have r31 : (wc.setCell ⟨bf, 2, none⟩ (.int .i64 od)).cell? ⟨b6, 3, none⟩ = some (.bool rx) := by rw [Lib.cell_of_heap RX1]; rfl
          have gf3 := FX1.out.free
          have hk1 : (wc.setCell ⟨bf, 2, none⟩ (.int .i64 od)).cell? ⟨bf, 1, none⟩ = some (.int .i64 kd) := FX1.out.facts.2.1
          clear hs5 RX1 HSUC h5
          go_wp2_with fail
          refine (P4.out _).mono ?_
          rintro e Y1 ⟨rfl, rfl⟩
          cases rx with
          | true =>
            have SB := Lib.hid (SX1.out.set bf 3 (.bool false) (by omega) (fun g hg => by have := HOB.out g hg; omega))
            have FB := Lib.hid (FX1.out.set3 false)
            obtain ⟨y0, y1, y2, y3⟩ := FB.out.facts
            simp only at y0 y1 y2 y3
            obtain ⟨c0, c1⟩ := SB.out.bx
            have hlies : FLies ((wc.setCell ⟨bf, 2, none⟩ (.int .i64 od)).setCell ⟨bf, 3, none⟩ (.bool false)) vp fs.length vc fs := ⟨rfl, Lies.own SB.out.own⟩
            have hcall := rfield_any nm vp fs.length vc fs fn ((wc.setCell ⟨bf, 2, none⟩ (.int .i64 od)).setCell ⟨bf, 3, none⟩ (.bool false)) hlies (by omega)
            unfold fieldPost at hcall
            have HC := Lib.hid hcall
            have hadd : addF fs ⟨fn, kd, od, false⟩ = if fieldAt fs fn = none then fs ++ [⟨fn, kd, od, false⟩] else fs := rfl
            rw [hadd] at HS5
            clear hlies hcall hadd
            generalize hfa : fieldAt fs fn = fa at HC HS5
            go_wp2_with fail
            refine HC.out.mono ?_
            rintro e Y ⟨rfl, hB⟩
            have SY := Lib.hid (SB.out.go hB)
            have FY := Lib.hid (FB.out.below hB)
            obtain ⟨y0, y1, y2, y3⟩ := FY.out.facts
            simp only at y0 y1 y2 y3
            obtain ⟨c0, c1⟩ := SY.out.bx
            have hbx := FY.out.lt
            clear hB HC SB FB SX1 FX1
            cases fa with
            | some i =>
              have hs6 : fldsTo l (k + 1) = fs := HS5.out.trans (if_neg (by simp))
              have HS6 := Lib.hid hs6
              clear hs6
              have HI : (some i : Option Nat).isSome = true := rfl
              clear HS5
              go_wp2_with fail
              exact ⟨⟨k + 1, fs, vp, vc, by omega, by omega, by go_num, HS6.out.symm, SY.out⟩, by simp [intOf]; omega⟩
            | none =>
              have hs6 : fldsTo l (k + 1) = fs ++ [⟨fn, kd, od, false⟩] := HS5.out.trans (if_pos rfl)
              have HS6 := Lib.hid hs6
              clear hs6
              have HI : (none : Option Nat).isSome = false := rfl
              clear HS5
              have S7 := Lib.hid (SY.out.alloc (.cells #[.string fn, .int .i64 kd, .int .i64 od, .bool false] 53))
              have hown := SY.out.own
              have HOWN := Lib.hid hown
              have hlt7 := SY.out.lt
              clear hown
              go_wp2_with (at_builtin; refine wpList_append_lies _ rfl _ _ _ rfl (w.heap.size + 5) 53 i0 _ 4 40 Tryd.underlying25 hi hz0 hz1 hz2 rfl (by omega) _ fs.length _ rfl (HOWN.out.alloc _) ⟨Y.heap.size, 0, none⟩ 1 1 [.string fn, .int .i64 kd, .int .i64 od, .bool false] rfl rfl (World.news_of_block (cs := #[.string fn, .int .i64 kd, .int .i64 od, .bool false]) (t := 53) (fr := (0, 0)) (World.alloc_heap_new Y _)) (by simp [Value.oneCell']) (by omega) (by simp [maxLen] <;> omega) (by omega) (by simp <;> omega) (Y.heap.size + 1) (by simp) ?_; intro gg cap w2 hown1 hgrow hat hlt2; have hgo := S7.out.own.lt; have hB2 := OfSt.bx2 S7.out hgrow; obtain ⟨c4, c5⟩ := hB2.facts; obtain ⟨c6, c7⟩ := hB2.free)
              exact ⟨⟨k + 1, fs ++ [⟨fn, kd, od, false⟩], some ⟨gg, 0, none⟩, cap, by omega, by omega, by go_num, HS6.out.symm, S7.out.more hgrow (by rw [flCells_append]; exact hown1)⟩, by simp [intOf]; omega⟩
          | false =>
            have SB := Lib.hid (SX1.out.set bf 3 (.bool false) (by omega) (fun g hg => by have := HOB.out g hg; omega))
            have FB := Lib.hid (FX1.out.set3 false)
            obtain ⟨y0, y1, y2, y3⟩ := FB.out.facts
            simp only at y0 y1 y2 y3
            obtain ⟨c0, c1⟩ := SB.out.bx
            have hlies : FLies ((wc.setCell ⟨bf, 2, none⟩ (.int .i64 od)).setCell ⟨bf, 3, none⟩ (.bool false)) vp fs.length vc fs := ⟨rfl, Lies.own SB.out.own⟩
            have hcall := rfield_any nm vp fs.length vc fs fn ((wc.setCell ⟨bf, 2, none⟩ (.int .i64 od)).setCell ⟨bf, 3, none⟩ (.bool false)) hlies (by omega)
            unfold fieldPost at hcall
            have HC := Lib.hid hcall
            have hadd : addF fs ⟨fn, kd, od, false⟩ = if fieldAt fs fn = none then fs ++ [⟨fn, kd, od, false⟩] else fs := rfl
            rw [hadd] at HS5
            clear hlies hcall hadd
            generalize hfa : fieldAt fs fn = fa at HC HS5
            go_wp2_with fail
            refine HC.out.mono ?_
            rintro e Y ⟨rfl, hB⟩
            have SY := Lib.hid (SB.out.go hB)
            have FY := Lib.hid (FB.out.below hB)
            obtain ⟨y0, y1, y2, y3⟩ := FY.out.facts
            simp only at y0 y1 y2 y3
            obtain ⟨c0, c1⟩ := SY.out.bx
            have hbx := FY.out.lt
            clear hB HC SB FB SX1 FX1
            cases fa with
            | some i =>
              have hs6 : fldsTo l (k + 1) = fs := HS5.out.trans (if_neg (by simp))
              have HS6 := Lib.hid hs6
              clear hs6
              have HI : (some i : Option Nat).isSome = true := rfl
              clear HS5
              go_wp2_with fail
              exact ⟨⟨k + 1, fs, vp, vc, by omega, by omega, by go_num, HS6.out.symm, SY.out⟩, by simp [intOf]; omega⟩
            | none =>
              have hs6 : fldsTo l (k + 1) = fs ++ [⟨fn, kd, od, false⟩] := HS5.out.trans (if_pos rfl)
              have HS6 := Lib.hid hs6
              clear hs6
              have HI : (none : Option Nat).isSome = false := rfl
              clear HS5
              have S7 := Lib.hid (SY.out.alloc (.cells #[.string fn, .int .i64 kd, .int .i64 od, .bool false] 53))
              have hown := SY.out.own
              have HOWN := Lib.hid hown
              have hlt7 := SY.out.lt
              clear hown
              go_wp2_with (at_builtin; refine wpList_append_lies _ rfl _ _ _ rfl (w.heap.size + 5) 53 i0 _ 4 40 Tryd.underlying25 hi hz0 hz1 hz2 rfl (by omega) _ fs.length _ rfl (HOWN.out.alloc _) ⟨Y.heap.size, 0, none⟩ 1 1 [.string fn, .int .i64 kd, .int .i64 od, .bool false] rfl rfl (World.news_of_block (cs := #[.string fn, .int .i64 kd, .int .i64 od, .bool false]) (t := 53) (fr := (0, 0)) (World.alloc_heap_new Y _)) (by simp [Value.oneCell']) (by omega) (by simp [maxLen] <;> omega) (by omega) (by simp <;> omega) (Y.heap.size + 1) (by simp) ?_; intro gg cap w2 hown1 hgrow hat hlt2; have hgo := S7.out.own.lt; have hB2 := OfSt.bx2 S7.out hgrow; obtain ⟨c4, c5⟩ := hB2.facts; obtain ⟨c6, c7⟩ := hB2.free)
              exact ⟨⟨k + 1, fs ++ [⟨fn, kd, od, false⟩], some ⟨gg, 0, none⟩, cap, by omega, by omega, by go_num, HS6.out.symm, S7.out.more hgrow (by rw [flCells_append]; exact hown1)⟩, by simp [intOf]; omega⟩
        · have q5 : (kd == 5) = false := by rw [beq_eq_false_iff_ne]; exact h5
          have SX1 := SX
          have FX1 := FX
          have gf3 := FX1.out.free
          cases rx with
          | true =>
            by_cases h3 : kd ≤ 3
            · have d3 : decide (kd ≤ 3) = true := decide_eq_true h3
              have hs5 : fldsTo l (k + 1) = addF fs ⟨fn, kd, 0, true⟩ := by rw [HSUC.out, if_neg h5, d3, Bool.and_true]
              have HS5 := Lib.hid hs5
              clear hs5 HSUC
              have SB := Lib.hid (SX1.out.set bf 3 (.bool true) (by omega) (fun g hg => by have := HOB.out g hg; omega))
              have FB := Lib.hid (FX1.out.set3 true)
              obtain ⟨y0, y1, y2, y3⟩ := FB.out.facts
              simp only at y0 y1 y2 y3
              obtain ⟨c0, c1⟩ := SB.out.bx
              have hlies : FLies (wc.setCell ⟨bf, 3, none⟩ (.bool true)) vp fs.length vc fs := ⟨rfl, Lies.own SB.out.own⟩
              have hcall := rfield_any nm vp fs.length vc fs fn (wc.setCell ⟨bf, 3, none⟩ (.bool true)) hlies (by omega)
              unfold fieldPost at hcall
              have HC := Lib.hid hcall
              have hadd : addF fs ⟨fn, kd, 0, true⟩ = if fieldAt fs fn = none then fs ++ [⟨fn, kd, 0, true⟩] else fs := rfl
              rw [hadd] at HS5
              clear hlies hcall hadd
              generalize hfa : fieldAt fs fn = fa at HC HS5
              go_wp2_with fail
              refine HC.out.mono ?_
              rintro e Y ⟨rfl, hB⟩
              have SY := Lib.hid (SB.out.go hB)
              have FY := Lib.hid (FB.out.below hB)
              obtain ⟨y0, y1, y2, y3⟩ := FY.out.facts
              simp only at y0 y1 y2 y3
              obtain ⟨c0, c1⟩ := SY.out.bx
              have hbx := FY.out.lt
              clear hB HC SB FB SX1 FX1
              cases fa with
              | some i =>
                have hs6 : fldsTo l (k + 1) = fs := HS5.out.trans (if_neg (by simp))
                have HS6 := Lib.hid hs6
                clear hs6
                have HI : (some i : Option Nat).isSome = true := rfl
                clear HS5
                go_wp2_with fail
                exact ⟨⟨k + 1, fs, vp, vc, by omega, by omega, by go_num, HS6.out.symm, SY.out⟩, by simp [intOf]; omega⟩
              | none =>
                have hs6 : fldsTo l (k + 1) = fs ++ [⟨fn, kd, 0, true⟩] := HS5.out.trans (if_pos rfl)
                have HS6 := Lib.hid hs6
                clear hs6
                have HI : (none : Option Nat).isSome = false := rfl
                clear HS5
                have S7 := Lib.hid (SY.out.alloc (.cells #[.string fn, .int .i64 kd, .int .i64 0, .bool true] 53))
                have hown := SY.out.own
                have HOWN := Lib.hid hown
                have hlt7 := SY.out.lt
                clear hown
                go_wp2_with (at_builtin; refine wpList_append_lies _ rfl _ _ _ rfl (w.heap.size + 5) 53 i0 _ 4 40 Tryd.underlying25 hi hz0 hz1 hz2 rfl (by omega) _ fs.length _ rfl (HOWN.out.alloc _) ⟨Y.heap.size, 0, none⟩ 1 1 [.string fn, .int .i64 kd, .int .i64 0, .bool true] rfl rfl (World.news_of_block (cs := #[.string fn, .int .i64 kd, .int .i64 0, .bool true]) (t := 53) (fr := (0, 0)) (World.alloc_heap_new Y _)) (by simp [Value.oneCell']) (by omega) (by simp [maxLen] <;> omega) (by omega) (by simp <;> omega) (Y.heap.size + 1) (by simp) ?_; intro gg cap w2 hown1 hgrow hat hlt2; have hgo := S7.out.own.lt; have hB2 := OfSt.bx2 S7.out hgrow; obtain ⟨c4, c5⟩ := hB2.facts; obtain ⟨c6, c7⟩ := hB2.free)
                exact ⟨⟨k + 1, fs ++ [⟨fn, kd, 0, true⟩], some ⟨gg, 0, none⟩, cap, by omega, by omega, by go_num, HS6.out.symm, S7.out.more hgrow (by rw [flCells_append]; exact hown1)⟩, by simp [intOf]; omega⟩
            · have d3 : decide (kd ≤ 3) = false := decide_eq_false h3
              have hs5 : fldsTo l (k + 1) = addF fs ⟨fn, kd, 0, false⟩ := by rw [HSUC.out, if_neg h5, d3, Bool.and_false]
              have HS5 := Lib.hid hs5
              clear hs5 HSUC
              have SB := Lib.hid (SX1.out.set bf 3 (.bool false) (by omega) (fun g hg => by have := HOB.out g hg; omega))
              have FB := Lib.hid (FX1.out.set3 false)
              obtain ⟨y0, y1, y2, y3⟩ := FB.out.facts
              simp only at y0 y1 y2 y3
              obtain ⟨c0, c1⟩ := SB.out.bx
              have hlies : FLies (wc.setCell ⟨bf, 3, none⟩ (.bool false)) vp fs.length vc fs := ⟨rfl, Lies.own SB.out.own⟩
              have hcall := rfield_any nm vp fs.length vc fs fn (wc.setCell ⟨bf, 3, none⟩ (.bool false)) hlies (by omega)
              unfold fieldPost at hcall
              have HC := Lib.hid hcall
              have hadd : addF fs ⟨fn, kd, 0, false⟩ = if fieldAt fs fn = none then fs ++ [⟨fn, kd, 0, false⟩] else fs := rfl
              rw [hadd] at HS5
              clear hlies hcall hadd
              generalize hfa : fieldAt fs fn = fa at HC HS5
              go_wp2_with fail
              refine HC.out.mono ?_
              rintro e Y ⟨rfl, hB⟩
              have SY := Lib.hid (SB.out.go hB)
              have FY := Lib.hid (FB.out.below hB)
              obtain ⟨y0, y1, y2, y3⟩ := FY.out.facts
              simp only at y0 y1 y2 y3
              obtain ⟨c0, c1⟩ := SY.out.bx
              have hbx := FY.out.lt
              clear hB HC SB FB SX1 FX1
              cases fa with
              | some i =>
                have hs6 : fldsTo l (k + 1) = fs := HS5.out.trans (if_neg (by simp))
                have HS6 := Lib.hid hs6
                clear hs6
                have HI : (some i : Option Nat).isSome = true := rfl
                clear HS5
                go_wp2_with fail
                exact ⟨⟨k + 1, fs, vp, vc, by omega, by omega, by go_num, HS6.out.symm, SY.out⟩, by simp [intOf]; omega⟩
              | none =>
                have hs6 : fldsTo l (k + 1) = fs ++ [⟨fn, kd, 0, false⟩] := HS5.out.trans (if_pos rfl)
                have HS6 := Lib.hid hs6
                clear hs6
                have HI : (none : Option Nat).isSome = false := rfl
                clear HS5
                have S7 := Lib.hid (SY.out.alloc (.cells #[.string fn, .int .i64 kd, .int .i64 0, .bool false] 53))
                have hown := SY.out.own
                have HOWN := Lib.hid hown
                have hlt7 := SY.out.lt
                clear hown
                go_wp2_with (at_builtin; refine wpList_append_lies _ rfl _ _ _ rfl (w.heap.size + 5) 53 i0 _ 4 40 Tryd.underlying25 hi hz0 hz1 hz2 rfl (by omega) _ fs.length _ rfl (HOWN.out.alloc _) ⟨Y.heap.size, 0, none⟩ 1 1 [.string fn, .int .i64 kd, .int .i64 0, .bool false] rfl rfl (World.news_of_block (cs := #[.string fn, .int .i64 kd, .int .i64 0, .bool false]) (t := 53) (fr := (0, 0)) (World.alloc_heap_new Y _)) (by simp [Value.oneCell']) (by omega) (by simp [maxLen] <;> omega) (by omega) (by simp <;> omega) (Y.heap.size + 1) (by simp) ?_; intro gg cap w2 hown1 hgrow hat hlt2; have hgo := S7.out.own.lt; have hB2 := OfSt.bx2 S7.out hgrow; obtain ⟨c4, c5⟩ := hB2.facts; obtain ⟨c6, c7⟩ := hB2.free)
                exact ⟨⟨k + 1, fs ++ [⟨fn, kd, 0, false⟩], some ⟨gg, 0, none⟩, cap, by omega, by omega, by go_num, HS6.out.symm, S7.out.more hgrow (by rw [flCells_append]; exact hown1)⟩, by simp [intOf]; omega⟩
          | false =>
            have hs5 : fldsTo l (k + 1) = addF fs ⟨fn, kd, 0, false⟩ := by rw [HSUC.out, if_neg h5, Bool.false_and]
            have HS5 := Lib.hid hs5
            clear hs5 HSUC
            have SB := Lib.hid (SX1.out.set bf 3 (.bool false) (by omega) (fun g hg => by have := HOB.out g hg; omega))
            have FB := Lib.hid (FX1.out.set3 false)
            obtain ⟨y0, y1, y2, y3⟩ := FB.out.facts
            simp only at y0 y1 y2 y3
            obtain ⟨c0, c1⟩ := SB.out.bx
            have hlies : FLies (wc.setCell ⟨bf, 3, none⟩ (.bool false)) vp fs.length vc fs := ⟨rfl, Lies.own SB.out.own⟩
            have hcall := rfield_any nm vp fs.length vc fs fn (wc.setCell ⟨bf, 3, none⟩ (.bool false)) hlies (by omega)
            unfold fieldPost at hcall
            have HC := Lib.hid hcall
            have hadd : addF fs ⟨fn, kd, 0, false⟩ = if fieldAt fs fn = none then fs ++ [⟨fn, kd, 0, false⟩] else fs := rfl
            rw [hadd] at HS5
            clear hlies hcall hadd
            generalize hfa : fieldAt fs fn = fa at HC HS5
            go_wp2_with fail
            refine HC.out.mono ?_
            rintro e Y ⟨rfl, hB⟩
            have SY := Lib.hid (SB.out.go hB)
            have FY := Lib.hid (FB.out.below hB)
            obtain ⟨y0, y1, y2, y3⟩ := FY.out.facts
            simp only at y0 y1 y2 y3
            obtain ⟨c0, c1⟩ := SY.out.bx
            have hbx := FY.out.lt
            clear hB HC SB FB SX1 FX1
            cases fa with
            | some i =>
              have hs6 : fldsTo l (k + 1) = fs := HS5.out.trans (if_neg (by simp))
              have HS6 := Lib.hid hs6
              clear hs6
              have HI : (some i : Option Nat).isSome = true := rfl
              clear HS5
              go_wp2_with fail
              exact ⟨⟨k + 1, fs, vp, vc, by omega, by omega, by go_num, HS6.out.symm, SY.out⟩, by simp [intOf]; omega⟩
            | none =>
              have hs6 : fldsTo l (k + 1) = fs ++ [⟨fn, kd, 0, false⟩] := HS5.out.trans (if_pos rfl)
              have HS6 := Lib.hid hs6
              clear hs6
              have HI : (none : Option Nat).isSome = false := rfl
              clear HS5
              have S7 := Lib.hid (SY.out.alloc (.cells #[.string fn, .int .i64 kd, .int .i64 0, .bool false] 53))
              have hown := SY.out.own
              have HOWN := Lib.hid hown
              have hlt7 := SY.out.lt
              clear hown
              go_wp2_with (at_builtin; refine wpList_append_lies _ rfl _ _ _ rfl (w.heap.size + 5) 53 i0 _ 4 40 Tryd.underlying25 hi hz0 hz1 hz2 rfl (by omega) _ fs.length _ rfl (HOWN.out.alloc _) ⟨Y.heap.size, 0, none⟩ 1 1 [.string fn, .int .i64 kd, .int .i64 0, .bool false] rfl rfl (World.news_of_block (cs := #[.string fn, .int .i64 kd, .int .i64 0, .bool false]) (t := 53) (fr := (0, 0)) (World.alloc_heap_new Y _)) (by simp [Value.oneCell']) (by omega) (by simp [maxLen] <;> omega) (by omega) (by simp <;> omega) (Y.heap.size + 1) (by simp) ?_; intro gg cap w2 hown1 hgrow hat hlt2; have hgo := S7.out.own.lt; have hB2 := OfSt.bx2 S7.out hgrow; obtain ⟨c4, c5⟩ := hB2.facts; obtain ⟨c6, c7⟩ := hB2.free)
              exact ⟨⟨k + 1, fs ++ [⟨fn, kd, 0, false⟩], some ⟨gg, 0, none⟩, cap, by omega, by omega, by go_num, HS6.out.symm, S7.out.more hgrow (by rw [flCells_append]; exact hown1)⟩, by simp [intOf]; omega⟩
    · have hres : fs = fldsTo l 6 := by
        rcases Nat.lt_or_ge k l.length with h | h
        · have e : k = 6 := by omega
          rw [hfs, e]
        · rw [hfs]; exact HEND.out k h hk6
      have HRES := Lib.hid hres
      have hfin := ST.out.fin
      have HFIN := Lib.hid hfin
      obtain ⟨c0, c1⟩ := ST.out.bx
      obtain ⟨g0, g1⟩ := ST.out.out.facts
      obtain ⟨g2, g3⟩ := ST.out.out.free
      clear hres hfin hfs HSUCC HEND HL HFINE
      rcases Nat.lt_or_ge k l.length with h | h
      · obtain rfl : k = 6 := by omega
        have e1 : decide (((6 : Nat) : Int) < (l.length : Int)) = true := decide_eq_true (by omega)
        have e1' : ((6 : Nat) : Int) < (l.length : Int) := by omega
        have e1'' : (6 : Int) < (l.length : Int) := by omega
        go_wp2_with fail
        have hf := HFIN.out
        generalize ((wr.setCell ⟨w.heap.size + 1, 0, none⟩ (.string nm)).setCell ⟨w.heap.size + 1, 1, none⟩ (.slice vp fs.length vc)) = W9 at hf ⊢
        obtain ⟨x0, x1⟩ := hf.1.facts
        exact bodyPost_ret (v := clV nm vp fs.length vc) (by simp [results, Tryd.results8, go_sem, x0, x1]) rfl ⟨vp, vc, by rw [← HRES.out], by rw [← HRES.out]; exact hf.2.1, hf.2.2⟩
      · have e1 : decide ((k : Int) < (l.length : Int)) = false := decide_eq_false (by omega)
        have e1' : ¬ (k : Int) < (l.length : Int) := by omega
        go_wp2_with fail
        have hf := HFIN.out
        generalize ((wr.setCell ⟨w.heap.size + 1, 0, none⟩ (.string nm)).setCell ⟨w.heap.size + 1, 1, none⟩ (.slice vp fs.length vc)) = W9 at hf ⊢
        obtain ⟨x0, x1⟩ := hf.1.facts
        exact bodyPost_ret (v := clV nm vp fs.length vc) (by simp [results, Tryd.results8, go_sem, x0, x1]) rfl ⟨vp, vc, by rw [← HRES.out], by rw [← HRES.out]; exact hf.2.1, hf.2.2⟩
end Go.Proofs.YtffoklhopmhjaaaDoor

/- morainelaw03.pick; moraineref03.Sign. -/
set_option linter.unusedSimpArgs false
set_option linter.unusedVariables false
namespace Go.Proofs.YtffoklhopmhjaaaDoor
open Go Go.RowKit Go.Shelf

theorem getD_at (s : ByteArray) (k : Nat) (h : k < s.size) : s.data.toList.getD k 0 = s[k] := by
  have h' : k < s.data.toList.length := by simpa using h
  rw [List.getD_eq_getElem?_getD, List.getElem?_eq_getElem h']
  rfl
theorem signL_eq (s : ByteArray) (h : 0 < s.size) : signL s.data.toList = signN s.size (s.data.toList.getD 0 0).toNat (s.data.toList.getD 1 0).toNat (s.data.toList.getD 2 0).toNat (s.data.toList.getD 3 0).toNat := by
  unfold signL
  have hl : s.data.toList.length = s.size := by simp
  rw [if_neg (fun e => by rw [e] at hl; simp at hl; omega), hl]
theorem signL_empty (s : ByteArray) (h : s.size = 0) : signL s.data.toList = 0 := by
  unfold signL
  rw [if_pos (List.eq_nil_of_length_eq_zero (by simpa using h))]
end Go.Proofs.YtffoklhopmhjaaaDoor

/- moraineref03.Sign, some classes of first bytes. -/
set_option linter.unusedSimpArgs false
set_option linter.unusedVariables false
namespace Go.Proofs.YtffoklhopmhjaaaDoor
open Go Go.RowKit Go.Shelf

set_option maxHeartbeats 4000000 in
set_option maxRecDepth 100000 in
theorem sign_c5_loop (s : ByteArray) (hs : s.size ≤ 9223372036854775807) (h0 : 0 < s.size) (hl : 237 ≤ (s[0].toNat : Int)) (hu : (s[0].toNat : Int) ≤ 237) (hn : 3 ≤ s.size) (hb1 : 128 ≤ (s[1].toNat : Int)) (hb2 : (s[1].toNat : Int) ≤ 159) (w : World) :
    Calls Tryd.prog 63 #[.string s] w fun e w' => e = .returned (.int .i64 (signL s.data.toList : Nat)) ∧ w = w' := by
  have hb0 : (s.data.toList.getD 0 0).toNat = s[0].toNat := by rw [getD_at s 0 h0]
  have hx0 : (s[0].toNat : Int) ≤ 255 := by have := (s[0]'h0).toNat_lt; omega
  have hz : ((s.size : Int) == 0) = false := by rw [beq_eq_false_iff_ne]; omega
  have t0 : decide ((s[0].toNat : Int) < 128) = false := decide_eq_false (by omega)
  have t1 : decide ((194 : Int) ≤ (s[0].toNat : Int)) = true := decide_eq_true (by omega)
  have t2 : decide ((s[0].toNat : Int) ≤ 223) = false := decide_eq_false (by omega)
  have t3 : decide ((224 : Int) ≤ (s[0].toNat : Int)) = true := decide_eq_true (by omega)
  have t4 : decide ((s[0].toNat : Int) ≤ 239) = true := decide_eq_true (by omega)
  have t5 : decide ((240 : Int) ≤ (s[0].toNat : Int)) = false := decide_eq_false (by omega)
  have t6 : ((s[0].toNat : Int) == 224) = false := by rw [beq_eq_false_iff_ne]; omega
  have t7 : ((s[0].toNat : Int) == 237) = true := by rw [beq_iff_eq]; omega
  have t8 : ((s[0].toNat : Int) == 240) = false := by rw [beq_eq_false_iff_ne]; omega
  have t9 : ((s[0].toNat : Int) == 244) = false := by rw [beq_eq_false_iff_ne]; omega
  have hg1 : (s.data.toList.getD 1 0).toNat = s[1].toNat := by rw [getD_at s 1 (by omega)]
  have hvok : (∀ k, 2 ≤ k → k < 3 → 128 ≤ (s.data.toList.getD k 0).toNat ∧ (s.data.toList.getD k 0).toNat ≤ 191) → signL s.data.toList = 3 := by
    intro h
    have h2 := h 2
    have h3 := h 3
    rw [signL_eq s h0, hb0, hg1]
    unfold signN
    repeat' split
    all_goals omega
  have hvno : ∀ k, 2 ≤ k → k < 3 → ¬ (128 ≤ (s.data.toList.getD k 0).toNat ∧ (s.data.toList.getD k 0).toNat ≤ 191) → signL s.data.toList = 0 := by
    intro k k2 kn h
    have hk : k = 2 ∨ k = 3 := by omega
    rw [signL_eq s h0, hb0, hg1]
    unfold signN
    rcases hk with rfl | rfl
    all_goals repeat' split
    all_goals omega
  generalize hr : signL s.data.toList = res at hvok hvno ⊢
  have HOK := Lib.hid hvok
  have HNO := Lib.hid hvno
  have d : decide ((s.size : Int) < 3) = false := decide_eq_false (by omega)
  have d' : decide (s.size < 3) = false := decide_eq_false (by omega)
  have hs1 : 1 < s.size := by omega
  have hx1 : (s[1].toNat : Int) ≤ 255 := by have := (s[1]'hs1).toNat_lt; omega
  have d1 : decide ((s[1].toNat : Int) < 128) = false := decide_eq_false (by omega)
  have d2 : decide ((159 : Int) < (s[1].toNat : Int)) = false := decide_eq_false (by omega)
  clear hvok hvno hb0 hg1 hr hl hu hb1 hb2
  go_enter Tryd.func63, Tryd.ntmps63
  go_wp2_with fail
  go_loopw [7] (fun i wr => ∃ k : Nat, 2 ≤ k ∧ k ≤ 3 ∧ i = .int .i64 (k : Int) ∧ (∀ m, 2 ≤ m → m < k → 128 ≤ (s.data.toList.getD m 0).toNat ∧ (s.data.toList.getD m 0).toNat ≤ 191) ∧ w = wr) (fun i _ => 3 - (intOf i).toNat)
  case atStart => exact ⟨2, by omega, by omega, rfl, fun m a b => by omega, rfl⟩
  case round =>
    obtain ⟨k, hk2, hkn, rfl, hall, rfl⟩ := hrel
    have HALL := Lib.hid hall
    clear hall
    by_cases hlt : k < 3
    · have hks : k < s.size := by omega
      have hgk : (s.data.toList.getD k 0).toNat = s[k].toNat := by rw [getD_at s k hks]
      by_cases e1 : (s[k].toNat : Int) < 128
      · have q1 : decide ((s[k].toNat : Int) < 128) = true := decide_eq_true e1
        have hz0 := HNO.out k hk2 hlt (by rw [hgk]; omega)
        have HZ := Lib.hid hz0
        clear hz0 hgk
        go_wp2_with fail
        go_ret
        exact ⟨by rw [HZ.out]; rfl, rfl⟩
      · have q1 : decide ((s[k].toNat : Int) < 128) = false := decide_eq_false e1
        by_cases e2 : 191 < (s[k].toNat : Int)
        · have q2 : decide ((191 : Int) < (s[k].toNat : Int)) = true := decide_eq_true e2
          have hz0 := HNO.out k hk2 hlt (by rw [hgk]; omega)
          have HZ := Lib.hid hz0
          clear hz0 hgk
          go_wp2_with fail
          go_ret
          exact ⟨by rw [HZ.out]; rfl, rfl⟩
        · have q2 : decide ((191 : Int) < (s[k].toNat : Int)) = false := decide_eq_false e2
          have hnext : ∀ m, 2 ≤ m → m < k + 1 → 128 ≤ (s.data.toList.getD m 0).toNat ∧ (s.data.toList.getD m 0).toNat ≤ 191 := by
            intro m m2 mk
            by_cases e : m = k
            · subst e; rw [hgk]; omega
            · exact HALL.out m m2 (by omega)
          have HN := Lib.hid hnext
          clear hnext hgk
          go_wp2_with fail
          exact ⟨⟨k + 1, by omega, by omega, by go_num, HN.out, by trivial⟩, by simp [intOf]; omega⟩
    · obtain rfl : k = 3 := by omega
      have hz0 := HOK.out HALL.out
      have HZ := Lib.hid hz0
      clear hz0
      go_wp2_with fail
      go_ret
      exact ⟨by rw [HZ.out]; rfl, rfl⟩

set_option maxHeartbeats 4000000 in
set_option maxRecDepth 100000 in
theorem sign_c6_short (s : ByteArray) (hs : s.size ≤ 9223372036854775807) (h0 : 0 < s.size) (hl : 238 ≤ (s[0].toNat : Int)) (hu : (s[0].toNat : Int) ≤ 239) (hn : s.size < 3) (w : World) :
    Calls Tryd.prog 63 #[.string s] w fun e w' => e = .returned (.int .i64 (signL s.data.toList : Nat)) ∧ w = w' := by
  have hb0 : (s.data.toList.getD 0 0).toNat = s[0].toNat := by rw [getD_at s 0 h0]
  have hx0 : (s[0].toNat : Int) ≤ 255 := by have := (s[0]'h0).toNat_lt; omega
  have hz : ((s.size : Int) == 0) = false := by rw [beq_eq_false_iff_ne]; omega
  have t0 : decide ((s[0].toNat : Int) < 128) = false := decide_eq_false (by omega)
  have t1 : decide ((194 : Int) ≤ (s[0].toNat : Int)) = true := decide_eq_true (by omega)
  have t2 : decide ((s[0].toNat : Int) ≤ 223) = false := decide_eq_false (by omega)
  have t3 : decide ((224 : Int) ≤ (s[0].toNat : Int)) = true := decide_eq_true (by omega)
  have t4 : decide ((s[0].toNat : Int) ≤ 239) = true := decide_eq_true (by omega)
  have t5 : decide ((240 : Int) ≤ (s[0].toNat : Int)) = false := decide_eq_false (by omega)
  have t6 : ((s[0].toNat : Int) == 224) = false := by rw [beq_eq_false_iff_ne]; omega
  have t7 : ((s[0].toNat : Int) == 237) = false := by rw [beq_eq_false_iff_ne]; omega
  have t8 : ((s[0].toNat : Int) == 240) = false := by rw [beq_eq_false_iff_ne]; omega
  have t9 : ((s[0].toNat : Int) == 244) = false := by rw [beq_eq_false_iff_ne]; omega
  have hv : signL s.data.toList = 0 := by
    rw [signL_eq s h0, hb0]
    unfold signN
    repeat' split
    all_goals omega
  rw [hv]
  have d : decide ((s.size : Int) < 3) = true := decide_eq_true (by omega)
  have d' : decide (s.size < 3) = true := decide_eq_true (by omega)
  clear hv hb0 hl hu
  go_enter Tryd.func63, Tryd.ntmps63
  go_wp2_with fail
  go_ret
  exact ⟨rfl, rfl⟩

set_option maxHeartbeats 4000000 in
set_option maxRecDepth 100000 in
theorem sign_c6_low (s : ByteArray) (hs : s.size ≤ 9223372036854775807) (h0 : 0 < s.size) (hl : 238 ≤ (s[0].toNat : Int)) (hu : (s[0].toNat : Int) ≤ 239) (hn : 3 ≤ s.size) (hb : ((s[1].toNat : Int) < 128)) (w : World) :
    Calls Tryd.prog 63 #[.string s] w fun e w' => e = .returned (.int .i64 (signL s.data.toList : Nat)) ∧ w = w' := by
  have hb0 : (s.data.toList.getD 0 0).toNat = s[0].toNat := by rw [getD_at s 0 h0]
  have hx0 : (s[0].toNat : Int) ≤ 255 := by have := (s[0]'h0).toNat_lt; omega
  have hz : ((s.size : Int) == 0) = false := by rw [beq_eq_false_iff_ne]; omega
  have t0 : decide ((s[0].toNat : Int) < 128) = false := decide_eq_false (by omega)
  have t1 : decide ((194 : Int) ≤ (s[0].toNat : Int)) = true := decide_eq_true (by omega)
  have t2 : decide ((s[0].toNat : Int) ≤ 223) = false := decide_eq_false (by omega)
  have t3 : decide ((224 : Int) ≤ (s[0].toNat : Int)) = true := decide_eq_true (by omega)
  have t4 : decide ((s[0].toNat : Int) ≤ 239) = true := decide_eq_true (by omega)
  have t5 : decide ((240 : Int) ≤ (s[0].toNat : Int)) = false := decide_eq_false (by omega)
  have t6 : ((s[0].toNat : Int) == 224) = false := by rw [beq_eq_false_iff_ne]; omega
  have t7 : ((s[0].toNat : Int) == 237) = false := by rw [beq_eq_false_iff_ne]; omega
  have t8 : ((s[0].toNat : Int) == 240) = false := by rw [beq_eq_false_iff_ne]; omega
  have t9 : ((s[0].toNat : Int) == 244) = false := by rw [beq_eq_false_iff_ne]; omega
  have hb1 : (s.data.toList.getD 1 0).toNat = s[1].toNat := by rw [getD_at s 1 (by omega)]
  have hv : signL s.data.toList = 0 := by
    rw [signL_eq s h0, hb0, hb1]
    unfold signN
    repeat' split
    all_goals omega
  rw [hv]
  have d : decide ((s.size : Int) < 3) = false := decide_eq_false (by omega)
  have d' : decide (s.size < 3) = false := decide_eq_false (by omega)
  have hs1 : 1 < s.size := by omega
  have hx1 : (s[1].toNat : Int) ≤ 255 := by have := (s[1]'hs1).toNat_lt; omega
  have d1 : decide ((s[1].toNat : Int) < 128) = true := decide_eq_true hb
  clear hv hb0 hb1 hl hu hb hn
  go_enter Tryd.func63, Tryd.ntmps63
  go_wp2_with fail
  go_ret
  exact ⟨rfl, rfl⟩

set_option maxHeartbeats 4000000 in
set_option maxRecDepth 100000 in
theorem sign_c6_high (s : ByteArray) (hs : s.size ≤ 9223372036854775807) (h0 : 0 < s.size) (hl : 238 ≤ (s[0].toNat : Int)) (hu : (s[0].toNat : Int) ≤ 239) (hn : 3 ≤ s.size) (hb : (191 < (s[1].toNat : Int))) (w : World) :
    Calls Tryd.prog 63 #[.string s] w fun e w' => e = .returned (.int .i64 (signL s.data.toList : Nat)) ∧ w = w' := by
  have hb0 : (s.data.toList.getD 0 0).toNat = s[0].toNat := by rw [getD_at s 0 h0]
  have hx0 : (s[0].toNat : Int) ≤ 255 := by have := (s[0]'h0).toNat_lt; omega
  have hz : ((s.size : Int) == 0) = false := by rw [beq_eq_false_iff_ne]; omega
  have t0 : decide ((s[0].toNat : Int) < 128) = false := decide_eq_false (by omega)
  have t1 : decide ((194 : Int) ≤ (s[0].toNat : Int)) = true := decide_eq_true (by omega)
  have t2 : decide ((s[0].toNat : Int) ≤ 223) = false := decide_eq_false (by omega)
  have t3 : decide ((224 : Int) ≤ (s[0].toNat : Int)) = true := decide_eq_true (by omega)
  have t4 : decide ((s[0].toNat : Int) ≤ 239) = true := decide_eq_true (by omega)
  have t5 : decide ((240 : Int) ≤ (s[0].toNat : Int)) = false := decide_eq_false (by omega)
  have t6 : ((s[0].toNat : Int) == 224) = false := by rw [beq_eq_false_iff_ne]; omega
  have t7 : ((s[0].toNat : Int) == 237) = false := by rw [beq_eq_false_iff_ne]; omega
  have t8 : ((s[0].toNat : Int) == 240) = false := by rw [beq_eq_false_iff_ne]; omega
  have t9 : ((s[0].toNat : Int) == 244) = false := by rw [beq_eq_false_iff_ne]; omega
  have hb1 : (s.data.toList.getD 1 0).toNat = s[1].toNat := by rw [getD_at s 1 (by omega)]
  have hv : signL s.data.toList = 0 := by
    rw [signL_eq s h0, hb0, hb1]
    unfold signN
    repeat' split
    all_goals omega
  rw [hv]
  have d : decide ((s.size : Int) < 3) = false := decide_eq_false (by omega)
  have d' : decide (s.size < 3) = false := decide_eq_false (by omega)
  have hs1 : 1 < s.size := by omega
  have hx1 : (s[1].toNat : Int) ≤ 255 := by have := (s[1]'hs1).toNat_lt; omega
  have d1 : decide ((s[1].toNat : Int) < 128) = false := decide_eq_false (by omega)
  have d2 : decide ((191 : Int) < (s[1].toNat : Int)) = true := decide_eq_true hb
  clear hv hb0 hb1 hl hu hb hn
  go_enter Tryd.func63, Tryd.ntmps63
  go_wp2_with fail
  go_ret
  exact ⟨rfl, rfl⟩

set_option maxHeartbeats 4000000 in
set_option maxRecDepth 100000 in
theorem sign_c6_loop (s : ByteArray) (hs : s.size ≤ 9223372036854775807) (h0 : 0 < s.size) (hl : 238 ≤ (s[0].toNat : Int)) (hu : (s[0].toNat : Int) ≤ 239) (hn : 3 ≤ s.size) (hb1 : 128 ≤ (s[1].toNat : Int)) (hb2 : (s[1].toNat : Int) ≤ 191) (w : World) :
    Calls Tryd.prog 63 #[.string s] w fun e w' => e = .returned (.int .i64 (signL s.data.toList : Nat)) ∧ w = w' := by
  have hb0 : (s.data.toList.getD 0 0).toNat = s[0].toNat := by rw [getD_at s 0 h0]
  have hx0 : (s[0].toNat : Int) ≤ 255 := by have := (s[0]'h0).toNat_lt; omega
  have hz : ((s.size : Int) == 0) = false := by rw [beq_eq_false_iff_ne]; omega
  have t0 : decide ((s[0].toNat : Int) < 128) = false := decide_eq_false (by omega)
  have t1 : decide ((194 : Int) ≤ (s[0].toNat : Int)) = true := decide_eq_true (by omega)
  have t2 : decide ((s[0].toNat : Int) ≤ 223) = false := decide_eq_false (by omega)
  have t3 : decide ((224 : Int) ≤ (s[0].toNat : Int)) = true := decide_eq_true (by omega)
  have t4 : decide ((s[0].toNat : Int) ≤ 239) = true := decide_eq_true (by omega)
  have t5 : decide ((240 : Int) ≤ (s[0].toNat : Int)) = false := decide_eq_false (by omega)
  have t6 : ((s[0].toNat : Int) == 224) = false := by rw [beq_eq_false_iff_ne]; omega
  have t7 : ((s[0].toNat : Int) == 237) = false := by rw [beq_eq_false_iff_ne]; omega
  have t8 : ((s[0].toNat : Int) == 240) = false := by rw [beq_eq_false_iff_ne]; omega
  have t9 : ((s[0].toNat : Int) == 244) = false := by rw [beq_eq_false_iff_ne]; omega
  have hg1 : (s.data.toList.getD 1 0).toNat = s[1].toNat := by rw [getD_at s 1 (by omega)]
  have hvok : (∀ k, 2 ≤ k → k < 3 → 128 ≤ (s.data.toList.getD k 0).toNat ∧ (s.data.toList.getD k 0).toNat ≤ 191) → signL s.data.toList = 3 := by
    intro h
    have h2 := h 2
    have h3 := h 3
    rw [signL_eq s h0, hb0, hg1]
    unfold signN
    repeat' split
    all_goals omega
  have hvno : ∀ k, 2 ≤ k → k < 3 → ¬ (128 ≤ (s.data.toList.getD k 0).toNat ∧ (s.data.toList.getD k 0).toNat ≤ 191) → signL s.data.toList = 0 := by
    intro k k2 kn h
    have hk : k = 2 ∨ k = 3 := by omega
    rw [signL_eq s h0, hb0, hg1]
    unfold signN
    rcases hk with rfl | rfl
    all_goals repeat' split
    all_goals omega
  generalize hr : signL s.data.toList = res at hvok hvno ⊢
  have HOK := Lib.hid hvok
  have HNO := Lib.hid hvno
  have d : decide ((s.size : Int) < 3) = false := decide_eq_false (by omega)
  have d' : decide (s.size < 3) = false := decide_eq_false (by omega)
  have hs1 : 1 < s.size := by omega
  have hx1 : (s[1].toNat : Int) ≤ 255 := by have := (s[1]'hs1).toNat_lt; omega
  have d1 : decide ((s[1].toNat : Int) < 128) = false := decide_eq_false (by omega)
  have d2 : decide ((191 : Int) < (s[1].toNat : Int)) = false := decide_eq_false (by omega)
  clear hvok hvno hb0 hg1 hr hl hu hb1 hb2
  go_enter Tryd.func63, Tryd.ntmps63
  go_wp2_with fail
  go_loopw [7] (fun i wr => ∃ k : Nat, 2 ≤ k ∧ k ≤ 3 ∧ i = .int .i64 (k : Int) ∧ (∀ m, 2 ≤ m → m < k → 128 ≤ (s.data.toList.getD m 0).toNat ∧ (s.data.toList.getD m 0).toNat ≤ 191) ∧ w = wr) (fun i _ => 3 - (intOf i).toNat)
  case atStart => exact ⟨2, by omega, by omega, rfl, fun m a b => by omega, rfl⟩
  case round =>
    obtain ⟨k, hk2, hkn, rfl, hall, rfl⟩ := hrel
    have HALL := Lib.hid hall
    clear hall
    by_cases hlt : k < 3
    · have hks : k < s.size := by omega
      have hgk : (s.data.toList.getD k 0).toNat = s[k].toNat := by rw [getD_at s k hks]
      by_cases e1 : (s[k].toNat : Int) < 128
      · have q1 : decide ((s[k].toNat : Int) < 128) = true := decide_eq_true e1
        have hz0 := HNO.out k hk2 hlt (by rw [hgk]; omega)
        have HZ := Lib.hid hz0
        clear hz0 hgk
        go_wp2_with fail
        go_ret
        exact ⟨by rw [HZ.out]; rfl, rfl⟩
      · have q1 : decide ((s[k].toNat : Int) < 128) = false := decide_eq_false e1
        by_cases e2 : 191 < (s[k].toNat : Int)
        · have q2 : decide ((191 : Int) < (s[k].toNat : Int)) = true := decide_eq_true e2
          have hz0 := HNO.out k hk2 hlt (by rw [hgk]; omega)
          have HZ := Lib.hid hz0
          clear hz0 hgk
          go_wp2_with fail
          go_ret
          exact ⟨by rw [HZ.out]; rfl, rfl⟩
        · have q2 : decide ((191 : Int) < (s[k].toNat : Int)) = false := decide_eq_false e2
          have hnext : ∀ m, 2 ≤ m → m < k + 1 → 128 ≤ (s.data.toList.getD m 0).toNat ∧ (s.data.toList.getD m 0).toNat ≤ 191 := by
            intro m m2 mk
            by_cases e : m = k
            · subst e; rw [hgk]; omega
            · exact HALL.out m m2 (by omega)
          have HN := Lib.hid hnext
          clear hnext hgk
          go_wp2_with fail
          exact ⟨⟨k + 1, by omega, by omega, by go_num, HN.out, by trivial⟩, by simp [intOf]; omega⟩
    · obtain rfl : k = 3 := by omega
      have hz0 := HOK.out HALL.out
      have HZ := Lib.hid hz0
      clear hz0
      go_wp2_with fail
      go_ret
      exact ⟨by rw [HZ.out]; rfl, rfl⟩

set_option maxHeartbeats 4000000 in
set_option maxRecDepth 100000 in
theorem sign_c7_short (s : ByteArray) (hs : s.size ≤ 9223372036854775807) (h0 : 0 < s.size) (hl : 240 ≤ (s[0].toNat : Int)) (hu : (s[0].toNat : Int) ≤ 240) (hn : s.size < 4) (w : World) :
    Calls Tryd.prog 63 #[.string s] w fun e w' => e = .returned (.int .i64 (signL s.data.toList : Nat)) ∧ w = w' := by
  have hb0 : (s.data.toList.getD 0 0).toNat = s[0].toNat := by rw [getD_at s 0 h0]
  have hx0 : (s[0].toNat : Int) ≤ 255 := by have := (s[0]'h0).toNat_lt; omega
  have hz : ((s.size : Int) == 0) = false := by rw [beq_eq_false_iff_ne]; omega
  have t0 : decide ((s[0].toNat : Int) < 128) = false := decide_eq_false (by omega)
  have t1 : decide ((194 : Int) ≤ (s[0].toNat : Int)) = true := decide_eq_true (by omega)
  have t2 : decide ((s[0].toNat : Int) ≤ 223) = false := decide_eq_false (by omega)
  have t3 : decide ((224 : Int) ≤ (s[0].toNat : Int)) = true := decide_eq_true (by omega)
  have t4 : decide ((s[0].toNat : Int) ≤ 239) = false := decide_eq_false (by omega)
  have t5 : decide ((240 : Int) ≤ (s[0].toNat : Int)) = true := decide_eq_true (by omega)
  have t6 : decide ((s[0].toNat : Int) ≤ 244) = true := decide_eq_true (by omega)
  have t7 : ((s[0].toNat : Int) == 224) = false := by rw [beq_eq_false_iff_ne]; omega
  have t8 : ((s[0].toNat : Int) == 237) = false := by rw [beq_eq_false_iff_ne]; omega
  have t9 : ((s[0].toNat : Int) == 240) = true := by rw [beq_iff_eq]; omega
  have t10 : ((s[0].toNat : Int) == 244) = false := by rw [beq_eq_false_iff_ne]; omega
  have hv : signL s.data.toList = 0 := by
    rw [signL_eq s h0, hb0]
    unfold signN
    repeat' split
    all_goals omega
  rw [hv]
  have d : decide ((s.size : Int) < 4) = true := decide_eq_true (by omega)
  have d' : decide (s.size < 4) = true := decide_eq_true (by omega)
  clear hv hb0 hl hu
  go_enter Tryd.func63, Tryd.ntmps63
  go_wp2_with fail
  go_ret
  exact ⟨rfl, rfl⟩

set_option maxHeartbeats 4000000 in
set_option maxRecDepth 100000 in
theorem sign_c7_low (s : ByteArray) (hs : s.size ≤ 9223372036854775807) (h0 : 0 < s.size) (hl : 240 ≤ (s[0].toNat : Int)) (hu : (s[0].toNat : Int) ≤ 240) (hn : 4 ≤ s.size) (hb : ((s[1].toNat : Int) < 144)) (w : World) :
    Calls Tryd.prog 63 #[.string s] w fun e w' => e = .returned (.int .i64 (signL s.data.toList : Nat)) ∧ w = w' := by
  have hb0 : (s.data.toList.getD 0 0).toNat = s[0].toNat := by rw [getD_at s 0 h0]
  have hx0 : (s[0].toNat : Int) ≤ 255 := by have := (s[0]'h0).toNat_lt; omega
  have hz : ((s.size : Int) == 0) = false := by rw [beq_eq_false_iff_ne]; omega
  have t0 : decide ((s[0].toNat : Int) < 128) = false := decide_eq_false (by omega)
  have t1 : decide ((194 : Int) ≤ (s[0].toNat : Int)) = true := decide_eq_true (by omega)
  have t2 : decide ((s[0].toNat : Int) ≤ 223) = false := decide_eq_false (by omega)
  have t3 : decide ((224 : Int) ≤ (s[0].toNat : Int)) = true := decide_eq_true (by omega)
  have t4 : decide ((s[0].toNat : Int) ≤ 239) = false := decide_eq_false (by omega)
  have t5 : decide ((240 : Int) ≤ (s[0].toNat : Int)) = true := decide_eq_true (by omega)
  have t6 : decide ((s[0].toNat : Int) ≤ 244) = true := decide_eq_true (by omega)
  have t7 : ((s[0].toNat : Int) == 224) = false := by rw [beq_eq_false_iff_ne]; omega
  have t8 : ((s[0].toNat : Int) == 237) = false := by rw [beq_eq_false_iff_ne]; omega
  have t9 : ((s[0].toNat : Int) == 240) = true := by rw [beq_iff_eq]; omega
  have t10 : ((s[0].toNat : Int) == 244) = false := by rw [beq_eq_false_iff_ne]; omega
  have hb1 : (s.data.toList.getD 1 0).toNat = s[1].toNat := by rw [getD_at s 1 (by omega)]
  have hv : signL s.data.toList = 0 := by
    rw [signL_eq s h0, hb0, hb1]
    unfold signN
    repeat' split
    all_goals omega
  rw [hv]
  have d : decide ((s.size : Int) < 4) = false := decide_eq_false (by omega)
  have d' : decide (s.size < 4) = false := decide_eq_false (by omega)
  have hs1 : 1 < s.size := by omega
  have hx1 : (s[1].toNat : Int) ≤ 255 := by have := (s[1]'hs1).toNat_lt; omega
  have d1 : decide ((s[1].toNat : Int) < 144) = true := decide_eq_true hb
  clear hv hb0 hb1 hl hu hb hn
  go_enter Tryd.func63, Tryd.ntmps63
  go_wp2_with fail
  go_ret
  exact ⟨rfl, rfl⟩

set_option maxHeartbeats 4000000 in
set_option maxRecDepth 100000 in
theorem sign_c7_high (s : ByteArray) (hs : s.size ≤ 9223372036854775807) (h0 : 0 < s.size) (hl : 240 ≤ (s[0].toNat : Int)) (hu : (s[0].toNat : Int) ≤ 240) (hn : 4 ≤ s.size) (hb : (191 < (s[1].toNat : Int))) (w : World) :
    Calls Tryd.prog 63 #[.string s] w fun e w' => e = .returned (.int .i64 (signL s.data.toList : Nat)) ∧ w = w' := by
  have hb0 : (s.data.toList.getD 0 0).toNat = s[0].toNat := by rw [getD_at s 0 h0]
  have hx0 : (s[0].toNat : Int) ≤ 255 := by have := (s[0]'h0).toNat_lt; omega
  have hz : ((s.size : Int) == 0) = false := by rw [beq_eq_false_iff_ne]; omega
  have t0 : decide ((s[0].toNat : Int) < 128) = false := decide_eq_false (by omega)
  have t1 : decide ((194 : Int) ≤ (s[0].toNat : Int)) = true := decide_eq_true (by omega)
  have t2 : decide ((s[0].toNat : Int) ≤ 223) = false := decide_eq_false (by omega)
  have t3 : decide ((224 : Int) ≤ (s[0].toNat : Int)) = true := decide_eq_true (by omega)
  have t4 : decide ((s[0].toNat : Int) ≤ 239) = false := decide_eq_false (by omega)
  have t5 : decide ((240 : Int) ≤ (s[0].toNat : Int)) = true := decide_eq_true (by omega)
  have t6 : decide ((s[0].toNat : Int) ≤ 244) = true := decide_eq_true (by omega)
  have t7 : ((s[0].toNat : Int) == 224) = false := by rw [beq_eq_false_iff_ne]; omega
  have t8 : ((s[0].toNat : Int) == 237) = false := by rw [beq_eq_false_iff_ne]; omega
  have t9 : ((s[0].toNat : Int) == 240) = true := by rw [beq_iff_eq]; omega
  have t10 : ((s[0].toNat : Int) == 244) = false := by rw [beq_eq_false_iff_ne]; omega
  have hb1 : (s.data.toList.getD 1 0).toNat = s[1].toNat := by rw [getD_at s 1 (by omega)]
  have hv : signL s.data.toList = 0 := by
    rw [signL_eq s h0, hb0, hb1]
    unfold signN
    repeat' split
    all_goals omega
  rw [hv]
  have d : decide ((s.size : Int) < 4) = false := decide_eq_false (by omega)
  have d' : decide (s.size < 4) = false := decide_eq_false (by omega)
  have hs1 : 1 < s.size := by omega
  have hx1 : (s[1].toNat : Int) ≤ 255 := by have := (s[1]'hs1).toNat_lt; omega
  have d1 : decide ((s[1].toNat : Int) < 144) = false := decide_eq_false (by omega)
  have d2 : decide ((191 : Int) < (s[1].toNat : Int)) = true := decide_eq_true hb
  clear hv hb0 hb1 hl hu hb hn
  go_enter Tryd.func63, Tryd.ntmps63
  go_wp2_with fail
  go_ret
  exact ⟨rfl, rfl⟩

set_option maxHeartbeats 4000000 in
set_option maxRecDepth 100000 in
theorem sign_c7_loop (s : ByteArray) (hs : s.size ≤ 9223372036854775807) (h0 : 0 < s.size) (hl : 240 ≤ (s[0].toNat : Int)) (hu : (s[0].toNat : Int) ≤ 240) (hn : 4 ≤ s.size) (hb1 : 144 ≤ (s[1].toNat : Int)) (hb2 : (s[1].toNat : Int) ≤ 191) (w : World) :
    Calls Tryd.prog 63 #[.string s] w fun e w' => e = .returned (.int .i64 (signL s.data.toList : Nat)) ∧ w = w' := by
  have hb0 : (s.data.toList.getD 0 0).toNat = s[0].toNat := by rw [getD_at s 0 h0]
  have hx0 : (s[0].toNat : Int) ≤ 255 := by have := (s[0]'h0).toNat_lt; omega
  have hz : ((s.size : Int) == 0) = false := by rw [beq_eq_false_iff_ne]; omega
  have t0 : decide ((s[0].toNat : Int) < 128) = false := decide_eq_false (by omega)
  have t1 : decide ((194 : Int) ≤ (s[0].toNat : Int)) = true := decide_eq_true (by omega)
  have t2 : decide ((s[0].toNat : Int) ≤ 223) = false := decide_eq_false (by omega)
  have t3 : decide ((224 : Int) ≤ (s[0].toNat : Int)) = true := decide_eq_true (by omega)
  have t4 : decide ((s[0].toNat : Int) ≤ 239) = false := decide_eq_false (by omega)
  have t5 : decide ((240 : Int) ≤ (s[0].toNat : Int)) = true := decide_eq_true (by omega)
  have t6 : decide ((s[0].toNat : Int) ≤ 244) = true := decide_eq_true (by omega)
  have t7 : ((s[0].toNat : Int) == 224) = false := by rw [beq_eq_false_iff_ne]; omega
  have t8 : ((s[0].toNat : Int) == 237) = false := by rw [beq_eq_false_iff_ne]; omega
  have t9 : ((s[0].toNat : Int) == 240) = true := by rw [beq_iff_eq]; omega
  have t10 : ((s[0].toNat : Int) == 244) = false := by rw [beq_eq_false_iff_ne]; omega
  have hg1 : (s.data.toList.getD 1 0).toNat = s[1].toNat := by rw [getD_at s 1 (by omega)]
  have hvok : (∀ k, 2 ≤ k → k < 4 → 128 ≤ (s.data.toList.getD k 0).toNat ∧ (s.data.toList.getD k 0).toNat ≤ 191) → signL s.data.toList = 4 := by
    intro h
    have h2 := h 2
    have h3 := h 3
    rw [signL_eq s h0, hb0, hg1]
    unfold signN
    repeat' split
    all_goals omega
  have hvno : ∀ k, 2 ≤ k → k < 4 → ¬ (128 ≤ (s.data.toList.getD k 0).toNat ∧ (s.data.toList.getD k 0).toNat ≤ 191) → signL s.data.toList = 0 := by
    intro k k2 kn h
    have hk : k = 2 ∨ k = 3 := by omega
    rw [signL_eq s h0, hb0, hg1]
    unfold signN
    rcases hk with rfl | rfl
    all_goals repeat' split
    all_goals omega
  generalize hr : signL s.data.toList = res at hvok hvno ⊢
  have HOK := Lib.hid hvok
  have HNO := Lib.hid hvno
  have d : decide ((s.size : Int) < 4) = false := decide_eq_false (by omega)
  have d' : decide (s.size < 4) = false := decide_eq_false (by omega)
  have hs1 : 1 < s.size := by omega
  have hx1 : (s[1].toNat : Int) ≤ 255 := by have := (s[1]'hs1).toNat_lt; omega
  have d1 : decide ((s[1].toNat : Int) < 144) = false := decide_eq_false (by omega)
  have d2 : decide ((191 : Int) < (s[1].toNat : Int)) = false := decide_eq_false (by omega)
  clear hvok hvno hb0 hg1 hr hl hu hb1 hb2
  go_enter Tryd.func63, Tryd.ntmps63
  go_wp2_with fail
  go_loopw [7] (fun i wr => ∃ k : Nat, 2 ≤ k ∧ k ≤ 4 ∧ i = .int .i64 (k : Int) ∧ (∀ m, 2 ≤ m → m < k → 128 ≤ (s.data.toList.getD m 0).toNat ∧ (s.data.toList.getD m 0).toNat ≤ 191) ∧ w = wr) (fun i _ => 4 - (intOf i).toNat)
  case atStart => exact ⟨2, by omega, by omega, rfl, fun m a b => by omega, rfl⟩
  case round =>
    obtain ⟨k, hk2, hkn, rfl, hall, rfl⟩ := hrel
    have HALL := Lib.hid hall
    clear hall
    by_cases hlt : k < 4
    · have hks : k < s.size := by omega
      have hgk : (s.data.toList.getD k 0).toNat = s[k].toNat := by rw [getD_at s k hks]
      by_cases e1 : (s[k].toNat : Int) < 128
      · have q1 : decide ((s[k].toNat : Int) < 128) = true := decide_eq_true e1
        have hz0 := HNO.out k hk2 hlt (by rw [hgk]; omega)
        have HZ := Lib.hid hz0
        clear hz0 hgk
        go_wp2_with fail
        go_ret
        exact ⟨by rw [HZ.out]; rfl, rfl⟩
      · have q1 : decide ((s[k].toNat : Int) < 128) = false := decide_eq_false e1
        by_cases e2 : 191 < (s[k].toNat : Int)
        · have q2 : decide ((191 : Int) < (s[k].toNat : Int)) = true := decide_eq_true e2
          have hz0 := HNO.out k hk2 hlt (by rw [hgk]; omega)
          have HZ := Lib.hid hz0
          clear hz0 hgk
          go_wp2_with fail
          go_ret
          exact ⟨by rw [HZ.out]; rfl, rfl⟩
        · have q2 : decide ((191 : Int) < (s[k].toNat : Int)) = false := decide_eq_false e2
          have hnext : ∀ m, 2 ≤ m → m < k + 1 → 128 ≤ (s.data.toList.getD m 0).toNat ∧ (s.data.toList.getD m 0).toNat ≤ 191 := by
            intro m m2 mk
            by_cases e : m = k
            · subst e; rw [hgk]; omega
            · exact HALL.out m m2 (by omega)
          have HN := Lib.hid hnext
          clear hnext hgk
          go_wp2_with fail
          exact ⟨⟨k + 1, by omega, by omega, by go_num, HN.out, by trivial⟩, by simp [intOf]; omega⟩
    · obtain rfl : k = 4 := by omega
      have hz0 := HOK.out HALL.out
      have HZ := Lib.hid hz0
      clear hz0
      go_wp2_with fail
      go_ret
      exact ⟨by rw [HZ.out]; rfl, rfl⟩
end Go.Proofs.YtffoklhopmhjaaaDoor

/- moraineref03.Sign, some classes of first bytes. -/
set_option linter.unusedSimpArgs false
set_option linter.unusedVariables false
namespace Go.Proofs.YtffoklhopmhjaaaDoor
open Go Go.RowKit Go.Shelf

set_option maxHeartbeats 4000000 in
set_option maxRecDepth 100000 in
theorem sign_c8_short (s : ByteArray) (hs : s.size ≤ 9223372036854775807) (h0 : 0 < s.size) (hl : 241 ≤ (s[0].toNat : Int)) (hu : (s[0].toNat : Int) ≤ 243) (hn : s.size < 4) (w : World) :
    Calls Tryd.prog 63 #[.string s] w fun e w' => e = .returned (.int .i64 (signL s.data.toList : Nat)) ∧ w = w' := by
  have hb0 : (s.data.toList.getD 0 0).toNat = s[0].toNat := by rw [getD_at s 0 h0]
  have hx0 : (s[0].toNat : Int) ≤ 255 := by have := (s[0]'h0).toNat_lt; omega
  have hz : ((s.size : Int) == 0) = false := by rw [beq_eq_false_iff_ne]; omega
  have t0 : decide ((s[0].toNat : Int) < 128) = false := decide_eq_false (by omega)
  have t1 : decide ((194 : Int) ≤ (s[0].toNat : Int)) = true := decide_eq_true (by omega)
  have t2 : decide ((s[0].toNat : Int) ≤ 223) = false := decide_eq_false (by omega)
  have t3 : decide ((224 : Int) ≤ (s[0].toNat : Int)) = true := decide_eq_true (by omega)
  have t4 : decide ((s[0].toNat : Int) ≤ 239) = false := decide_eq_false (by omega)
  have t5 : decide ((240 : Int) ≤ (s[0].toNat : Int)) = true := decide_eq_true (by omega)
  have t6 : decide ((s[0].toNat : Int) ≤ 244) = true := decide_eq_true (by omega)
  have t7 : ((s[0].toNat : Int) == 224) = false := by rw [beq_eq_false_iff_ne]; omega
  have t8 : ((s[0].toNat : Int) == 237) = false := by rw [beq_eq_false_iff_ne]; omega
  have t9 : ((s[0].toNat : Int) == 240) = false := by rw [beq_eq_false_iff_ne]; omega
  have t10 : ((s[0].toNat : Int) == 244) = false := by rw [beq_eq_false_iff_ne]; omega
  have hv : signL s.data.toList = 0 := by
    rw [signL_eq s h0, hb0]
    unfold signN
    repeat' split
    all_goals omega
  rw [hv]
  have d : decide ((s.size : Int) < 4) = true := decide_eq_true (by omega)
  have d' : decide (s.size < 4) = true := decide_eq_true (by omega)
  clear hv hb0 hl hu
  go_enter Tryd.func63, Tryd.ntmps63
  go_wp2_with fail
  go_ret
  exact ⟨rfl, rfl⟩

set_option maxHeartbeats 4000000 in
set_option maxRecDepth 100000 in
theorem sign_c8_low (s : ByteArray) (hs : s.size ≤ 9223372036854775807) (h0 : 0 < s.size) (hl : 241 ≤ (s[0].toNat : Int)) (hu : (s[0].toNat : Int) ≤ 243) (hn : 4 ≤ s.size) (hb : ((s[1].toNat : Int) < 128)) (w : World) :
    Calls Tryd.prog 63 #[.string s] w fun e w' => e = .returned (.int .i64 (signL s.data.toList : Nat)) ∧ w = w' := by
  have hb0 : (s.data.toList.getD 0 0).toNat = s[0].toNat := by rw [getD_at s 0 h0]
  have hx0 : (s[0].toNat : Int) ≤ 255 := by have := (s[0]'h0).toNat_lt; omega
  have hz : ((s.size : Int) == 0) = false := by rw [beq_eq_false_iff_ne]; omega
  have t0 : decide ((s[0].toNat : Int) < 128) = false := decide_eq_false (by omega)
  have t1 : decide ((194 : Int) ≤ (s[0].toNat : Int)) = true := decide_eq_true (by omega)
  have t2 : decide ((s[0].toNat : Int) ≤ 223) = false := decide_eq_false (by omega)
  have t3 : decide ((224 : Int) ≤ (s[0].toNat : Int)) = true := decide_eq_true (by omega)
  have t4 : decide ((s[0].toNat : Int) ≤ 239) = false := decide_eq_false (by omega)
  have t5 : decide ((240 : Int) ≤ (s[0].toNat : Int)) = true := decide_eq_true (by omega)
  have t6 : decide ((s[0].toNat : Int) ≤ 244) = true := decide_eq_true (by omega)
  have t7 : ((s[0].toNat : Int) == 224) = false := by rw [beq_eq_false_iff_ne]; omega
  have t8 : ((s[0].toNat : Int) == 237) = false := by rw [beq_eq_false_iff_ne]; omega
  have t9 : ((s[0].toNat : Int) == 240) = false := by rw [beq_eq_false_iff_ne]; omega
  have t10 : ((s[0].toNat : Int) == 244) = false := by rw [beq_eq_false_iff_ne]; omega
  have hb1 : (s.data.toList.getD 1 0).toNat = s[1].toNat := by rw [getD_at s 1 (by omega)]
  have hv : signL s.data.toList = 0 := by
    rw [signL_eq s h0, hb0, hb1]
    unfold signN
    repeat' split
    all_goals omega
  rw [hv]
  have d : decide ((s.size : Int) < 4) = false := decide_eq_false (by omega)
  have d' : decide (s.size < 4) = false := decide_eq_false (by omega)
  have hs1 : 1 < s.size := by omega
  have hx1 : (s[1].toNat : Int) ≤ 255 := by have := (s[1]'hs1).toNat_lt; omega
  have d1 : decide ((s[1].toNat : Int) < 128) = true := decide_eq_true hb
  clear hv hb0 hb1 hl hu hb hn
  go_enter Tryd.func63, Tryd.ntmps63
  go_wp2_with fail
  go_ret
  exact ⟨rfl, rfl⟩

set_option maxHeartbeats 4000000 in
set_option maxRecDepth 100000 in
theorem sign_c8_high (s : ByteArray) (hs : s.size ≤ 9223372036854775807) (h0 : 0 < s.size) (hl : 241 ≤ (s[0].toNat : Int)) (hu : (s[0].toNat : Int) ≤ 243) (hn : 4 ≤ s.size) (hb : (191 < (s[1].toNat : Int))) (w : World) :
    Calls Tryd.prog 63 #[.string s] w fun e w' => e = .returned (.int .i64 (signL s.data.toList : Nat)) ∧ w = w' := by
  have hb0 : (s.data.toList.getD 0 0).toNat = s[0].toNat := by rw [getD_at s 0 h0]
  have hx0 : (s[0].toNat : Int) ≤ 255 := by have := (s[0]'h0).toNat_lt; omega
  have hz : ((s.size : Int) == 0) = false := by rw [beq_eq_false_iff_ne]; omega
  have t0 : decide ((s[0].toNat : Int) < 128) = false := decide_eq_false (by omega)
  have t1 : decide ((194 : Int) ≤ (s[0].toNat : Int)) = true := decide_eq_true (by omega)
  have t2 : decide ((s[0].toNat : Int) ≤ 223) = false := decide_eq_false (by omega)
  have t3 : decide ((224 : Int) ≤ (s[0].toNat : Int)) = true := decide_eq_true (by omega)
  have t4 : decide ((s[0].toNat : Int) ≤ 239) = false := decide_eq_false (by omega)
  have t5 : decide ((240 : Int) ≤ (s[0].toNat : Int)) = true := decide_eq_true (by omega)
  have t6 : decide ((s[0].toNat : Int) ≤ 244) = true := decide_eq_true (by omega)
  have t7 : ((s[0].toNat : Int) == 224) = false := by rw [beq_eq_false_iff_ne]; omega
  have t8 : ((s[0].toNat : Int) == 237) = false := by rw [beq_eq_false_iff_ne]; omega
  have t9 : ((s[0].toNat : Int) == 240) = false := by rw [beq_eq_false_iff_ne]; omega
  have t10 : ((s[0].toNat : Int) == 244) = false := by rw [beq_eq_false_iff_ne]; omega
  have hb1 : (s.data.toList.getD 1 0).toNat = s[1].toNat := by rw [getD_at s 1 (by omega)]
  have hv : signL s.data.toList = 0 := by
    rw [signL_eq s h0, hb0, hb1]
    unfold signN
    repeat' split
    all_goals omega
  rw [hv]
  have d : decide ((s.size : Int) < 4) = false := decide_eq_false (by omega)
  have d' : decide (s.size < 4) = false := decide_eq_false (by omega)
  have hs1 : 1 < s.size := by omega
  have hx1 : (s[1].toNat : Int) ≤ 255 := by have := (s[1]'hs1).toNat_lt; omega
  have d1 : decide ((s[1].toNat : Int) < 128) = false := decide_eq_false (by omega)
  have d2 : decide ((191 : Int) < (s[1].toNat : Int)) = true := decide_eq_true hb
  clear hv hb0 hb1 hl hu hb hn
  go_enter Tryd.func63, Tryd.ntmps63
  go_wp2_with fail
  go_ret
  exact ⟨rfl, rfl⟩

set_option maxHeartbeats 4000000 in
set_option maxRecDepth 100000 in
theorem sign_c8_loop (s : ByteArray) (hs : s.size ≤ 9223372036854775807) (h0 : 0 < s.size) (hl : 241 ≤ (s[0].toNat : Int)) (hu : (s[0].toNat : Int) ≤ 243) (hn : 4 ≤ s.size) (hb1 : 128 ≤ (s[1].toNat : Int)) (hb2 : (s[1].toNat : Int) ≤ 191) (w : World) :
    Calls Tryd.prog 63 #[.string s] w fun e w' => e = .returned (.int .i64 (signL s.data.toList : Nat)) ∧ w = w' := by
  have hb0 : (s.data.toList.getD 0 0).toNat = s[0].toNat := by rw [getD_at s 0 h0]
  have hx0 : (s[0].toNat : Int) ≤ 255 := by have := (s[0]'h0).toNat_lt; omega
  have hz : ((s.size : Int) == 0) = false := by rw [beq_eq_false_iff_ne]; omega
  have t0 : decide ((s[0].toNat : Int) < 128) = false := decide_eq_false (by omega)
  have t1 : decide ((194 : Int) ≤ (s[0].toNat : Int)) = true := decide_eq_true (by omega)
  have t2 : decide ((s[0].toNat : Int) ≤ 223) = false := decide_eq_false (by omega)
  have t3 : decide ((224 : Int) ≤ (s[0].toNat : Int)) = true := decide_eq_true (by omega)
  have t4 : decide ((s[0].toNat : Int) ≤ 239) = false := decide_eq_false (by omega)
  have t5 : decide ((240 : Int) ≤ (s[0].toNat : Int)) = true := decide_eq_true (by omega)
  have t6 : decide ((s[0].toNat : Int) ≤ 244) = true := decide_eq_true (by omega)
  have t7 : ((s[0].toNat : Int) == 224) = false := by rw [beq_eq_false_iff_ne]; omega
  have t8 : ((s[0].toNat : Int) == 237) = false := by rw [beq_eq_false_iff_ne]; omega
  have t9 : ((s[0].toNat : Int) == 240) = false := by rw [beq_eq_false_iff_ne]; omega
  have t10 : ((s[0].toNat : Int) == 244) = false := by rw [beq_eq_false_iff_ne]; omega
  have hg1 : (s.data.toList.getD 1 0).toNat = s[1].toNat := by rw [getD_at s 1 (by omega)]
  have hvok : (∀ k, 2 ≤ k → k < 4 → 128 ≤ (s.data.toList.getD k 0).toNat ∧ (s.data.toList.getD k 0).toNat ≤ 191) → signL s.data.toList = 4 := by
    intro h
    have h2 := h 2
    have h3 := h 3
    rw [signL_eq s h0, hb0, hg1]
    unfold signN
    repeat' split
    all_goals omega
  have hvno : ∀ k, 2 ≤ k → k < 4 → ¬ (128 ≤ (s.data.toList.getD k 0).toNat ∧ (s.data.toList.getD k 0).toNat ≤ 191) → signL s.data.toList = 0 := by
    intro k k2 kn h
    have hk : k = 2 ∨ k = 3 := by omega
    rw [signL_eq s h0, hb0, hg1]
    unfold signN
    rcases hk with rfl | rfl
    all_goals repeat' split
    all_goals omega
  generalize hr : signL s.data.toList = res at hvok hvno ⊢
  have HOK := Lib.hid hvok
  have HNO := Lib.hid hvno
  have d : decide ((s.size : Int) < 4) = false := decide_eq_false (by omega)
  have d' : decide (s.size < 4) = false := decide_eq_false (by omega)
  have hs1 : 1 < s.size := by omega
  have hx1 : (s[1].toNat : Int) ≤ 255 := by have := (s[1]'hs1).toNat_lt; omega
  have d1 : decide ((s[1].toNat : Int) < 128) = false := decide_eq_false (by omega)
  have d2 : decide ((191 : Int) < (s[1].toNat : Int)) = false := decide_eq_false (by omega)
  clear hvok hvno hb0 hg1 hr hl hu hb1 hb2
  go_enter Tryd.func63, Tryd.ntmps63
  go_wp2_with fail
  go_loopw [7] (fun i wr => ∃ k : Nat, 2 ≤ k ∧ k ≤ 4 ∧ i = .int .i64 (k : Int) ∧ (∀ m, 2 ≤ m → m < k → 128 ≤ (s.data.toList.getD m 0).toNat ∧ (s.data.toList.getD m 0).toNat ≤ 191) ∧ w = wr) (fun i _ => 4 - (intOf i).toNat)
  case atStart => exact ⟨2, by omega, by omega, rfl, fun m a b => by omega, rfl⟩
  case round =>
    obtain ⟨k, hk2, hkn, rfl, hall, rfl⟩ := hrel
    have HALL := Lib.hid hall
    clear hall
    by_cases hlt : k < 4
    · have hks : k < s.size := by omega
      have hgk : (s.data.toList.getD k 0).toNat = s[k].toNat := by rw [getD_at s k hks]
      by_cases e1 : (s[k].toNat : Int) < 128
      · have q1 : decide ((s[k].toNat : Int) < 128) = true := decide_eq_true e1
        have hz0 := HNO.out k hk2 hlt (by rw [hgk]; omega)
        have HZ := Lib.hid hz0
        clear hz0 hgk
        go_wp2_with fail
        go_ret
        exact ⟨by rw [HZ.out]; rfl, rfl⟩
      · have q1 : decide ((s[k].toNat : Int) < 128) = false := decide_eq_false e1
        by_cases e2 : 191 < (s[k].toNat : Int)
        · have q2 : decide ((191 : Int) < (s[k].toNat : Int)) = true := decide_eq_true e2
          have hz0 := HNO.out k hk2 hlt (by rw [hgk]; omega)
          have HZ := Lib.hid hz0
          clear hz0 hgk
          go_wp2_with fail
          go_ret
          exact ⟨by rw [HZ.out]; rfl, rfl⟩
        · have q2 : decide ((191 : Int) < (s[k].toNat : Int)) = false := decide_eq_false e2
          have hnext : ∀ m, 2 ≤ m → m < k + 1 → 128 ≤ (s.data.toList.getD m 0).toNat ∧ (s.data.toList.getD m 0).toNat ≤ 191 := by
            intro m m2 mk
            by_cases e : m = k
            · subst e; rw [hgk]; omega
            · exact HALL.out m m2 (by omega)
          have HN := Lib.hid hnext
          clear hnext hgk
          go_wp2_with fail
          exact ⟨⟨k + 1, by omega, by omega, by go_num, HN.out, by trivial⟩, by simp [intOf]; omega⟩
    · obtain rfl : k = 4 := by omega
      have hz0 := HOK.out HALL.out
      have HZ := Lib.hid hz0
      clear hz0
      go_wp2_with fail
      go_ret
      exact ⟨by rw [HZ.out]; rfl, rfl⟩

set_option maxHeartbeats 4000000 in
set_option maxRecDepth 100000 in
theorem sign_c9_short (s : ByteArray) (hs : s.size ≤ 9223372036854775807) (h0 : 0 < s.size) (hl : 244 ≤ (s[0].toNat : Int)) (hu : (s[0].toNat : Int) ≤ 244) (hn : s.size < 4) (w : World) :
    Calls Tryd.prog 63 #[.string s] w fun e w' => e = .returned (.int .i64 (signL s.data.toList : Nat)) ∧ w = w' := by
  have hb0 : (s.data.toList.getD 0 0).toNat = s[0].toNat := by rw [getD_at s 0 h0]
  have hx0 : (s[0].toNat : Int) ≤ 255 := by have := (s[0]'h0).toNat_lt; omega
  have hz : ((s.size : Int) == 0) = false := by rw [beq_eq_false_iff_ne]; omega
  have t0 : decide ((s[0].toNat : Int) < 128) = false := decide_eq_false (by omega)
  have t1 : decide ((194 : Int) ≤ (s[0].toNat : Int)) = true := decide_eq_true (by omega)
  have t2 : decide ((s[0].toNat : Int) ≤ 223) = false := decide_eq_false (by omega)
  have t3 : decide ((224 : Int) ≤ (s[0].toNat : Int)) = true := decide_eq_true (by omega)
  have t4 : decide ((s[0].toNat : Int) ≤ 239) = false := decide_eq_false (by omega)
  have t5 : decide ((240 : Int) ≤ (s[0].toNat : Int)) = true := decide_eq_true (by omega)
  have t6 : decide ((s[0].toNat : Int) ≤ 244) = true := decide_eq_true (by omega)
  have t7 : ((s[0].toNat : Int) == 224) = false := by rw [beq_eq_false_iff_ne]; omega
  have t8 : ((s[0].toNat : Int) == 237) = false := by rw [beq_eq_false_iff_ne]; omega
  have t9 : ((s[0].toNat : Int) == 240) = false := by rw [beq_eq_false_iff_ne]; omega
  have t10 : ((s[0].toNat : Int) == 244) = true := by rw [beq_iff_eq]; omega
  have hv : signL s.data.toList = 0 := by
    rw [signL_eq s h0, hb0]
    unfold signN
    repeat' split
    all_goals omega
  rw [hv]
  have d : decide ((s.size : Int) < 4) = true := decide_eq_true (by omega)
  have d' : decide (s.size < 4) = true := decide_eq_true (by omega)
  clear hv hb0 hl hu
  go_enter Tryd.func63, Tryd.ntmps63
  go_wp2_with fail
  go_ret
  exact ⟨rfl, rfl⟩

set_option maxHeartbeats 4000000 in
set_option maxRecDepth 100000 in
theorem sign_c9_low (s : ByteArray) (hs : s.size ≤ 9223372036854775807) (h0 : 0 < s.size) (hl : 244 ≤ (s[0].toNat : Int)) (hu : (s[0].toNat : Int) ≤ 244) (hn : 4 ≤ s.size) (hb : ((s[1].toNat : Int) < 128)) (w : World) :
    Calls Tryd.prog 63 #[.string s] w fun e w' => e = .returned (.int .i64 (signL s.data.toList : Nat)) ∧ w = w' := by
  have hb0 : (s.data.toList.getD 0 0).toNat = s[0].toNat := by rw [getD_at s 0 h0]
  have hx0 : (s[0].toNat : Int) ≤ 255 := by have := (s[0]'h0).toNat_lt; omega
  have hz : ((s.size : Int) == 0) = false := by rw [beq_eq_false_iff_ne]; omega
  have t0 : decide ((s[0].toNat : Int) < 128) = false := decide_eq_false (by omega)
  have t1 : decide ((194 : Int) ≤ (s[0].toNat : Int)) = true := decide_eq_true (by omega)
  have t2 : decide ((s[0].toNat : Int) ≤ 223) = false := decide_eq_false (by omega)
  have t3 : decide ((224 : Int) ≤ (s[0].toNat : Int)) = true := decide_eq_true (by omega)
  have t4 : decide ((s[0].toNat : Int) ≤ 239) = false := decide_eq_false (by omega)
  have t5 : decide ((240 : Int) ≤ (s[0].toNat : Int)) = true := decide_eq_true (by omega)
  have t6 : decide ((s[0].toNat : Int) ≤ 244) = true := decide_eq_true (by omega)
  have t7 : ((s[0].toNat : Int) == 224) = false := by rw [beq_eq_false_iff_ne]; omega
  have t8 : ((s[0].toNat : Int) == 237) = false := by rw [beq_eq_false_iff_ne]; omega
  have t9 : ((s[0].toNat : Int) == 240) = false := by rw [beq_eq_false_iff_ne]; omega
  have t10 : ((s[0].toNat : Int) == 244) = true := by rw [beq_iff_eq]; omega
  have hb1 : (s.data.toList.getD 1 0).toNat = s[1].toNat := by rw [getD_at s 1 (by omega)]
  have hv : signL s.data.toList = 0 := by
    rw [signL_eq s h0, hb0, hb1]
    unfold signN
    repeat' split
    all_goals omega
  rw [hv]
  have d : decide ((s.size : Int) < 4) = false := decide_eq_false (by omega)
  have d' : decide (s.size < 4) = false := decide_eq_false (by omega)
  have hs1 : 1 < s.size := by omega
  have hx1 : (s[1].toNat : Int) ≤ 255 := by have := (s[1]'hs1).toNat_lt; omega
  have d1 : decide ((s[1].toNat : Int) < 128) = true := decide_eq_true hb
  clear hv hb0 hb1 hl hu hb hn
  go_enter Tryd.func63, Tryd.ntmps63
  go_wp2_with fail
  go_ret
  exact ⟨rfl, rfl⟩

set_option maxHeartbeats 4000000 in
set_option maxRecDepth 100000 in
theorem sign_c9_high (s : ByteArray) (hs : s.size ≤ 9223372036854775807) (h0 : 0 < s.size) (hl : 244 ≤ (s[0].toNat : Int)) (hu : (s[0].toNat : Int) ≤ 244) (hn : 4 ≤ s.size) (hb : (143 < (s[1].toNat : Int))) (w : World) :
    Calls Tryd.prog 63 #[.string s] w fun e w' => e = .returned (.int .i64 (signL s.data.toList : Nat)) ∧ w = w' := by
  have hb0 : (s.data.toList.getD 0 0).toNat = s[0].toNat := by rw [getD_at s 0 h0]
  have hx0 : (s[0].toNat : Int) ≤ 255 := by have := (s[0]'h0).toNat_lt; omega
  have hz : ((s.size : Int) == 0) = false := by rw [beq_eq_false_iff_ne]; omega
  have t0 : decide ((s[0].toNat : Int) < 128) = false := decide_eq_false (by omega)
  have t1 : decide ((194 : Int) ≤ (s[0].toNat : Int)) = true := decide_eq_true (by omega)
  have t2 : decide ((s[0].toNat : Int) ≤ 223) = false := decide_eq_false (by omega)
  have t3 : decide ((224 : Int) ≤ (s[0].toNat : Int)) = true := decide_eq_true (by omega)
  have t4 : decide ((s[0].toNat : Int) ≤ 239) = false := decide_eq_false (by omega)
  have t5 : decide ((240 : Int) ≤ (s[0].toNat : Int)) = true := decide_eq_true (by omega)
  have t6 : decide ((s[0].toNat : Int) ≤ 244) = true := decide_eq_true (by omega)
  have t7 : ((s[0].toNat : Int) == 224) = false := by rw [beq_eq_false_iff_ne]; omega
  have t8 : ((s[0].toNat : Int) == 237) = false := by rw [beq_eq_false_iff_ne]; omega
  have t9 : ((s[0].toNat : Int) == 240) = false := by rw [beq_eq_false_iff_ne]; omega
  have t10 : ((s[0].toNat : Int) == 244) = true := by rw [beq_iff_eq]; omega
  have hb1 : (s.data.toList.getD 1 0).toNat = s[1].toNat := by rw [getD_at s 1 (by omega)]
  have hv : signL s.data.toList = 0 := by
    rw [signL_eq s h0, hb0, hb1]
    unfold signN
    repeat' split
    all_goals omega
  rw [hv]
  have d : decide ((s.size : Int) < 4) = false := decide_eq_false (by omega)
  have d' : decide (s.size < 4) = false := decide_eq_false (by omega)
  have hs1 : 1 < s.size := by omega
  have hx1 : (s[1].toNat : Int) ≤ 255 := by have := (s[1]'hs1).toNat_lt; omega
  have d1 : decide ((s[1].toNat : Int) < 128) = false := decide_eq_false (by omega)
  have d2 : decide ((143 : Int) < (s[1].toNat : Int)) = true := decide_eq_true hb
  clear hv hb0 hb1 hl hu hb hn
  go_enter Tryd.func63, Tryd.ntmps63
  go_wp2_with fail
  go_ret
  exact ⟨rfl, rfl⟩

set_option maxHeartbeats 4000000 in
set_option maxRecDepth 100000 in
theorem sign_c9_loop (s : ByteArray) (hs : s.size ≤ 9223372036854775807) (h0 : 0 < s.size) (hl : 244 ≤ (s[0].toNat : Int)) (hu : (s[0].toNat : Int) ≤ 244) (hn : 4 ≤ s.size) (hb1 : 128 ≤ (s[1].toNat : Int)) (hb2 : (s[1].toNat : Int) ≤ 143) (w : World) :
    Calls Tryd.prog 63 #[.string s] w fun e w' => e = .returned (.int .i64 (signL s.data.toList : Nat)) ∧ w = w' := by
  have hb0 : (s.data.toList.getD 0 0).toNat = s[0].toNat := by rw [getD_at s 0 h0]
  have hx0 : (s[0].toNat : Int) ≤ 255 := by have := (s[0]'h0).toNat_lt; omega
  have hz : ((s.size : Int) == 0) = false := by rw [beq_eq_false_iff_ne]; omega
  have t0 : decide ((s[0].toNat : Int) < 128) = false := decide_eq_false (by omega)
  have t1 : decide ((194 : Int) ≤ (s[0].toNat : Int)) = true := decide_eq_true (by omega)
  have t2 : decide ((s[0].toNat : Int) ≤ 223) = false := decide_eq_false (by omega)
  have t3 : decide ((224 : Int) ≤ (s[0].toNat : Int)) = true := decide_eq_true (by omega)
  have t4 : decide ((s[0].toNat : Int) ≤ 239) = false := decide_eq_false (by omega)
  have t5 : decide ((240 : Int) ≤ (s[0].toNat : Int)) = true := decide_eq_true (by omega)
  have t6 : decide ((s[0].toNat : Int) ≤ 244) = true := decide_eq_true (by omega)
  have t7 : ((s[0].toNat : Int) == 224) = false := by rw [beq_eq_false_iff_ne]; omega
  have t8 : ((s[0].toNat : Int) == 237) = false := by rw [beq_eq_false_iff_ne]; omega
  have t9 : ((s[0].toNat : Int) == 240) = false := by rw [beq_eq_false_iff_ne]; omega
  have t10 : ((s[0].toNat : Int) == 244) = true := by rw [beq_iff_eq]; omega
  have hg1 : (s.data.toList.getD 1 0).toNat = s[1].toNat := by rw [getD_at s 1 (by omega)]
  have hvok : (∀ k, 2 ≤ k → k < 4 → 128 ≤ (s.data.toList.getD k 0).toNat ∧ (s.data.toList.getD k 0).toNat ≤ 191) → signL s.data.toList = 4 := by
    intro h
    have h2 := h 2
    have h3 := h 3
    rw [signL_eq s h0, hb0, hg1]
    unfold signN
    repeat' split
    all_goals omega
  have hvno : ∀ k, 2 ≤ k → k < 4 → ¬ (128 ≤ (s.data.toList.getD k 0).toNat ∧ (s.data.toList.getD k 0).toNat ≤ 191) → signL s.data.toList = 0 := by
    intro k k2 kn h
    have hk : k = 2 ∨ k = 3 := by omega
    rw [signL_eq s h0, hb0, hg1]
    unfold signN
    rcases hk with rfl | rfl
    all_goals repeat' split
    all_goals omega
  generalize hr : signL s.data.toList = res at hvok hvno ⊢
  have HOK := Lib.hid hvok
  have HNO := Lib.hid hvno
  have d : decide ((s.size : Int) < 4) = false := decide_eq_false (by omega)
  have d' : decide (s.size < 4) = false := decide_eq_false (by omega)
  have hs1 : 1 < s.size := by omega
  have hx1 : (s[1].toNat : Int) ≤ 255 := by have := (s[1]'hs1).toNat_lt; omega
  have d1 : decide ((s[1].toNat : Int) < 128) = false := decide_eq_false (by omega)
  have d2 : decide ((143 : Int) < (s[1].toNat : Int)) = false := decide_eq_false (by omega)
  clear hvok hvno hb0 hg1 hr hl hu hb1 hb2
  go_enter Tryd.func63, Tryd.ntmps63
  go_wp2_with fail
  go_loopw [7] (fun i wr => ∃ k : Nat, 2 ≤ k ∧ k ≤ 4 ∧ i = .int .i64 (k : Int) ∧ (∀ m, 2 ≤ m → m < k → 128 ≤ (s.data.toList.getD m 0).toNat ∧ (s.data.toList.getD m 0).toNat ≤ 191) ∧ w = wr) (fun i _ => 4 - (intOf i).toNat)
  case atStart => exact ⟨2, by omega, by omega, rfl, fun m a b => by omega, rfl⟩
  case round =>
    obtain ⟨k, hk2, hkn, rfl, hall, rfl⟩ := hrel
    have HALL := Lib.hid hall
    clear hall
    by_cases hlt : k < 4
    · have hks : k < s.size := by omega
      have hgk : (s.data.toList.getD k 0).toNat = s[k].toNat := by rw [getD_at s k hks]
      by_cases e1 : (s[k].toNat : Int) < 128
      · have q1 : decide ((s[k].toNat : Int) < 128) = true := decide_eq_true e1
        have hz0 := HNO.out k hk2 hlt (by rw [hgk]; omega)
        have HZ := Lib.hid hz0
        clear hz0 hgk
        go_wp2_with fail
        go_ret
        exact ⟨by rw [HZ.out]; rfl, rfl⟩
      · have q1 : decide ((s[k].toNat : Int) < 128) = false := decide_eq_false e1
        by_cases e2 : 191 < (s[k].toNat : Int)
        · have q2 : decide ((191 : Int) < (s[k].toNat : Int)) = true := decide_eq_true e2
          have hz0 := HNO.out k hk2 hlt (by rw [hgk]; omega)
          have HZ := Lib.hid hz0
          clear hz0 hgk
          go_wp2_with fail
          go_ret
          exact ⟨by rw [HZ.out]; rfl, rfl⟩
        · have q2 : decide ((191 : Int) < (s[k].toNat : Int)) = false := decide_eq_false e2
          have hnext : ∀ m, 2 ≤ m → m < k + 1 → 128 ≤ (s.data.toList.getD m 0).toNat ∧ (s.data.toList.getD m 0).toNat ≤ 191 := by
            intro m m2 mk
            by_cases e : m = k
            · subst e; rw [hgk]; omega
            · exact HALL.out m m2 (by omega)
          have HN := Lib.hid hnext
          clear hnext hgk
          go_wp2_with fail
          exact ⟨⟨k + 1, by omega, by omega, by go_num, HN.out, by trivial⟩, by simp [intOf]; omega⟩
    · obtain rfl : k = 4 := by omega
      have hz0 := HOK.out HALL.out
      have HZ := Lib.hid hz0
      clear hz0
      go_wp2_with fail
      go_ret
      exact ⟨by rw [HZ.out]; rfl, rfl⟩

set_option maxHeartbeats 4000000 in
set_option maxRecDepth 100000 in
theorem sign_c10 (s : ByteArray) (hs : s.size ≤ 9223372036854775807) (h0 : 0 < s.size) (hl : 245 ≤ (s[0].toNat : Int)) (hu : (s[0].toNat : Int) ≤ 255) (w : World) :
    Calls Tryd.prog 63 #[.string s] w fun e w' => e = .returned (.int .i64 (signL s.data.toList : Nat)) ∧ w = w' := by
  have hb0 : (s.data.toList.getD 0 0).toNat = s[0].toNat := by rw [getD_at s 0 h0]
  have hx0 : (s[0].toNat : Int) ≤ 255 := by have := (s[0]'h0).toNat_lt; omega
  have hz : ((s.size : Int) == 0) = false := by rw [beq_eq_false_iff_ne]; omega
  have t0 : decide ((s[0].toNat : Int) < 128) = false := decide_eq_false (by omega)
  have t1 : decide ((194 : Int) ≤ (s[0].toNat : Int)) = true := decide_eq_true (by omega)
  have t2 : decide ((s[0].toNat : Int) ≤ 223) = false := decide_eq_false (by omega)
  have t3 : decide ((224 : Int) ≤ (s[0].toNat : Int)) = true := decide_eq_true (by omega)
  have t4 : decide ((s[0].toNat : Int) ≤ 239) = false := decide_eq_false (by omega)
  have t5 : decide ((240 : Int) ≤ (s[0].toNat : Int)) = true := decide_eq_true (by omega)
  have t6 : decide ((s[0].toNat : Int) ≤ 244) = false := decide_eq_false (by omega)
  have t7 : ((s[0].toNat : Int) == 224) = false := by rw [beq_eq_false_iff_ne]; omega
  have t8 : ((s[0].toNat : Int) == 237) = false := by rw [beq_eq_false_iff_ne]; omega
  have t9 : ((s[0].toNat : Int) == 240) = false := by rw [beq_eq_false_iff_ne]; omega
  have t10 : ((s[0].toNat : Int) == 244) = false := by rw [beq_eq_false_iff_ne]; omega
  have hv : signL s.data.toList = 0 := by
    rw [signL_eq s h0, hb0]
    unfold signN
    repeat' split
    all_goals omega
  rw [hv]
  clear hv hb0 hl hu
  go_enter Tryd.func63, Tryd.ntmps63
  go_wp2_with fail
  go_ret
  exact ⟨rfl, rfl⟩
end Go.Proofs.YtffoklhopmhjaaaDoor

/- moraineref03.Sign, some classes of first bytes. -/
set_option linter.unusedSimpArgs false
set_option linter.unusedVariables false
namespace Go.Proofs.YtffoklhopmhjaaaDoor
open Go Go.RowKit Go.Shelf

set_option maxHeartbeats 4000000 in
set_option maxRecDepth 100000 in
theorem sign_c3_high (s : ByteArray) (hs : s.size ≤ 9223372036854775807) (h0 : 0 < s.size) (hl : 224 ≤ (s[0].toNat : Int)) (hu : (s[0].toNat : Int) ≤ 224) (hn : 3 ≤ s.size) (hb : (191 < (s[1].toNat : Int))) (w : World) :
    Calls Tryd.prog 63 #[.string s] w fun e w' => e = .returned (.int .i64 (signL s.data.toList : Nat)) ∧ w = w' := by
  have hb0 : (s.data.toList.getD 0 0).toNat = s[0].toNat := by rw [getD_at s 0 h0]
  have hx0 : (s[0].toNat : Int) ≤ 255 := by have := (s[0]'h0).toNat_lt; omega
  have hz : ((s.size : Int) == 0) = false := by rw [beq_eq_false_iff_ne]; omega
  have t0 : decide ((s[0].toNat : Int) < 128) = false := decide_eq_false (by omega)
  have t1 : decide ((194 : Int) ≤ (s[0].toNat : Int)) = true := decide_eq_true (by omega)
  have t2 : decide ((s[0].toNat : Int) ≤ 223) = false := decide_eq_false (by omega)
  have t3 : decide ((224 : Int) ≤ (s[0].toNat : Int)) = true := decide_eq_true (by omega)
  have t4 : decide ((s[0].toNat : Int) ≤ 239) = true := decide_eq_true (by omega)
  have t5 : decide ((240 : Int) ≤ (s[0].toNat : Int)) = false := decide_eq_false (by omega)
  have t6 : ((s[0].toNat : Int) == 224) = true := by rw [beq_iff_eq]; omega
  have t7 : ((s[0].toNat : Int) == 237) = false := by rw [beq_eq_false_iff_ne]; omega
  have t8 : ((s[0].toNat : Int) == 240) = false := by rw [beq_eq_false_iff_ne]; omega
  have t9 : ((s[0].toNat : Int) == 244) = false := by rw [beq_eq_false_iff_ne]; omega
  have hb1 : (s.data.toList.getD 1 0).toNat = s[1].toNat := by rw [getD_at s 1 (by omega)]
  have hv : signL s.data.toList = 0 := by
    rw [signL_eq s h0, hb0, hb1]
    unfold signN
    repeat' split
    all_goals omega
  rw [hv]
  have d : decide ((s.size : Int) < 3) = false := decide_eq_false (by omega)
  have d' : decide (s.size < 3) = false := decide_eq_false (by omega)
  have hs1 : 1 < s.size := by omega
  have hx1 : (s[1].toNat : Int) ≤ 255 := by have := (s[1]'hs1).toNat_lt; omega
  have d1 : decide ((s[1].toNat : Int) < 160) = false := decide_eq_false (by omega)
  have d2 : decide ((191 : Int) < (s[1].toNat : Int)) = true := decide_eq_true hb
  clear hv hb0 hb1 hl hu hb hn
  go_enter Tryd.func63, Tryd.ntmps63
  go_wp2_with fail
  go_ret
  exact ⟨rfl, rfl⟩

set_option maxHeartbeats 4000000 in
set_option maxRecDepth 100000 in
theorem sign_c3_loop (s : ByteArray) (hs : s.size ≤ 9223372036854775807) (h0 : 0 < s.size) (hl : 224 ≤ (s[0].toNat : Int)) (hu : (s[0].toNat : Int) ≤ 224) (hn : 3 ≤ s.size) (hb1 : 160 ≤ (s[1].toNat : Int)) (hb2 : (s[1].toNat : Int) ≤ 191) (w : World) :
    Calls Tryd.prog 63 #[.string s] w fun e w' => e = .returned (.int .i64 (signL s.data.toList : Nat)) ∧ w = w' := by
  have hb0 : (s.data.toList.getD 0 0).toNat = s[0].toNat := by rw [getD_at s 0 h0]
  have hx0 : (s[0].toNat : Int) ≤ 255 := by have := (s[0]'h0).toNat_lt; omega
  have hz : ((s.size : Int) == 0) = false := by rw [beq_eq_false_iff_ne]; omega
  have t0 : decide ((s[0].toNat : Int) < 128) = false := decide_eq_false (by omega)
  have t1 : decide ((194 : Int) ≤ (s[0].toNat : Int)) = true := decide_eq_true (by omega)
  have t2 : decide ((s[0].toNat : Int) ≤ 223) = false := decide_eq_false (by omega)
  have t3 : decide ((224 : Int) ≤ (s[0].toNat : Int)) = true := decide_eq_true (by omega)
  have t4 : decide ((s[0].toNat : Int) ≤ 239) = true := decide_eq_true (by omega)
  have t5 : decide ((240 : Int) ≤ (s[0].toNat : Int)) = false := decide_eq_false (by omega)
  have t6 : ((s[0].toNat : Int) == 224) = true := by rw [beq_iff_eq]; omega
  have t7 : ((s[0].toNat : Int) == 237) = false := by rw [beq_eq_false_iff_ne]; omega
  have t8 : ((s[0].toNat : Int) == 240) = false := by rw [beq_eq_false_iff_ne]; omega
  have t9 : ((s[0].toNat : Int) == 244) = false := by rw [beq_eq_false_iff_ne]; omega
  have hg1 : (s.data.toList.getD 1 0).toNat = s[1].toNat := by rw [getD_at s 1 (by omega)]
  have hvok : (∀ k, 2 ≤ k → k < 3 → 128 ≤ (s.data.toList.getD k 0).toNat ∧ (s.data.toList.getD k 0).toNat ≤ 191) → signL s.data.toList = 3 := by
    intro h
    have h2 := h 2
    have h3 := h 3
    rw [signL_eq s h0, hb0, hg1]
    unfold signN
    repeat' split
    all_goals omega
  have hvno : ∀ k, 2 ≤ k → k < 3 → ¬ (128 ≤ (s.data.toList.getD k 0).toNat ∧ (s.data.toList.getD k 0).toNat ≤ 191) → signL s.data.toList = 0 := by
    intro k k2 kn h
    have hk : k = 2 ∨ k = 3 := by omega
    rw [signL_eq s h0, hb0, hg1]
    unfold signN
    rcases hk with rfl | rfl
    all_goals repeat' split
    all_goals omega
  generalize hr : signL s.data.toList = res at hvok hvno ⊢
  have HOK := Lib.hid hvok
  have HNO := Lib.hid hvno
  have d : decide ((s.size : Int) < 3) = false := decide_eq_false (by omega)
  have d' : decide (s.size < 3) = false := decide_eq_false (by omega)
  have hs1 : 1 < s.size := by omega
  have hx1 : (s[1].toNat : Int) ≤ 255 := by have := (s[1]'hs1).toNat_lt; omega
  have d1 : decide ((s[1].toNat : Int) < 160) = false := decide_eq_false (by omega)
  have d2 : decide ((191 : Int) < (s[1].toNat : Int)) = false := decide_eq_false (by omega)
  clear hvok hvno hb0 hg1 hr hl hu hb1 hb2
  go_enter Tryd.func63, Tryd.ntmps63
  go_wp2_with fail
  go_loopw [7] (fun i wr => ∃ k : Nat, 2 ≤ k ∧ k ≤ 3 ∧ i = .int .i64 (k : Int) ∧ (∀ m, 2 ≤ m → m < k → 128 ≤ (s.data.toList.getD m 0).toNat ∧ (s.data.toList.getD m 0).toNat ≤ 191) ∧ w = wr) (fun i _ => 3 - (intOf i).toNat)
  case atStart => exact ⟨2, by omega, by omega, rfl, fun m a b => by omega, rfl⟩
  case round =>
    obtain ⟨k, hk2, hkn, rfl, hall, rfl⟩ := hrel
    have HALL := Lib.hid hall
    clear hall
    by_cases hlt : k < 3
    · have hks : k < s.size := by omega
      have hgk : (s.data.toList.getD k 0).toNat = s[k].toNat := by rw [getD_at s k hks]
      by_cases e1 : (s[k].toNat : Int) < 128
      · have q1 : decide ((s[k].toNat : Int) < 128) = true := decide_eq_true e1
        have hz0 := HNO.out k hk2 hlt (by rw [hgk]; omega)
        have HZ := Lib.hid hz0
        clear hz0 hgk
        go_wp2_with fail
        go_ret
        exact ⟨by rw [HZ.out]; rfl, rfl⟩
      · have q1 : decide ((s[k].toNat : Int) < 128) = false := decide_eq_false e1
        by_cases e2 : 191 < (s[k].toNat : Int)
        · have q2 : decide ((191 : Int) < (s[k].toNat : Int)) = true := decide_eq_true e2
          have hz0 := HNO.out k hk2 hlt (by rw [hgk]; omega)
          have HZ := Lib.hid hz0
          clear hz0 hgk
          go_wp2_with fail
          go_ret
          exact ⟨by rw [HZ.out]; rfl, rfl⟩
        · have q2 : decide ((191 : Int) < (s[k].toNat : Int)) = false := decide_eq_false e2
          have hnext : ∀ m, 2 ≤ m → m < k + 1 → 128 ≤ (s.data.toList.getD m 0).toNat ∧ (s.data.toList.getD m 0).toNat ≤ 191 := by
            intro m m2 mk
            by_cases e : m = k
            · subst e; rw [hgk]; omega
            · exact HALL.out m m2 (by omega)
          have HN := Lib.hid hnext
          clear hnext hgk
          go_wp2_with fail
          exact ⟨⟨k + 1, by omega, by omega, by go_num, HN.out, by trivial⟩, by simp [intOf]; omega⟩
    · obtain rfl : k = 3 := by omega
      have hz0 := HOK.out HALL.out
      have HZ := Lib.hid hz0
      clear hz0
      go_wp2_with fail
      go_ret
      exact ⟨by rw [HZ.out]; rfl, rfl⟩

set_option maxHeartbeats 4000000 in
set_option maxRecDepth 100000 in
theorem sign_c4_short (s : ByteArray) (hs : s.size ≤ 9223372036854775807) (h0 : 0 < s.size) (hl : 225 ≤ (s[0].toNat : Int)) (hu : (s[0].toNat : Int) ≤ 236) (hn : s.size < 3) (w : World) :
    Calls Tryd.prog 63 #[.string s] w fun e w' => e = .returned (.int .i64 (signL s.data.toList : Nat)) ∧ w = w' := by
  have hb0 : (s.data.toList.getD 0 0).toNat = s[0].toNat := by rw [getD_at s 0 h0]
  have hx0 : (s[0].toNat : Int) ≤ 255 := by have := (s[0]'h0).toNat_lt; omega
  have hz : ((s.size : Int) == 0) = false := by rw [beq_eq_false_iff_ne]; omega
  have t0 : decide ((s[0].toNat : Int) < 128) = false := decide_eq_false (by omega)
  have t1 : decide ((194 : Int) ≤ (s[0].toNat : Int)) = true := decide_eq_true (by omega)
  have t2 : decide ((s[0].toNat : Int) ≤ 223) = false := decide_eq_false (by omega)
  have t3 : decide ((224 : Int) ≤ (s[0].toNat : Int)) = true := decide_eq_true (by omega)
  have t4 : decide ((s[0].toNat : Int) ≤ 239) = true := decide_eq_true (by omega)
  have t5 : decide ((240 : Int) ≤ (s[0].toNat : Int)) = false := decide_eq_false (by omega)
  have t6 : ((s[0].toNat : Int) == 224) = false := by rw [beq_eq_false_iff_ne]; omega
  have t7 : ((s[0].toNat : Int) == 237) = false := by rw [beq_eq_false_iff_ne]; omega
  have t8 : ((s[0].toNat : Int) == 240) = false := by rw [beq_eq_false_iff_ne]; omega
  have t9 : ((s[0].toNat : Int) == 244) = false := by rw [beq_eq_false_iff_ne]; omega
  have hv : signL s.data.toList = 0 := by
    rw [signL_eq s h0, hb0]
    unfold signN
    repeat' split
    all_goals omega
  rw [hv]
  have d : decide ((s.size : Int) < 3) = true := decide_eq_true (by omega)
  have d' : decide (s.size < 3) = true := decide_eq_true (by omega)
  clear hv hb0 hl hu
  go_enter Tryd.func63, Tryd.ntmps63
  go_wp2_with fail
  go_ret
  exact ⟨rfl, rfl⟩

set_option maxHeartbeats 4000000 in
set_option maxRecDepth 100000 in
theorem sign_c4_low (s : ByteArray) (hs : s.size ≤ 9223372036854775807) (h0 : 0 < s.size) (hl : 225 ≤ (s[0].toNat : Int)) (hu : (s[0].toNat : Int) ≤ 236) (hn : 3 ≤ s.size) (hb : ((s[1].toNat : Int) < 128)) (w : World) :
    Calls Tryd.prog 63 #[.string s] w fun e w' => e = .returned (.int .i64 (signL s.data.toList : Nat)) ∧ w = w' := by
  have hb0 : (s.data.toList.getD 0 0).toNat = s[0].toNat := by rw [getD_at s 0 h0]
  have hx0 : (s[0].toNat : Int) ≤ 255 := by have := (s[0]'h0).toNat_lt; omega
  have hz : ((s.size : Int) == 0) = false := by rw [beq_eq_false_iff_ne]; omega
  have t0 : decide ((s[0].toNat : Int) < 128) = false := decide_eq_false (by omega)
  have t1 : decide ((194 : Int) ≤ (s[0].toNat : Int)) = true := decide_eq_true (by omega)
  have t2 : decide ((s[0].toNat : Int) ≤ 223) = false := decide_eq_false (by omega)
  have t3 : decide ((224 : Int) ≤ (s[0].toNat : Int)) = true := decide_eq_true (by omega)
  have t4 : decide ((s[0].toNat : Int) ≤ 239) = true := decide_eq_true (by omega)
  have t5 : decide ((240 : Int) ≤ (s[0].toNat : Int)) = false := decide_eq_false (by omega)
  have t6 : ((s[0].toNat : Int) == 224) = false := by rw [beq_eq_false_iff_ne]; omega
  have t7 : ((s[0].toNat : Int) == 237) = false := by rw [beq_eq_false_iff_ne]; omega
  have t8 : ((s[0].toNat : Int) == 240) = false := by rw [beq_eq_false_iff_ne]; omega
  have t9 : ((s[0].toNat : Int) == 244) = false := by rw [beq_eq_false_iff_ne]; omega
  have hb1 : (s.data.toList.getD 1 0).toNat = s[1].toNat := by rw [getD_at s 1 (by omega)]
  have hv : signL s.data.toList = 0 := by
    rw [signL_eq s h0, hb0, hb1]
    unfold signN
    repeat' split
    all_goals omega
  rw [hv]
  have d : decide ((s.size : Int) < 3) = false := decide_eq_false (by omega)
  have d' : decide (s.size < 3) = false := decide_eq_false (by omega)
  have hs1 : 1 < s.size := by omega
  have hx1 : (s[1].toNat : Int) ≤ 255 := by have := (s[1]'hs1).toNat_lt; omega
  have d1 : decide ((s[1].toNat : Int) < 128) = true := decide_eq_true hb
  clear hv hb0 hb1 hl hu hb hn
  go_enter Tryd.func63, Tryd.ntmps63
  go_wp2_with fail
  go_ret
  exact ⟨rfl, rfl⟩

set_option maxHeartbeats 4000000 in
set_option maxRecDepth 100000 in
theorem sign_c4_high (s : ByteArray) (hs : s.size ≤ 9223372036854775807) (h0 : 0 < s.size) (hl : 225 ≤ (s[0].toNat : Int)) (hu : (s[0].toNat : Int) ≤ 236) (hn : 3 ≤ s.size) (hb : (191 < (s[1].toNat : Int))) (w : World) :
    Calls Tryd.prog 63 #[.string s] w fun e w' => e = .returned (.int .i64 (signL s.data.toList : Nat)) ∧ w = w' := by
  have hb0 : (s.data.toList.getD 0 0).toNat = s[0].toNat := by rw [getD_at s 0 h0]
  have hx0 : (s[0].toNat : Int) ≤ 255 := by have := (s[0]'h0).toNat_lt; omega
  have hz : ((s.size : Int) == 0) = false := by rw [beq_eq_false_iff_ne]; omega
  have t0 : decide ((s[0].toNat : Int) < 128) = false := decide_eq_false (by omega)
  have t1 : decide ((194 : Int) ≤ (s[0].toNat : Int)) = true := decide_eq_true (by omega)
  have t2 : decide ((s[0].toNat : Int) ≤ 223) = false := decide_eq_false (by omega)
  have t3 : decide ((224 : Int) ≤ (s[0].toNat : Int)) = true := decide_eq_true (by omega)
  have t4 : decide ((s[0].toNat : Int) ≤ 239) = true := decide_eq_true (by omega)
  have t5 : decide ((240 : Int) ≤ (s[0].toNat : Int)) = false := decide_eq_false (by omega)
  have t6 : ((s[0].toNat : Int) == 224) = false := by rw [beq_eq_false_iff_ne]; omega
  have t7 : ((s[0].toNat : Int) == 237) = false := by rw [beq_eq_false_iff_ne]; omega
  have t8 : ((s[0].toNat : Int) == 240) = false := by rw [beq_eq_false_iff_ne]; omega
  have t9 : ((s[0].toNat : Int) == 244) = false := by rw [beq_eq_false_iff_ne]; omega
  have hb1 : (s.data.toList.getD 1 0).toNat = s[1].toNat := by rw [getD_at s 1 (by omega)]
  have hv : signL s.data.toList = 0 := by
    rw [signL_eq s h0, hb0, hb1]
    unfold signN
    repeat' split
    all_goals omega
  rw [hv]
  have d : decide ((s.size : Int) < 3) = false := decide_eq_false (by omega)
  have d' : decide (s.size < 3) = false := decide_eq_false (by omega)
  have hs1 : 1 < s.size := by omega
  have hx1 : (s[1].toNat : Int) ≤ 255 := by have := (s[1]'hs1).toNat_lt; omega
  have d1 : decide ((s[1].toNat : Int) < 128) = false := decide_eq_false (by omega)
  have d2 : decide ((191 : Int) < (s[1].toNat : Int)) = true := decide_eq_true hb
  clear hv hb0 hb1 hl hu hb hn
  go_enter Tryd.func63, Tryd.ntmps63
  go_wp2_with fail
  go_ret
  exact ⟨rfl, rfl⟩

set_option maxHeartbeats 4000000 in
set_option maxRecDepth 100000 in
theorem sign_c4_loop (s : ByteArray) (hs : s.size ≤ 9223372036854775807) (h0 : 0 < s.size) (hl : 225 ≤ (s[0].toNat : Int)) (hu : (s[0].toNat : Int) ≤ 236) (hn : 3 ≤ s.size) (hb1 : 128 ≤ (s[1].toNat : Int)) (hb2 : (s[1].toNat : Int) ≤ 191) (w : World) :
    Calls Tryd.prog 63 #[.string s] w fun e w' => e = .returned (.int .i64 (signL s.data.toList : Nat)) ∧ w = w' := by
  have hb0 : (s.data.toList.getD 0 0).toNat = s[0].toNat := by rw [getD_at s 0 h0]
  have hx0 : (s[0].toNat : Int) ≤ 255 := by have := (s[0]'h0).toNat_lt; omega
  have hz : ((s.size : Int) == 0) = false := by rw [beq_eq_false_iff_ne]; omega
  have t0 : decide ((s[0].toNat : Int) < 128) = false := decide_eq_false (by omega)
  have t1 : decide ((194 : Int) ≤ (s[0].toNat : Int)) = true := decide_eq_true (by omega)
  have t2 : decide ((s[0].toNat : Int) ≤ 223) = false := decide_eq_false (by omega)
  have t3 : decide ((224 : Int) ≤ (s[0].toNat : Int)) = true := decide_eq_true (by omega)
  have t4 : decide ((s[0].toNat : Int) ≤ 239) = true := decide_eq_true (by omega)
  have t5 : decide ((240 : Int) ≤ (s[0].toNat : Int)) = false := decide_eq_false (by omega)
  have t6 : ((s[0].toNat : Int) == 224) = false := by rw [beq_eq_false_iff_ne]; omega
  have t7 : ((s[0].toNat : Int) == 237) = false := by rw [beq_eq_false_iff_ne]; omega
  have t8 : ((s[0].toNat : Int) == 240) = false := by rw [beq_eq_false_iff_ne]; omega
  have t9 : ((s[0].toNat : Int) == 244) = false := by rw [beq_eq_false_iff_ne]; omega
  have hg1 : (s.data.toList.getD 1 0).toNat = s[1].toNat := by rw [getD_at s 1 (by omega)]
  have hvok : (∀ k, 2 ≤ k → k < 3 → 128 ≤ (s.data.toList.getD k 0).toNat ∧ (s.data.toList.getD k 0).toNat ≤ 191) → signL s.data.toList = 3 := by
    intro h
    have h2 := h 2
    have h3 := h 3
    rw [signL_eq s h0, hb0, hg1]
    unfold signN
    repeat' split
    all_goals omega
  have hvno : ∀ k, 2 ≤ k → k < 3 → ¬ (128 ≤ (s.data.toList.getD k 0).toNat ∧ (s.data.toList.getD k 0).toNat ≤ 191) → signL s.data.toList = 0 := by
    intro k k2 kn h
    have hk : k = 2 ∨ k = 3 := by omega
    rw [signL_eq s h0, hb0, hg1]
    unfold signN
    rcases hk with rfl | rfl
    all_goals repeat' split
    all_goals omega
  generalize hr : signL s.data.toList = res at hvok hvno ⊢
  have HOK := Lib.hid hvok
  have HNO := Lib.hid hvno
  have d : decide ((s.size : Int) < 3) = false := decide_eq_false (by omega)
  have d' : decide (s.size < 3) = false := decide_eq_false (by omega)
  have hs1 : 1 < s.size := by omega
  have hx1 : (s[1].toNat : Int) ≤ 255 := by have := (s[1]'hs1).toNat_lt; omega
  have d1 : decide ((s[1].toNat : Int) < 128) = false := decide_eq_false (by omega)
  have d2 : decide ((191 : Int) < (s[1].toNat : Int)) = false := decide_eq_false (by omega)
  clear hvok hvno hb0 hg1 hr hl hu hb1 hb2
  go_enter Tryd.func63, Tryd.ntmps63
  go_wp2_with fail
  go_loopw [7] (fun i wr => ∃ k : Nat, 2 ≤ k ∧ k ≤ 3 ∧ i = .int .i64 (k : Int) ∧ (∀ m, 2 ≤ m → m < k → 128 ≤ (s.data.toList.getD m 0).toNat ∧ (s.data.toList.getD m 0).toNat ≤ 191) ∧ w = wr) (fun i _ => 3 - (intOf i).toNat)
  case atStart => exact ⟨2, by omega, by omega, rfl, fun m a b => by omega, rfl⟩
  case round =>
    obtain ⟨k, hk2, hkn, rfl, hall, rfl⟩ := hrel
    have HALL := Lib.hid hall
    clear hall
    by_cases hlt : k < 3
    · have hks : k < s.size := by omega
      have hgk : (s.data.toList.getD k 0).toNat = s[k].toNat := by rw [getD_at s k hks]
      by_cases e1 : (s[k].toNat : Int) < 128
      · have q1 : decide ((s[k].toNat : Int) < 128) = true := decide_eq_true e1
        have hz0 := HNO.out k hk2 hlt (by rw [hgk]; omega)
        have HZ := Lib.hid hz0
        clear hz0 hgk
        go_wp2_with fail
        go_ret
        exact ⟨by rw [HZ.out]; rfl, rfl⟩
      · have q1 : decide ((s[k].toNat : Int) < 128) = false := decide_eq_false e1
        by_cases e2 : 191 < (s[k].toNat : Int)
        · have q2 : decide ((191 : Int) < (s[k].toNat : Int)) = true := decide_eq_true e2
          have hz0 := HNO.out k hk2 hlt (by rw [hgk]; omega)
          have HZ := Lib.hid hz0
          clear hz0 hgk
          go_wp2_with fail
          go_ret
          exact ⟨by rw [HZ.out]; rfl, rfl⟩
        · have q2 : decide ((191 : Int) < (s[k].toNat : Int)) = false := decide_eq_false e2
          have hnext : ∀ m, 2 ≤ m → m < k + 1 → 128 ≤ (s.data.toList.getD m 0).toNat ∧ (s.data.toList.getD m 0).toNat ≤ 191 := by
            intro m m2 mk
            by_cases e : m = k
            · subst e; rw [hgk]; omega
            · exact HALL.out m m2 (by omega)
          have HN := Lib.hid hnext
          clear hnext hgk
          go_wp2_with fail
          exact ⟨⟨k + 1, by omega, by omega, by go_num, HN.out, by trivial⟩, by simp [intOf]; omega⟩
    · obtain rfl : k = 3 := by omega
      have hz0 := HOK.out HALL.out
      have HZ := Lib.hid hz0
      clear hz0
      go_wp2_with fail
      go_ret
      exact ⟨by rw [HZ.out]; rfl, rfl⟩

set_option maxHeartbeats 4000000 in
set_option maxRecDepth 100000 in
theorem sign_c5_short (s : ByteArray) (hs : s.size ≤ 9223372036854775807) (h0 : 0 < s.size) (hl : 237 ≤ (s[0].toNat : Int)) (hu : (s[0].toNat : Int) ≤ 237) (hn : s.size < 3) (w : World) :
    Calls Tryd.prog 63 #[.string s] w fun e w' => e = .returned (.int .i64 (signL s.data.toList : Nat)) ∧ w = w' := by
  have hb0 : (s.data.toList.getD 0 0).toNat = s[0].toNat := by rw [getD_at s 0 h0]
  have hx0 : (s[0].toNat : Int) ≤ 255 := by have := (s[0]'h0).toNat_lt; omega
  have hz : ((s.size : Int) == 0) = false := by rw [beq_eq_false_iff_ne]; omega
  have t0 : decide ((s[0].toNat : Int) < 128) = false := decide_eq_false (by omega)
  have t1 : decide ((194 : Int) ≤ (s[0].toNat : Int)) = true := decide_eq_true (by omega)
  have t2 : decide ((s[0].toNat : Int) ≤ 223) = false := decide_eq_false (by omega)
  have t3 : decide ((224 : Int) ≤ (s[0].toNat : Int)) = true := decide_eq_true (by omega)
  have t4 : decide ((s[0].toNat : Int) ≤ 239) = true := decide_eq_true (by omega)
  have t5 : decide ((240 : Int) ≤ (s[0].toNat : Int)) = false := decide_eq_false (by omega)
  have t6 : ((s[0].toNat : Int) == 224) = false := by rw [beq_eq_false_iff_ne]; omega
  have t7 : ((s[0].toNat : Int) == 237) = true := by rw [beq_iff_eq]; omega
  have t8 : ((s[0].toNat : Int) == 240) = false := by rw [beq_eq_false_iff_ne]; omega
  have t9 : ((s[0].toNat : Int) == 244) = false := by rw [beq_eq_false_iff_ne]; omega
  have hv : signL s.data.toList = 0 := by
    rw [signL_eq s h0, hb0]
    unfold signN
    repeat' split
    all_goals omega
  rw [hv]
  have d : decide ((s.size : Int) < 3) = true := decide_eq_true (by omega)
  have d' : decide (s.size < 3) = true := decide_eq_true (by omega)
  clear hv hb0 hl hu
  go_enter Tryd.func63, Tryd.ntmps63
  go_wp2_with fail
  go_ret
  exact ⟨rfl, rfl⟩

set_option maxHeartbeats 4000000 in
set_option maxRecDepth 100000 in
theorem sign_c5_low (s : ByteArray) (hs : s.size ≤ 9223372036854775807) (h0 : 0 < s.size) (hl : 237 ≤ (s[0].toNat : Int)) (hu : (s[0].toNat : Int) ≤ 237) (hn : 3 ≤ s.size) (hb : ((s[1].toNat : Int) < 128)) (w : World) :
    Calls Tryd.prog 63 #[.string s] w fun e w' => e = .returned (.int .i64 (signL s.data.toList : Nat)) ∧ w = w' := by
  have hb0 : (s.data.toList.getD 0 0).toNat = s[0].toNat := by rw [getD_at s 0 h0]
  have hx0 : (s[0].toNat : Int) ≤ 255 := by have := (s[0]'h0).toNat_lt; omega
  have hz : ((s.size : Int) == 0) = false := by rw [beq_eq_false_iff_ne]; omega
  have t0 : decide ((s[0].toNat : Int) < 128) = false := decide_eq_false (by omega)
  have t1 : decide ((194 : Int) ≤ (s[0].toNat : Int)) = true := decide_eq_true (by omega)
  have t2 : decide ((s[0].toNat : Int) ≤ 223) = false := decide_eq_false (by omega)
  have t3 : decide ((224 : Int) ≤ (s[0].toNat : Int)) = true := decide_eq_true (by omega)
  have t4 : decide ((s[0].toNat : Int) ≤ 239) = true := decide_eq_true (by omega)
  have t5 : decide ((240 : Int) ≤ (s[0].toNat : Int)) = false := decide_eq_false (by omega)
  have t6 : ((s[0].toNat : Int) == 224) = false := by rw [beq_eq_false_iff_ne]; omega
  have t7 : ((s[0].toNat : Int) == 237) = true := by rw [beq_iff_eq]; omega
  have t8 : ((s[0].toNat : Int) == 240) = false := by rw [beq_eq_false_iff_ne]; omega
  have t9 : ((s[0].toNat : Int) == 244) = false := by rw [beq_eq_false_iff_ne]; omega
  have hb1 : (s.data.toList.getD 1 0).toNat = s[1].toNat := by rw [getD_at s 1 (by omega)]
  have hv : signL s.data.toList = 0 := by
    rw [signL_eq s h0, hb0, hb1]
    unfold signN
    repeat' split
    all_goals omega
  rw [hv]
  have d : decide ((s.size : Int) < 3) = false := decide_eq_false (by omega)
  have d' : decide (s.size < 3) = false := decide_eq_false (by omega)
  have hs1 : 1 < s.size := by omega
  have hx1 : (s[1].toNat : Int) ≤ 255 := by have := (s[1]'hs1).toNat_lt; omega
  have d1 : decide ((s[1].toNat : Int) < 128) = true := decide_eq_true hb
  clear hv hb0 hb1 hl hu hb hn
  go_enter Tryd.func63, Tryd.ntmps63
  go_wp2_with fail
  go_ret
  exact ⟨rfl, rfl⟩

set_option maxHeartbeats 4000000 in
set_option maxRecDepth 100000 in
theorem sign_c5_high (s : ByteArray) (hs : s.size ≤ 9223372036854775807) (h0 : 0 < s.size) (hl : 237 ≤ (s[0].toNat : Int)) (hu : (s[0].toNat : Int) ≤ 237) (hn : 3 ≤ s.size) (hb : (159 < (s[1].toNat : Int))) (w : World) :
    Calls Tryd.prog 63 #[.string s] w fun e w' => e = .returned (.int .i64 (signL s.data.toList : Nat)) ∧ w = w' := by
  have hb0 : (s.data.toList.getD 0 0).toNat = s[0].toNat := by rw [getD_at s 0 h0]
  have hx0 : (s[0].toNat : Int) ≤ 255 := by have := (s[0]'h0).toNat_lt; omega
  have hz : ((s.size : Int) == 0) = false := by rw [beq_eq_false_iff_ne]; omega
  have t0 : decide ((s[0].toNat : Int) < 128) = false := decide_eq_false (by omega)
  have t1 : decide ((194 : Int) ≤ (s[0].toNat : Int)) = true := decide_eq_true (by omega)
  have t2 : decide ((s[0].toNat : Int) ≤ 223) = false := decide_eq_false (by omega)
  have t3 : decide ((224 : Int) ≤ (s[0].toNat : Int)) = true := decide_eq_true (by omega)
  have t4 : decide ((s[0].toNat : Int) ≤ 239) = true := decide_eq_true (by omega)
  have t5 : decide ((240 : Int) ≤ (s[0].toNat : Int)) = false := decide_eq_false (by omega)
  have t6 : ((s[0].toNat : Int) == 224) = false := by rw [beq_eq_false_iff_ne]; omega
  have t7 : ((s[0].toNat : Int) == 237) = true := by rw [beq_iff_eq]; omega
  have t8 : ((s[0].toNat : Int) == 240) = false := by rw [beq_eq_false_iff_ne]; omega
  have t9 : ((s[0].toNat : Int) == 244) = false := by rw [beq_eq_false_iff_ne]; omega
  have hb1 : (s.data.toList.getD 1 0).toNat = s[1].toNat := by rw [getD_at s 1 (by omega)]
  have hv : signL s.data.toList = 0 := by
    rw [signL_eq s h0, hb0, hb1]
    unfold signN
    repeat' split
    all_goals omega
  rw [hv]
  have d : decide ((s.size : Int) < 3) = false := decide_eq_false (by omega)
  have d' : decide (s.size < 3) = false := decide_eq_false (by omega)
  have hs1 : 1 < s.size := by omega
  have hx1 : (s[1].toNat : Int) ≤ 255 := by have := (s[1]'hs1).toNat_lt; omega
  have d1 : decide ((s[1].toNat : Int) < 128) = false := decide_eq_false (by omega)
  have d2 : decide ((159 : Int) < (s[1].toNat : Int)) = true := decide_eq_true hb
  clear hv hb0 hb1 hl hu hb hn
  go_enter Tryd.func63, Tryd.ntmps63
  go_wp2_with fail
  go_ret
  exact ⟨rfl, rfl⟩
end Go.Proofs.YtffoklhopmhjaaaDoor

/- moraineref03.Sign, some classes of first bytes. -/
set_option linter.unusedSimpArgs false
set_option linter.unusedVariables false
namespace Go.Proofs.YtffoklhopmhjaaaDoor
open Go Go.RowKit Go.Shelf

set_option maxHeartbeats 4000000 in
set_option maxRecDepth 100000 in
theorem sign_empty (s : ByteArray) (h : s.size = 0) (w : World) :
    Calls Tryd.prog 63 #[.string s] w fun e w' => e = .returned (.int .i64 (signL s.data.toList : Nat)) ∧ w = w' := by
  rw [signL_empty s h]
  have d : ((s.size : Int) == 0) = true := by rw [beq_iff_eq]; omega
  clear h
  go_enter Tryd.func63, Tryd.ntmps63
  go_wp2_with fail
  go_ret
  exact ⟨rfl, rfl⟩

set_option maxHeartbeats 4000000 in
set_option maxRecDepth 100000 in
theorem sign_c0 (s : ByteArray) (hs : s.size ≤ 9223372036854775807) (h0 : 0 < s.size) (hl : 0 ≤ (s[0].toNat : Int)) (hu : (s[0].toNat : Int) ≤ 127) (w : World) :
    Calls Tryd.prog 63 #[.string s] w fun e w' => e = .returned (.int .i64 (signL s.data.toList : Nat)) ∧ w = w' := by
  have hb0 : (s.data.toList.getD 0 0).toNat = s[0].toNat := by rw [getD_at s 0 h0]
  have hx0 : (s[0].toNat : Int) ≤ 255 := by have := (s[0]'h0).toNat_lt; omega
  have hz : ((s.size : Int) == 0) = false := by rw [beq_eq_false_iff_ne]; omega
  have t0 : decide ((s[0].toNat : Int) < 128) = true := decide_eq_true (by omega)
  have t1 : decide ((194 : Int) ≤ (s[0].toNat : Int)) = false := decide_eq_false (by omega)
  have t2 : decide ((224 : Int) ≤ (s[0].toNat : Int)) = false := decide_eq_false (by omega)
  have t3 : decide ((240 : Int) ≤ (s[0].toNat : Int)) = false := decide_eq_false (by omega)
  have t4 : ((s[0].toNat : Int) == 224) = false := by rw [beq_eq_false_iff_ne]; omega
  have t5 : ((s[0].toNat : Int) == 237) = false := by rw [beq_eq_false_iff_ne]; omega
  have t6 : ((s[0].toNat : Int) == 240) = false := by rw [beq_eq_false_iff_ne]; omega
  have t7 : ((s[0].toNat : Int) == 244) = false := by rw [beq_eq_false_iff_ne]; omega
  have hv : signL s.data.toList = 1 := by
    rw [signL_eq s h0, hb0]
    unfold signN
    repeat' split
    all_goals omega
  rw [hv]
  clear hv hb0 hl hu
  go_enter Tryd.func63, Tryd.ntmps63
  go_wp2_with fail
  go_ret
  exact ⟨rfl, rfl⟩

set_option maxHeartbeats 4000000 in
set_option maxRecDepth 100000 in
theorem sign_c1 (s : ByteArray) (hs : s.size ≤ 9223372036854775807) (h0 : 0 < s.size) (hl : 128 ≤ (s[0].toNat : Int)) (hu : (s[0].toNat : Int) ≤ 193) (w : World) :
    Calls Tryd.prog 63 #[.string s] w fun e w' => e = .returned (.int .i64 (signL s.data.toList : Nat)) ∧ w = w' := by
  have hb0 : (s.data.toList.getD 0 0).toNat = s[0].toNat := by rw [getD_at s 0 h0]
  have hx0 : (s[0].toNat : Int) ≤ 255 := by have := (s[0]'h0).toNat_lt; omega
  have hz : ((s.size : Int) == 0) = false := by rw [beq_eq_false_iff_ne]; omega
  have t0 : decide ((s[0].toNat : Int) < 128) = false := decide_eq_false (by omega)
  have t1 : decide ((194 : Int) ≤ (s[0].toNat : Int)) = false := decide_eq_false (by omega)
  have t2 : decide ((224 : Int) ≤ (s[0].toNat : Int)) = false := decide_eq_false (by omega)
  have t3 : decide ((240 : Int) ≤ (s[0].toNat : Int)) = false := decide_eq_false (by omega)
  have t4 : ((s[0].toNat : Int) == 224) = false := by rw [beq_eq_false_iff_ne]; omega
  have t5 : ((s[0].toNat : Int) == 237) = false := by rw [beq_eq_false_iff_ne]; omega
  have t6 : ((s[0].toNat : Int) == 240) = false := by rw [beq_eq_false_iff_ne]; omega
  have t7 : ((s[0].toNat : Int) == 244) = false := by rw [beq_eq_false_iff_ne]; omega
  have hv : signL s.data.toList = 0 := by
    rw [signL_eq s h0, hb0]
    unfold signN
    repeat' split
    all_goals omega
  rw [hv]
  clear hv hb0 hl hu
  go_enter Tryd.func63, Tryd.ntmps63
  go_wp2_with fail
  go_ret
  exact ⟨rfl, rfl⟩

set_option maxHeartbeats 4000000 in
set_option maxRecDepth 100000 in
theorem sign_c2_short (s : ByteArray) (hs : s.size ≤ 9223372036854775807) (h0 : 0 < s.size) (hl : 194 ≤ (s[0].toNat : Int)) (hu : (s[0].toNat : Int) ≤ 223) (hn : s.size < 2) (w : World) :
    Calls Tryd.prog 63 #[.string s] w fun e w' => e = .returned (.int .i64 (signL s.data.toList : Nat)) ∧ w = w' := by
  have hb0 : (s.data.toList.getD 0 0).toNat = s[0].toNat := by rw [getD_at s 0 h0]
  have hx0 : (s[0].toNat : Int) ≤ 255 := by have := (s[0]'h0).toNat_lt; omega
  have hz : ((s.size : Int) == 0) = false := by rw [beq_eq_false_iff_ne]; omega
  have t0 : decide ((s[0].toNat : Int) < 128) = false := decide_eq_false (by omega)
  have t1 : decide ((194 : Int) ≤ (s[0].toNat : Int)) = true := decide_eq_true (by omega)
  have t2 : decide ((s[0].toNat : Int) ≤ 223) = true := decide_eq_true (by omega)
  have t3 : decide ((224 : Int) ≤ (s[0].toNat : Int)) = false := decide_eq_false (by omega)
  have t4 : decide ((240 : Int) ≤ (s[0].toNat : Int)) = false := decide_eq_false (by omega)
  have t5 : ((s[0].toNat : Int) == 224) = false := by rw [beq_eq_false_iff_ne]; omega
  have t6 : ((s[0].toNat : Int) == 237) = false := by rw [beq_eq_false_iff_ne]; omega
  have t7 : ((s[0].toNat : Int) == 240) = false := by rw [beq_eq_false_iff_ne]; omega
  have t8 : ((s[0].toNat : Int) == 244) = false := by rw [beq_eq_false_iff_ne]; omega
  have hv : signL s.data.toList = 0 := by
    rw [signL_eq s h0, hb0]
    unfold signN
    repeat' split
    all_goals omega
  rw [hv]
  have d : decide ((s.size : Int) < 2) = true := decide_eq_true (by omega)
  have d' : decide (s.size < 2) = true := decide_eq_true (by omega)
  clear hv hb0 hl hu
  go_enter Tryd.func63, Tryd.ntmps63
  go_wp2_with fail
  go_ret
  exact ⟨rfl, rfl⟩

set_option maxHeartbeats 4000000 in
set_option maxRecDepth 100000 in
theorem sign_c2_low (s : ByteArray) (hs : s.size ≤ 9223372036854775807) (h0 : 0 < s.size) (hl : 194 ≤ (s[0].toNat : Int)) (hu : (s[0].toNat : Int) ≤ 223) (hn : 2 ≤ s.size) (hb : ((s[1].toNat : Int) < 128)) (w : World) :
    Calls Tryd.prog 63 #[.string s] w fun e w' => e = .returned (.int .i64 (signL s.data.toList : Nat)) ∧ w = w' := by
  have hb0 : (s.data.toList.getD 0 0).toNat = s[0].toNat := by rw [getD_at s 0 h0]
  have hx0 : (s[0].toNat : Int) ≤ 255 := by have := (s[0]'h0).toNat_lt; omega
  have hz : ((s.size : Int) == 0) = false := by rw [beq_eq_false_iff_ne]; omega
  have t0 : decide ((s[0].toNat : Int) < 128) = false := decide_eq_false (by omega)
  have t1 : decide ((194 : Int) ≤ (s[0].toNat : Int)) = true := decide_eq_true (by omega)
  have t2 : decide ((s[0].toNat : Int) ≤ 223) = true := decide_eq_true (by omega)
  have t3 : decide ((224 : Int) ≤ (s[0].toNat : Int)) = false := decide_eq_false (by omega)
  have t4 : decide ((240 : Int) ≤ (s[0].toNat : Int)) = false := decide_eq_false (by omega)
  have t5 : ((s[0].toNat : Int) == 224) = false := by rw [beq_eq_false_iff_ne]; omega
  have t6 : ((s[0].toNat : Int) == 237) = false := by rw [beq_eq_false_iff_ne]; omega
  have t7 : ((s[0].toNat : Int) == 240) = false := by rw [beq_eq_false_iff_ne]; omega
  have t8 : ((s[0].toNat : Int) == 244) = false := by rw [beq_eq_false_iff_ne]; omega
  have hb1 : (s.data.toList.getD 1 0).toNat = s[1].toNat := by rw [getD_at s 1 (by omega)]
  have hv : signL s.data.toList = 0 := by
    rw [signL_eq s h0, hb0, hb1]
    unfold signN
    repeat' split
    all_goals omega
  rw [hv]
  have d : decide ((s.size : Int) < 2) = false := decide_eq_false (by omega)
  have d' : decide (s.size < 2) = false := decide_eq_false (by omega)
  have hs1 : 1 < s.size := by omega
  have hx1 : (s[1].toNat : Int) ≤ 255 := by have := (s[1]'hs1).toNat_lt; omega
  have d1 : decide ((s[1].toNat : Int) < 128) = true := decide_eq_true hb
  clear hv hb0 hb1 hl hu hb hn
  go_enter Tryd.func63, Tryd.ntmps63
  go_wp2_with fail
  go_ret
  exact ⟨rfl, rfl⟩

set_option maxHeartbeats 4000000 in
set_option maxRecDepth 100000 in
theorem sign_c2_high (s : ByteArray) (hs : s.size ≤ 9223372036854775807) (h0 : 0 < s.size) (hl : 194 ≤ (s[0].toNat : Int)) (hu : (s[0].toNat : Int) ≤ 223) (hn : 2 ≤ s.size) (hb : (191 < (s[1].toNat : Int))) (w : World) :
    Calls Tryd.prog 63 #[.string s] w fun e w' => e = .returned (.int .i64 (signL s.data.toList : Nat)) ∧ w = w' := by
  have hb0 : (s.data.toList.getD 0 0).toNat = s[0].toNat := by rw [getD_at s 0 h0]
  have hx0 : (s[0].toNat : Int) ≤ 255 := by have := (s[0]'h0).toNat_lt; omega
  have hz : ((s.size : Int) == 0) = false := by rw [beq_eq_false_iff_ne]; omega
  have t0 : decide ((s[0].toNat : Int) < 128) = false := decide_eq_false (by omega)
  have t1 : decide ((194 : Int) ≤ (s[0].toNat : Int)) = true := decide_eq_true (by omega)
  have t2 : decide ((s[0].toNat : Int) ≤ 223) = true := decide_eq_true (by omega)
  have t3 : decide ((224 : Int) ≤ (s[0].toNat : Int)) = false := decide_eq_false (by omega)
  have t4 : decide ((240 : Int) ≤ (s[0].toNat : Int)) = false := decide_eq_false (by omega)
  have t5 : ((s[0].toNat : Int) == 224) = false := by rw [beq_eq_false_iff_ne]; omega
  have t6 : ((s[0].toNat : Int) == 237) = false := by rw [beq_eq_false_iff_ne]; omega
  have t7 : ((s[0].toNat : Int) == 240) = false := by rw [beq_eq_false_iff_ne]; omega
  have t8 : ((s[0].toNat : Int) == 244) = false := by rw [beq_eq_false_iff_ne]; omega
  have hb1 : (s.data.toList.getD 1 0).toNat = s[1].toNat := by rw [getD_at s 1 (by omega)]
  have hv : signL s.data.toList = 0 := by
    rw [signL_eq s h0, hb0, hb1]
    unfold signN
    repeat' split
    all_goals omega
  rw [hv]
  have d : decide ((s.size : Int) < 2) = false := decide_eq_false (by omega)
  have d' : decide (s.size < 2) = false := decide_eq_false (by omega)
  have hs1 : 1 < s.size := by omega
  have hx1 : (s[1].toNat : Int) ≤ 255 := by have := (s[1]'hs1).toNat_lt; omega
  have d1 : decide ((s[1].toNat : Int) < 128) = false := decide_eq_false (by omega)
  have d2 : decide ((191 : Int) < (s[1].toNat : Int)) = true := decide_eq_true hb
  clear hv hb0 hb1 hl hu hb hn
  go_enter Tryd.func63, Tryd.ntmps63
  go_wp2_with fail
  go_ret
  exact ⟨rfl, rfl⟩

set_option maxHeartbeats 4000000 in
set_option maxRecDepth 100000 in
theorem sign_c2_loop (s : ByteArray) (hs : s.size ≤ 9223372036854775807) (h0 : 0 < s.size) (hl : 194 ≤ (s[0].toNat : Int)) (hu : (s[0].toNat : Int) ≤ 223) (hn : 2 ≤ s.size) (hb1 : 128 ≤ (s[1].toNat : Int)) (hb2 : (s[1].toNat : Int) ≤ 191) (w : World) :
    Calls Tryd.prog 63 #[.string s] w fun e w' => e = .returned (.int .i64 (signL s.data.toList : Nat)) ∧ w = w' := by
  have hb0 : (s.data.toList.getD 0 0).toNat = s[0].toNat := by rw [getD_at s 0 h0]
  have hx0 : (s[0].toNat : Int) ≤ 255 := by have := (s[0]'h0).toNat_lt; omega
  have hz : ((s.size : Int) == 0) = false := by rw [beq_eq_false_iff_ne]; omega
  have t0 : decide ((s[0].toNat : Int) < 128) = false := decide_eq_false (by omega)
  have t1 : decide ((194 : Int) ≤ (s[0].toNat : Int)) = true := decide_eq_true (by omega)
  have t2 : decide ((s[0].toNat : Int) ≤ 223) = true := decide_eq_true (by omega)
  have t3 : decide ((224 : Int) ≤ (s[0].toNat : Int)) = false := decide_eq_false (by omega)
  have t4 : decide ((240 : Int) ≤ (s[0].toNat : Int)) = false := decide_eq_false (by omega)
  have t5 : ((s[0].toNat : Int) == 224) = false := by rw [beq_eq_false_iff_ne]; omega
  have t6 : ((s[0].toNat : Int) == 237) = false := by rw [beq_eq_false_iff_ne]; omega
  have t7 : ((s[0].toNat : Int) == 240) = false := by rw [beq_eq_false_iff_ne]; omega
  have t8 : ((s[0].toNat : Int) == 244) = false := by rw [beq_eq_false_iff_ne]; omega
  have hg1 : (s.data.toList.getD 1 0).toNat = s[1].toNat := by rw [getD_at s 1 (by omega)]
  have hvok : (∀ k, 2 ≤ k → k < 2 → 128 ≤ (s.data.toList.getD k 0).toNat ∧ (s.data.toList.getD k 0).toNat ≤ 191) → signL s.data.toList = 2 := by
    intro h
    have h2 := h 2
    have h3 := h 3
    rw [signL_eq s h0, hb0, hg1]
    unfold signN
    repeat' split
    all_goals omega
  have hvno : ∀ k, 2 ≤ k → k < 2 → ¬ (128 ≤ (s.data.toList.getD k 0).toNat ∧ (s.data.toList.getD k 0).toNat ≤ 191) → signL s.data.toList = 0 := by
    intro k k2 kn h
    have hk : k = 2 ∨ k = 3 := by omega
    rw [signL_eq s h0, hb0, hg1]
    unfold signN
    rcases hk with rfl | rfl
    all_goals repeat' split
    all_goals omega
  generalize hr : signL s.data.toList = res at hvok hvno ⊢
  have HOK := Lib.hid hvok
  have HNO := Lib.hid hvno
  have d : decide ((s.size : Int) < 2) = false := decide_eq_false (by omega)
  have d' : decide (s.size < 2) = false := decide_eq_false (by omega)
  have hs1 : 1 < s.size := by omega
  have hx1 : (s[1].toNat : Int) ≤ 255 := by have := (s[1]'hs1).toNat_lt; omega
  have d1 : decide ((s[1].toNat : Int) < 128) = false := decide_eq_false (by omega)
  have d2 : decide ((191 : Int) < (s[1].toNat : Int)) = false := decide_eq_false (by omega)
  clear hvok hvno hb0 hg1 hr hl hu hb1 hb2
  go_enter Tryd.func63, Tryd.ntmps63
  go_wp2_with fail
  go_loopw [7] (fun i wr => ∃ k : Nat, 2 ≤ k ∧ k ≤ 2 ∧ i = .int .i64 (k : Int) ∧ (∀ m, 2 ≤ m → m < k → 128 ≤ (s.data.toList.getD m 0).toNat ∧ (s.data.toList.getD m 0).toNat ≤ 191) ∧ w = wr) (fun i _ => 2 - (intOf i).toNat)
  case atStart => exact ⟨2, by omega, by omega, rfl, fun m a b => by omega, rfl⟩
  case round =>
    obtain ⟨k, hk2, hkn, rfl, hall, rfl⟩ := hrel
    have HALL := Lib.hid hall
    clear hall
    by_cases hlt : k < 2
    · exfalso; omega
    · obtain rfl : k = 2 := by omega
      have hz0 := HOK.out HALL.out
      have HZ := Lib.hid hz0
      clear hz0
      go_wp2_with fail
      go_ret
      exact ⟨by rw [HZ.out]; rfl, rfl⟩

set_option maxHeartbeats 4000000 in
set_option maxRecDepth 100000 in
theorem sign_c3_short (s : ByteArray) (hs : s.size ≤ 9223372036854775807) (h0 : 0 < s.size) (hl : 224 ≤ (s[0].toNat : Int)) (hu : (s[0].toNat : Int) ≤ 224) (hn : s.size < 3) (w : World) :
    Calls Tryd.prog 63 #[.string s] w fun e w' => e = .returned (.int .i64 (signL s.data.toList : Nat)) ∧ w = w' := by
  have hb0 : (s.data.toList.getD 0 0).toNat = s[0].toNat := by rw [getD_at s 0 h0]
  have hx0 : (s[0].toNat : Int) ≤ 255 := by have := (s[0]'h0).toNat_lt; omega
  have hz : ((s.size : Int) == 0) = false := by rw [beq_eq_false_iff_ne]; omega
  have t0 : decide ((s[0].toNat : Int) < 128) = false := decide_eq_false (by omega)
  have t1 : decide ((194 : Int) ≤ (s[0].toNat : Int)) = true := decide_eq_true (by omega)
  have t2 : decide ((s[0].toNat : Int) ≤ 223) = false := decide_eq_false (by omega)
  have t3 : decide ((224 : Int) ≤ (s[0].toNat : Int)) = true := decide_eq_true (by omega)
  have t4 : decide ((s[0].toNat : Int) ≤ 239) = true := decide_eq_true (by omega)
  have t5 : decide ((240 : Int) ≤ (s[0].toNat : Int)) = false := decide_eq_false (by omega)
  have t6 : ((s[0].toNat : Int) == 224) = true := by rw [beq_iff_eq]; omega
  have t7 : ((s[0].toNat : Int) == 237) = false := by rw [beq_eq_false_iff_ne]; omega
  have t8 : ((s[0].toNat : Int) == 240) = false := by rw [beq_eq_false_iff_ne]; omega
  have t9 : ((s[0].toNat : Int) == 244) = false := by rw [beq_eq_false_iff_ne]; omega
  have hv : signL s.data.toList = 0 := by
    rw [signL_eq s h0, hb0]
    unfold signN
    repeat' split
    all_goals omega
  rw [hv]
  have d : decide ((s.size : Int) < 3) = true := decide_eq_true (by omega)
  have d' : decide (s.size < 3) = true := decide_eq_true (by omega)
  clear hv hb0 hl hu
  go_enter Tryd.func63, Tryd.ntmps63
  go_wp2_with fail
  go_ret
  exact ⟨rfl, rfl⟩

set_option maxHeartbeats 4000000 in
set_option maxRecDepth 100000 in
theorem sign_c3_low (s : ByteArray) (hs : s.size ≤ 9223372036854775807) (h0 : 0 < s.size) (hl : 224 ≤ (s[0].toNat : Int)) (hu : (s[0].toNat : Int) ≤ 224) (hn : 3 ≤ s.size) (hb : ((s[1].toNat : Int) < 160)) (w : World) :
    Calls Tryd.prog 63 #[.string s] w fun e w' => e = .returned (.int .i64 (signL s.data.toList : Nat)) ∧ w = w' := by
  have hb0 : (s.data.toList.getD 0 0).toNat = s[0].toNat := by rw [getD_at s 0 h0]
  have hx0 : (s[0].toNat : Int) ≤ 255 := by have := (s[0]'h0).toNat_lt; omega
  have hz : ((s.size : Int) == 0) = false := by rw [beq_eq_false_iff_ne]; omega
  have t0 : decide ((s[0].toNat : Int) < 128) = false := decide_eq_false (by omega)
  have t1 : decide ((194 : Int) ≤ (s[0].toNat : Int)) = true := decide_eq_true (by omega)
  have t2 : decide ((s[0].toNat : Int) ≤ 223) = false := decide_eq_false (by omega)
  have t3 : decide ((224 : Int) ≤ (s[0].toNat : Int)) = true := decide_eq_true (by omega)
  have t4 : decide ((s[0].toNat : Int) ≤ 239) = true := decide_eq_true (by omega)
  have t5 : decide ((240 : Int) ≤ (s[0].toNat : Int)) = false := decide_eq_false (by omega)
  have t6 : ((s[0].toNat : Int) == 224) = true := by rw [beq_iff_eq]; omega
  have t7 : ((s[0].toNat : Int) == 237) = false := by rw [beq_eq_false_iff_ne]; omega
  have t8 : ((s[0].toNat : Int) == 240) = false := by rw [beq_eq_false_iff_ne]; omega
  have t9 : ((s[0].toNat : Int) == 244) = false := by rw [beq_eq_false_iff_ne]; omega
  have hb1 : (s.data.toList.getD 1 0).toNat = s[1].toNat := by rw [getD_at s 1 (by omega)]
  have hv : signL s.data.toList = 0 := by
    rw [signL_eq s h0, hb0, hb1]
    unfold signN
    repeat' split
    all_goals omega
  rw [hv]
  have d : decide ((s.size : Int) < 3) = false := decide_eq_false (by omega)
  have d' : decide (s.size < 3) = false := decide_eq_false (by omega)
  have hs1 : 1 < s.size := by omega
  have hx1 : (s[1].toNat : Int) ≤ 255 := by have := (s[1]'hs1).toNat_lt; omega
  have d1 : decide ((s[1].toNat : Int) < 160) = true := decide_eq_true hb
  clear hv hb0 hb1 hl hu hb hn
  go_enter Tryd.func63, Tryd.ntmps63
  go_wp2_with fail
  go_ret
  exact ⟨rfl, rfl⟩
end Go.Proofs.YtffoklhopmhjaaaDoor

/- moraineref03.Sign. -/
set_option linter.unusedSimpArgs false
set_option linter.unusedVariables false
namespace Go.Proofs.YtffoklhopmhjaaaDoor
open Go Go.RowKit Go.Shelf

/-- moraineref03.Sign, of any text -/
theorem sign_any (s : ByteArray) (hs : s.size ≤ 9223372036854775807) (w : World) :
    Calls Tryd.prog 63 #[.string s] w fun e w' => e = .returned (.int .i64 (signL s.data.toList : Nat)) ∧ w = w' := by
  by_cases h0 : 0 < s.size
  · have hb := (s[0]).toNat_lt
    by_cases k0 : (s[0].toNat : Int) ≤ 127
    · exact sign_c0 s hs h0 (by omega) k0 w
    by_cases k1 : (s[0].toNat : Int) ≤ 193
    · exact sign_c1 s hs h0 (by omega) k1 w
    by_cases k2 : (s[0].toNat : Int) ≤ 223
    · by_cases hn : s.size < 2
      · exact sign_c2_short s hs h0 (by omega) k2 hn w
      · by_cases ha : (s[1].toNat : Int) < 128
        · exact sign_c2_low s hs h0 (by omega) k2 (by omega) ha w
        · by_cases hh : 191 < (s[1].toNat : Int)
          · exact sign_c2_high s hs h0 (by omega) k2 (by omega) hh w
          · exact sign_c2_loop s hs h0 (by omega) k2 (by omega) (by omega) (by omega) w
    by_cases k3 : (s[0].toNat : Int) ≤ 224
    · by_cases hn : s.size < 3
      · exact sign_c3_short s hs h0 (by omega) k3 hn w
      · by_cases ha : (s[1].toNat : Int) < 160
        · exact sign_c3_low s hs h0 (by omega) k3 (by omega) ha w
        · by_cases hh : 191 < (s[1].toNat : Int)
          · exact sign_c3_high s hs h0 (by omega) k3 (by omega) hh w
          · exact sign_c3_loop s hs h0 (by omega) k3 (by omega) (by omega) (by omega) w
    by_cases k4 : (s[0].toNat : Int) ≤ 236
    · by_cases hn : s.size < 3
      · exact sign_c4_short s hs h0 (by omega) k4 hn w
      · by_cases ha : (s[1].toNat : Int) < 128
        · exact sign_c4_low s hs h0 (by omega) k4 (by omega) ha w
        · by_cases hh : 191 < (s[1].toNat : Int)
          · exact sign_c4_high s hs h0 (by omega) k4 (by omega) hh w
          · exact sign_c4_loop s hs h0 (by omega) k4 (by omega) (by omega) (by omega) w
    by_cases k5 : (s[0].toNat : Int) ≤ 237
    · by_cases hn : s.size < 3
      · exact sign_c5_short s hs h0 (by omega) k5 hn w
      · by_cases ha : (s[1].toNat : Int) < 128
        · exact sign_c5_low s hs h0 (by omega) k5 (by omega) ha w
        · by_cases hh : 159 < (s[1].toNat : Int)
          · exact sign_c5_high s hs h0 (by omega) k5 (by omega) hh w
          · exact sign_c5_loop s hs h0 (by omega) k5 (by omega) (by omega) (by omega) w
    by_cases k6 : (s[0].toNat : Int) ≤ 239
    · by_cases hn : s.size < 3
      · exact sign_c6_short s hs h0 (by omega) k6 hn w
      · by_cases ha : (s[1].toNat : Int) < 128
        · exact sign_c6_low s hs h0 (by omega) k6 (by omega) ha w
        · by_cases hh : 191 < (s[1].toNat : Int)
          · exact sign_c6_high s hs h0 (by omega) k6 (by omega) hh w
          · exact sign_c6_loop s hs h0 (by omega) k6 (by omega) (by omega) (by omega) w
    by_cases k7 : (s[0].toNat : Int) ≤ 240
    · by_cases hn : s.size < 4
      · exact sign_c7_short s hs h0 (by omega) k7 hn w
      · by_cases ha : (s[1].toNat : Int) < 144
        · exact sign_c7_low s hs h0 (by omega) k7 (by omega) ha w
        · by_cases hh : 191 < (s[1].toNat : Int)
          · exact sign_c7_high s hs h0 (by omega) k7 (by omega) hh w
          · exact sign_c7_loop s hs h0 (by omega) k7 (by omega) (by omega) (by omega) w
    by_cases k8 : (s[0].toNat : Int) ≤ 243
    · by_cases hn : s.size < 4
      · exact sign_c8_short s hs h0 (by omega) k8 hn w
      · by_cases ha : (s[1].toNat : Int) < 128
        · exact sign_c8_low s hs h0 (by omega) k8 (by omega) ha w
        · by_cases hh : 191 < (s[1].toNat : Int)
          · exact sign_c8_high s hs h0 (by omega) k8 (by omega) hh w
          · exact sign_c8_loop s hs h0 (by omega) k8 (by omega) (by omega) (by omega) w
    by_cases k9 : (s[0].toNat : Int) ≤ 244
    · by_cases hn : s.size < 4
      · exact sign_c9_short s hs h0 (by omega) k9 hn w
      · by_cases ha : (s[1].toNat : Int) < 128
        · exact sign_c9_low s hs h0 (by omega) k9 (by omega) ha w
        · by_cases hh : 143 < (s[1].toNat : Int)
          · exact sign_c9_high s hs h0 (by omega) k9 (by omega) hh w
          · exact sign_c9_loop s hs h0 (by omega) k9 (by omega) (by omega) (by omega) w
    by_cases k10 : (s[0].toNat : Int) ≤ 255
    · exact sign_c10 s hs h0 (by omega) k10 w
    exfalso; omega
  · exact sign_empty s (by omega) w
end Go.Proofs.YtffoklhopmhjaaaDoor

/- moraineref03.IsText. -/
set_option linter.unusedSimpArgs false
set_option linter.unusedVariables false
namespace Go.Proofs.YtffoklhopmhjaaaDoor
open Go Go.RowKit Go.Shelf

theorem extract_toList' (s : ByteArray) (a b : Nat) : (s.extract a b).data.toList = (s.data.toList.drop a).take (b - a) := by
  rw [← Lib.toList_data, Lib.extract_toList]
theorem extract_end (s : ByteArray) (a : Nat) : (s.extract a s.size).data.toList = s.data.toList.drop a := by
  rw [extract_toList', List.take_of_length_le (by simp)]
theorem textOk_at (s : ByteArray) (k : Nat) (h : k < s.size) : textOk (s.data.toList.drop k) = if signL (s.data.toList.drop k) = 0 ∨ (s[k].toNat : Int) < 32 ∨ (s[k].toNat : Int) = 127 then false else textOk (s.data.toList.drop (k + signL (s.data.toList.drop k))) := by
  have h' : k < s.data.toList.length := by simpa using h
  have hd : s.data.toList.drop k = s[k] :: s.data.toList.drop (k + 1) := by rw [List.drop_eq_getElem_cons h']; rfl
  have hne : s.data.toList.drop k ≠ [] := by rw [hd]; simp
  rw [textOk_step _ hne, List.drop_drop]
  have e : ((s.data.toList.drop k).getD 0 0).toNat = s[k].toNat := by rw [hd]; rfl
  rw [e]
  by_cases hs : signL (s.data.toList.drop k) = 0 ∨ (s[k].toNat : Int) < 32 ∨ (s[k].toNat : Int) = 127
  · rw [if_pos hs, if_pos (by omega)]
  · rw [if_neg hs, if_neg (by omega)]

set_option maxHeartbeats 4000000 in
set_option maxRecDepth 100000 in
theorem isText_any (s : ByteArray) (hs : s.size ≤ 9223372036854775800) (w : World) :
    Calls Tryd.prog 49 #[.string s] w fun e w' => e = .returned (.bool (textOk s.data.toList)) ∧ w = w' := by
  generalize hr : textOk s.data.toList = r
  have HR := Lib.hid hr
  clear hr
  go_enter Tryd.func49, Tryd.ntmps49
  go_wp2_with fail
  go_loopw [3] (fun i wr => ∃ k : Nat, k ≤ s.size ∧ i = .int .i64 (k : Int) ∧ textOk (s.data.toList.drop k) = r ∧ w = wr) (fun i _ => s.size - (intOf i).toNat)
  case atStart => exact ⟨0, by omega, rfl, HR.out, rfl⟩
  case round =>
    obtain ⟨k, hk, rfl, ht, rfl⟩ := hrel
    have HT := Lib.hid ht
    clear ht
    by_cases hlt : k < s.size
    · have hst := textOk_at s k hlt
      have hsz : (s.extract k s.size).size ≤ 9223372036854775807 := by rw [ByteArray.size_extract]; omega
      have hcall := fun w => sign_any (s.extract k s.size) hsz w
      rw [extract_end] at hcall
      have hle : signL (s.data.toList.drop k) ≤ 4 := signL_le _
      have hle2 : signL (s.data.toList.drop k) ≤ s.size - k := by
        by_cases hz : signL (s.data.toList.drop k) = 0
        · omega
        · have := (signL_pos _ hz).2.1
          simpa using this
      generalize signL (s.data.toList.drop k) = n at hst hcall hle hle2
      rw [HT.out] at hst
      have HST := Lib.hid hst
      have HC := Lib.hid hcall
      clear hst hcall hsz
      have hx : (s[k].toNat : Int) ≤ 255 := by have := (s[k]'hlt).toNat_lt; omega
      by_cases h0 : n = 0
      · have d1 : ((n : Int) == 0) = true := by rw [beq_iff_eq]; omega
        have hz : r = false := by rw [HST.out, if_pos (.inl h0)]
        have HZ := Lib.hid hz
        clear hz h0
        go_wp2_with (go_at_call 63; refine (HC.out _).mono ?_; rintro e w1 ⟨rfl, rfl⟩)
        go_ret
        exact ⟨by rw [HZ.out]; rfl, rfl⟩
      · have d1 : ((n : Int) == 0) = false := by rw [beq_eq_false_iff_ne]; omega
        by_cases h1 : (s[k].toNat : Int) < 32
        · have d2 : decide ((s[k].toNat : Int) < 32) = true := decide_eq_true h1
          have hz : r = false := by rw [HST.out, if_pos (.inr (.inl h1))]
          have HZ := Lib.hid hz
          clear hz
          go_wp2_with (go_at_call 63; refine (HC.out _).mono ?_; rintro e w1 ⟨rfl, rfl⟩)
          go_ret
          exact ⟨by rw [HZ.out]; rfl, rfl⟩
        · have d2 : decide ((s[k].toNat : Int) < 32) = false := decide_eq_false h1
          by_cases h2 : (s[k].toNat : Int) = 127
          · have d3 : ((s[k].toNat : Int) == 127) = true := by rw [beq_iff_eq]; exact h2
            have hz : r = false := by rw [HST.out, if_pos (.inr (.inr h2))]
            have HZ := Lib.hid hz
            clear hz h2
            go_wp2_with (go_at_call 63; refine (HC.out _).mono ?_; rintro e w1 ⟨rfl, rfl⟩)
            go_ret
            exact ⟨by rw [HZ.out]; rfl, rfl⟩
          · have d3 : ((s[k].toNat : Int) == 127) = false := by rw [beq_eq_false_iff_ne]; exact h2
            have hz : textOk (s.data.toList.drop (k + n)) = r := by
              have := HST.out
              rw [if_neg (by omega)] at this
              exact this.symm
            have HZ := Lib.hid hz
            clear hz h2
            go_wp2_with (go_at_call 63; refine (HC.out _).mono ?_; rintro e w1 ⟨rfl, rfl⟩)
            exact ⟨⟨k + n, by omega, by go_num, HZ.out, by trivial⟩, by simp [intOf]; omega⟩
    · obtain rfl : k = s.size := by omega
      have hz : r = true := by
        rw [← HT.out, List.drop_eq_nil_of_le (by simp)]; rfl
      have HZ := Lib.hid hz
      clear hz
      go_wp2_with fail
      go_ret
      exact ⟨by rw [HZ.out]; rfl, rfl⟩

end Go.Proofs.YtffoklhopmhjaaaDoor

/- moraineref03.Right. -/
set_option linter.unusedSimpArgs false
set_option linter.unusedVariables false
namespace Go.Proofs.YtffoklhopmhjaaaDoor
open Go Go.RowKit Go.Shelf

set_option maxHeartbeats 4000000 in
set_option maxRecDepth 100000 in
theorem rright_nil (n : Int) (s : ByteArray) (p : Option Addr) (m c : Nat) (w : World) :
    Calls Tryd.prog 26 #[valV 0 n s (.slice p m c)] w fun e w' => e = .returned (.bool (decide (n = 0 ∧ s.size = 0 ∧ m = 0))) ∧ Below w.heap.size w w' := by
  generalize hr : decide (n = 0 ∧ s.size = 0 ∧ m = 0) = r
  have HR := Lib.hid hr; clear hr
  have hb : Below w.heap.size w (w.alloc (.cells #[.int .i64 0, .int .i64 n, .string s, .slice p m c] 31)) := (Below.refl _ _).alloc (Nat.le_refl _) _
  obtain ⟨⟨c0, c1, c2, c3⟩, _⟩ := (VBox.new w 0 n s (.slice p m c)).facts
  go_enter Tryd.func26, Tryd.ntmps26
  by_cases hn : n = 0
  · skip
    have d1 : (n == 0) = true := by rw [beq_iff_eq]; omega
    by_cases hs : s.size = 0
    · skip
      have d2 : s.toList = [] := (toList_nil s).2 hs
      by_cases hm : m = 0
      · skip
        have d3 : ((m : Int) == 0) = true := by rw [beq_iff_eq]; omega
        go_wp2
        go_ret
        exact ⟨congrArg (fun b => Ending.returned (Value.bool b)) (by rw [← HR.out]; first | exact (decide_eq_true (by omega)).symm | exact (decide_eq_false (by omega)).symm), (Below.refl _ _).alloc (Nat.le_refl _) _⟩
      · skip
        have d3 : ((m : Int) == 0) = false := by rw [beq_eq_false_iff_ne]; omega
        go_wp2
        go_ret
        exact ⟨congrArg (fun b => Ending.returned (Value.bool b)) (by rw [← HR.out]; first | exact (decide_eq_true (by omega)).symm | exact (decide_eq_false (by omega)).symm), (Below.refl _ _).alloc (Nat.le_refl _) _⟩
    · skip
      have d2 : ¬ s.toList = [] := fun h => hs ((toList_nil s).1 h)
      go_wp2
      go_ret
      exact ⟨congrArg (fun b => Ending.returned (Value.bool b)) (by rw [← HR.out]; first | exact (decide_eq_true (by omega)).symm | exact (decide_eq_false (by omega)).symm), (Below.refl _ _).alloc (Nat.le_refl _) _⟩
  · skip
    have d1 : (n == 0) = false := by rw [beq_eq_false_iff_ne]; omega
    go_wp2
    go_ret
    exact ⟨congrArg (fun b => Ending.returned (Value.bool b)) (by rw [← HR.out]; first | exact (decide_eq_true (by omega)).symm | exact (decide_eq_false (by omega)).symm), (Below.refl _ _).alloc (Nat.le_refl _) _⟩

set_option maxHeartbeats 4000000 in
set_option maxRecDepth 100000 in
theorem rright_num (n : Int) (s : ByteArray) (p : Option Addr) (m c : Nat) (w : World) :
    Calls Tryd.prog 26 #[valV 1 n s (.slice p m c)] w fun e w' => e = .returned (.bool (decide ((-1000000000000000 ≤ n ∧ n ≤ 1000000000000000) ∧ s.size = 0 ∧ m = 0))) ∧ Below w.heap.size w w' := by
  generalize hr : decide ((-1000000000000000 ≤ n ∧ n ≤ 1000000000000000) ∧ s.size = 0 ∧ m = 0) = r
  have HR := Lib.hid hr; clear hr
  have hb : Below w.heap.size w (w.alloc (.cells #[.int .i64 1, .int .i64 n, .string s, .slice p m c] 31)) := (Below.refl _ _).alloc (Nat.le_refl _) _
  obtain ⟨⟨c0, c1, c2, c3⟩, _⟩ := (VBox.new w 1 n s (.slice p m c)).facts
  go_enter Tryd.func26, Tryd.ntmps26
  by_cases h1 : -1000000000000000 ≤ n
  · skip
    by_cases h2 : n ≤ 1000000000000000
    · skip
      by_cases hs : s.size = 0
      · skip
        have d2 : s.toList = [] := (toList_nil s).2 hs
        by_cases hm : m = 0
        · skip
          have d3 : ((m : Int) == 0) = true := by rw [beq_iff_eq]; omega
          go_wp2
          go_ret
          exact ⟨congrArg (fun b => Ending.returned (Value.bool b)) (by rw [← HR.out]; first | exact (decide_eq_true (by omega)).symm | exact (decide_eq_false (by omega)).symm), (Below.refl _ _).alloc (Nat.le_refl _) _⟩
        · skip
          have d3 : ((m : Int) == 0) = false := by rw [beq_eq_false_iff_ne]; omega
          go_wp2
          go_ret
          exact ⟨congrArg (fun b => Ending.returned (Value.bool b)) (by rw [← HR.out]; first | exact (decide_eq_true (by omega)).symm | exact (decide_eq_false (by omega)).symm), (Below.refl _ _).alloc (Nat.le_refl _) _⟩
      · skip
        have d2 : ¬ s.toList = [] := fun h => hs ((toList_nil s).1 h)
        go_wp2
        go_ret
        exact ⟨congrArg (fun b => Ending.returned (Value.bool b)) (by rw [← HR.out]; first | exact (decide_eq_true (by omega)).symm | exact (decide_eq_false (by omega)).symm), (Below.refl _ _).alloc (Nat.le_refl _) _⟩
    · skip
      go_wp2
      go_ret
      exact ⟨congrArg (fun b => Ending.returned (Value.bool b)) (by rw [← HR.out]; first | exact (decide_eq_true (by omega)).symm | exact (decide_eq_false (by omega)).symm), (Below.refl _ _).alloc (Nat.le_refl _) _⟩
  · skip
    go_wp2
    go_ret
    exact ⟨congrArg (fun b => Ending.returned (Value.bool b)) (by rw [← HR.out]; first | exact (decide_eq_true (by omega)).symm | exact (decide_eq_false (by omega)).symm), (Below.refl _ _).alloc (Nat.le_refl _) _⟩

set_option maxHeartbeats 4000000 in
set_option maxRecDepth 100000 in
theorem rright_ref (n : Int) (s : ByteArray) (p : Option Addr) (m c : Nat) (w : World) :
    Calls Tryd.prog 26 #[valV 3 n s (.slice p m c)] w fun e w' => e = .returned (.bool (decide ((1 ≤ n ∧ n ≤ 100000 ∨ -20 ≤ n ∧ n ≤ -1) ∧ s.size = 0 ∧ m = 0))) ∧ Below w.heap.size w w' := by
  generalize hr : decide ((1 ≤ n ∧ n ≤ 100000 ∨ -20 ≤ n ∧ n ≤ -1) ∧ s.size = 0 ∧ m = 0) = r
  have HR := Lib.hid hr; clear hr
  have hb : Below w.heap.size w (w.alloc (.cells #[.int .i64 3, .int .i64 n, .string s, .slice p m c] 31)) := (Below.refl _ _).alloc (Nat.le_refl _) _
  obtain ⟨⟨c0, c1, c2, c3⟩, _⟩ := (VBox.new w 3 n s (.slice p m c)).facts
  go_enter Tryd.func26, Tryd.ntmps26
  by_cases h1 : 1 ≤ n
  · skip
    by_cases h2 : n ≤ 100000
    · skip
      by_cases hs : s.size = 0
      · skip
        have d2 : s.toList = [] := (toList_nil s).2 hs
        by_cases hm : m = 0
        · skip
          have d3 : ((m : Int) == 0) = true := by rw [beq_iff_eq]; omega
          go_wp2
          go_ret
          exact ⟨congrArg (fun b => Ending.returned (Value.bool b)) (by rw [← HR.out]; first | exact (decide_eq_true (by omega)).symm | exact (decide_eq_false (by omega)).symm), (Below.refl _ _).alloc (Nat.le_refl _) _⟩
        · skip
          have d3 : ((m : Int) == 0) = false := by rw [beq_eq_false_iff_ne]; omega
          go_wp2
          go_ret
          exact ⟨congrArg (fun b => Ending.returned (Value.bool b)) (by rw [← HR.out]; first | exact (decide_eq_true (by omega)).symm | exact (decide_eq_false (by omega)).symm), (Below.refl _ _).alloc (Nat.le_refl _) _⟩
      · skip
        have d2 : ¬ s.toList = [] := fun h => hs ((toList_nil s).1 h)
        go_wp2
        go_ret
        exact ⟨congrArg (fun b => Ending.returned (Value.bool b)) (by rw [← HR.out]; first | exact (decide_eq_true (by omega)).symm | exact (decide_eq_false (by omega)).symm), (Below.refl _ _).alloc (Nat.le_refl _) _⟩
    · skip
      by_cases h3 : -20 ≤ n
      · skip
        by_cases h4 : n ≤ -1
        · skip
          exfalso; omega
        · skip
          go_wp2
          go_ret
          exact ⟨congrArg (fun b => Ending.returned (Value.bool b)) (by rw [← HR.out]; first | exact (decide_eq_true (by omega)).symm | exact (decide_eq_false (by omega)).symm), (Below.refl _ _).alloc (Nat.le_refl _) _⟩
      · skip
        exfalso; omega
  · skip
    by_cases h3 : -20 ≤ n
    · skip
      by_cases h4 : n ≤ -1
      · skip
        by_cases hs : s.size = 0
        · skip
          have d2 : s.toList = [] := (toList_nil s).2 hs
          by_cases hm : m = 0
          · skip
            have d3 : ((m : Int) == 0) = true := by rw [beq_iff_eq]; omega
            go_wp2
            go_ret
            exact ⟨congrArg (fun b => Ending.returned (Value.bool b)) (by rw [← HR.out]; first | exact (decide_eq_true (by omega)).symm | exact (decide_eq_false (by omega)).symm), (Below.refl _ _).alloc (Nat.le_refl _) _⟩
          · skip
            have d3 : ((m : Int) == 0) = false := by rw [beq_eq_false_iff_ne]; omega
            go_wp2
            go_ret
            exact ⟨congrArg (fun b => Ending.returned (Value.bool b)) (by rw [← HR.out]; first | exact (decide_eq_true (by omega)).symm | exact (decide_eq_false (by omega)).symm), (Below.refl _ _).alloc (Nat.le_refl _) _⟩
        · skip
          have d2 : ¬ s.toList = [] := fun h => hs ((toList_nil s).1 h)
          go_wp2
          go_ret
          exact ⟨congrArg (fun b => Ending.returned (Value.bool b)) (by rw [← HR.out]; first | exact (decide_eq_true (by omega)).symm | exact (decide_eq_false (by omega)).symm), (Below.refl _ _).alloc (Nat.le_refl _) _⟩
      · skip
        go_wp2
        go_ret
        exact ⟨congrArg (fun b => Ending.returned (Value.bool b)) (by rw [← HR.out]; first | exact (decide_eq_true (by omega)).symm | exact (decide_eq_false (by omega)).symm), (Below.refl _ _).alloc (Nat.le_refl _) _⟩
    · skip
      go_wp2
      go_ret
      exact ⟨congrArg (fun b => Ending.returned (Value.bool b)) (by rw [← HR.out]; first | exact (decide_eq_true (by omega)).symm | exact (decide_eq_false (by omega)).symm), (Below.refl _ _).alloc (Nat.le_refl _) _⟩

set_option maxHeartbeats 4000000 in
set_option maxRecDepth 100000 in
theorem rright_weak (n : Int) (s : ByteArray) (p : Option Addr) (m c : Nat) (w : World) :
    Calls Tryd.prog 26 #[valV 4 n s (.slice p m c)] w fun e w' => e = .returned (.bool (decide ((1 ≤ n ∧ n ≤ 100000 ∨ -20 ≤ n ∧ n ≤ -1) ∧ s.size = 0 ∧ m = 0))) ∧ Below w.heap.size w w' := by
  generalize hr : decide ((1 ≤ n ∧ n ≤ 100000 ∨ -20 ≤ n ∧ n ≤ -1) ∧ s.size = 0 ∧ m = 0) = r
  have HR := Lib.hid hr; clear hr
  have hb : Below w.heap.size w (w.alloc (.cells #[.int .i64 4, .int .i64 n, .string s, .slice p m c] 31)) := (Below.refl _ _).alloc (Nat.le_refl _) _
  obtain ⟨⟨c0, c1, c2, c3⟩, _⟩ := (VBox.new w 4 n s (.slice p m c)).facts
  go_enter Tryd.func26, Tryd.ntmps26
  by_cases h1 : 1 ≤ n
  · skip
    by_cases h2 : n ≤ 100000
    · skip
      by_cases hs : s.size = 0
      · skip
        have d2 : s.toList = [] := (toList_nil s).2 hs
        by_cases hm : m = 0
        · skip
          have d3 : ((m : Int) == 0) = true := by rw [beq_iff_eq]; omega
          go_wp2
          go_ret
          exact ⟨congrArg (fun b => Ending.returned (Value.bool b)) (by rw [← HR.out]; first | exact (decide_eq_true (by omega)).symm | exact (decide_eq_false (by omega)).symm), (Below.refl _ _).alloc (Nat.le_refl _) _⟩
        · skip
          have d3 : ((m : Int) == 0) = false := by rw [beq_eq_false_iff_ne]; omega
          go_wp2
          go_ret
          exact ⟨congrArg (fun b => Ending.returned (Value.bool b)) (by rw [← HR.out]; first | exact (decide_eq_true (by omega)).symm | exact (decide_eq_false (by omega)).symm), (Below.refl _ _).alloc (Nat.le_refl _) _⟩
      · skip
        have d2 : ¬ s.toList = [] := fun h => hs ((toList_nil s).1 h)
        go_wp2
        go_ret
        exact ⟨congrArg (fun b => Ending.returned (Value.bool b)) (by rw [← HR.out]; first | exact (decide_eq_true (by omega)).symm | exact (decide_eq_false (by omega)).symm), (Below.refl _ _).alloc (Nat.le_refl _) _⟩
    · skip
      by_cases h3 : -20 ≤ n
      · skip
        by_cases h4 : n ≤ -1
        · skip
          exfalso; omega
        · skip
          go_wp2
          go_ret
          exact ⟨congrArg (fun b => Ending.returned (Value.bool b)) (by rw [← HR.out]; first | exact (decide_eq_true (by omega)).symm | exact (decide_eq_false (by omega)).symm), (Below.refl _ _).alloc (Nat.le_refl _) _⟩
      · skip
        exfalso; omega
  · skip
    by_cases h3 : -20 ≤ n
    · skip
      by_cases h4 : n ≤ -1
      · skip
        by_cases hs : s.size = 0
        · skip
          have d2 : s.toList = [] := (toList_nil s).2 hs
          by_cases hm : m = 0
          · skip
            have d3 : ((m : Int) == 0) = true := by rw [beq_iff_eq]; omega
            go_wp2
            go_ret
            exact ⟨congrArg (fun b => Ending.returned (Value.bool b)) (by rw [← HR.out]; first | exact (decide_eq_true (by omega)).symm | exact (decide_eq_false (by omega)).symm), (Below.refl _ _).alloc (Nat.le_refl _) _⟩
          · skip
            have d3 : ((m : Int) == 0) = false := by rw [beq_eq_false_iff_ne]; omega
            go_wp2
            go_ret
            exact ⟨congrArg (fun b => Ending.returned (Value.bool b)) (by rw [← HR.out]; first | exact (decide_eq_true (by omega)).symm | exact (decide_eq_false (by omega)).symm), (Below.refl _ _).alloc (Nat.le_refl _) _⟩
        · skip
          have d2 : ¬ s.toList = [] := fun h => hs ((toList_nil s).1 h)
          go_wp2
          go_ret
          exact ⟨congrArg (fun b => Ending.returned (Value.bool b)) (by rw [← HR.out]; first | exact (decide_eq_true (by omega)).symm | exact (decide_eq_false (by omega)).symm), (Below.refl _ _).alloc (Nat.le_refl _) _⟩
      · skip
        go_wp2
        go_ret
        exact ⟨congrArg (fun b => Ending.returned (Value.bool b)) (by rw [← HR.out]; first | exact (decide_eq_true (by omega)).symm | exact (decide_eq_false (by omega)).symm), (Below.refl _ _).alloc (Nat.le_refl _) _⟩
    · skip
      go_wp2
      go_ret
      exact ⟨congrArg (fun b => Ending.returned (Value.bool b)) (by rw [← HR.out]; first | exact (decide_eq_true (by omega)).symm | exact (decide_eq_false (by omega)).symm), (Below.refl _ _).alloc (Nat.le_refl _) _⟩

set_option maxHeartbeats 4000000 in
set_option maxRecDepth 100000 in
theorem rright_other (k n : Int) (hk : k ≠ 0 ∧ k ≠ 1 ∧ k ≠ 2 ∧ k ≠ 3 ∧ k ≠ 4 ∧ k ≠ 5) (s : ByteArray) (p : Option Addr) (m c : Nat) (w : World) :
    Calls Tryd.prog 26 #[valV k n s (.slice p m c)] w fun e w' => e = .returned (.bool false) ∧ Below w.heap.size w w' := by
  obtain ⟨k0, k1, k2, k3, k4, k5⟩ := hk
  have d0 : (k == 0) = false := by rw [beq_eq_false_iff_ne]; omega
  have d1 : (k == 1) = false := by rw [beq_eq_false_iff_ne]; omega
  have d2 : (k == 2) = false := by rw [beq_eq_false_iff_ne]; omega
  have d3 : (k == 3) = false := by rw [beq_eq_false_iff_ne]; omega
  have d4 : (k == 4) = false := by rw [beq_eq_false_iff_ne]; omega
  have d5 : (k == 5) = false := by rw [beq_eq_false_iff_ne]; omega
  have hb : Below w.heap.size w (w.alloc (.cells #[.int .i64 k, .int .i64 n, .string s, .slice p m c] 31)) := (Below.refl _ _).alloc (Nat.le_refl _) _
  obtain ⟨⟨c0, c1, c2, c3⟩, _⟩ := (VBox.new w k n s (.slice p m c)).facts
  go_enter Tryd.func26, Tryd.ntmps26
  go_wp2
  go_ret
  exact ⟨rfl, (Below.refl _ _).alloc (Nat.le_refl _) _⟩

set_option maxHeartbeats 4000000 in
set_option maxRecDepth 100000 in
theorem rright_text (n : Int) (s : ByteArray) (hsz : s.size ≤ 9223372036854775800) (p : Option Addr) (m c : Nat) (w : World) :
    Calls Tryd.prog 26 #[valV 2 n s (.slice p m c)] w fun e w' => e = .returned (.bool (decide (n = 0 ∧ (s.size ≤ 60 ∧ textOk s.data.toList = true) ∧ m = 0))) ∧ Below w.heap.size w w' := by
  generalize hr : decide (n = 0 ∧ (s.size ≤ 60 ∧ textOk s.data.toList = true) ∧ m = 0) = r
  have HR := Lib.hid hr; clear hr
  have hit := fun W => isText_any s hsz W
  generalize ht : textOk s.data.toList = t
  rw [ht] at hit
  have HTX := Lib.hid ht
  have HIT := Lib.hid hit
  clear ht hit
  have hb : Below w.heap.size w (w.alloc (.cells #[.int .i64 2, .int .i64 n, .string s, .slice p m c] 31)) := (Below.refl _ _).alloc (Nat.le_refl _) _
  obtain ⟨⟨c0, c1, c2, c3⟩, _⟩ := (VBox.new w 2 n s (.slice p m c)).facts
  go_enter Tryd.func26, Tryd.ntmps26
  go_wp2_with fail
  refine (HIT.out _).mono ?_
  rintro e W1 ⟨rfl, rfl⟩
  by_cases hn : n = 0
  · have d1 : (n == 0) = true := by rw [beq_iff_eq]; omega
    cases t with
    | false =>
      go_wp2
      go_ret
      exact ⟨congrArg (fun b => Ending.returned (Value.bool b)) (by rw [← HR.out, HTX.out]; exact (decide_eq_false (fun h => Bool.noConfusion h.2.1.2)).symm), (Below.refl _ _).alloc (Nat.le_refl _) _⟩
    | true =>
      by_cases h1 : s.size ≤ 60
      · have h1' : (s.size : Int) ≤ 60 := by omega
        by_cases hm : m = 0
        · have d3 : ((m : Int) == 0) = true := by rw [beq_iff_eq]; omega
          go_wp2
          go_ret
          exact ⟨congrArg (fun b => Ending.returned (Value.bool b)) (by rw [← HR.out, HTX.out]; exact (decide_eq_true ⟨hn, ⟨h1, rfl⟩, hm⟩).symm), (Below.refl _ _).alloc (Nat.le_refl _) _⟩
        · have d3 : ((m : Int) == 0) = false := by rw [beq_eq_false_iff_ne]; omega
          go_wp2
          go_ret
          exact ⟨congrArg (fun b => Ending.returned (Value.bool b)) (by rw [← HR.out]; exact (decide_eq_false (fun h => hm h.2.2)).symm), (Below.refl _ _).alloc (Nat.le_refl _) _⟩
      · have h1' : ¬ (s.size : Int) ≤ 60 := by omega
        go_wp2
        go_ret
        exact ⟨congrArg (fun b => Ending.returned (Value.bool b)) (by rw [← HR.out]; exact (decide_eq_false (fun h => h1 h.2.1.1)).symm), (Below.refl _ _).alloc (Nat.le_refl _) _⟩
  · have d1 : (n == 0) = false := by rw [beq_eq_false_iff_ne]; omega
    go_wp2
    go_ret
    exact ⟨congrArg (fun b => Ending.returned (Value.bool b)) (by rw [← HR.out]; exact (decide_eq_false (fun h => hn h.1)).symm), (Below.refl _ _).alloc (Nat.le_refl _) _⟩

theorem rright_flat (k n : Int) (hk : k ≠ 5) (s : ByteArray) (hsz : s.size ≤ 9223372036854775800) (p : Option Addr) (m c : Nat) (w : World) :
    Calls Tryd.prog 26 #[valV k n s (.slice p m c)] w fun e w' => e = .returned (.bool (flatOk k n s m)) ∧ Below w.heap.size w w' := by
  by_cases h0 : k = 0
  · subst h0; exact rright_nil n s p m c w
  by_cases h1 : k = 1
  · subst h1; exact rright_num n s p m c w
  by_cases h2 : k = 2
  · subst h2; exact rright_text n s hsz p m c w
  by_cases h3 : k = 3
  · subst h3; exact rright_ref n s p m c w
  by_cases h4 : k = 4
  · subst h4; exact rright_weak n s p m c w
  have : flatOk k n s m = false := by
    unfold flatOk
    rw [if_neg h0, if_neg h1, if_neg h2, if_neg (by omega)]
  rw [this]
  exact rright_other k n ⟨h0, h1, h2, h3, h4, hk⟩ s p m c w

set_option maxHeartbeats 4000000 in
set_option maxRecDepth 100000 in
theorem rright_list (n : Int) (s : ByteArray) (p : Option Addr) (c : Nat) (xs : List It) (hs : ∀ x ∈ xs, x.s.size ≤ 9223372036854775800) (w : World) (h : Lies w (.slice p xs.length c) xs.length 4 (itsCells xs)) :
    Calls Tryd.prog 26 #[valV 5 n s (.slice p xs.length c)] w fun e w' => e = .returned (.bool (decide (n = 0 ∧ s.size = 0) && listOk xs)) ∧ Below w.heap.size w w' := by
  generalize hr : (decide (n = 0 ∧ s.size = 0) && listOk xs) = r
  have HR := Lib.hid hr; clear hr
  have HL := Lib.hid h; clear h
  have HS := Lib.hid hs; clear hs
  have hb : Below w.heap.size w (w.alloc (.cells #[.int .i64 5, .int .i64 n, .string s, .slice p xs.length c] 31)) := (Below.refl _ _).alloc (Nat.le_refl _) _
  have hV := VBox.new w 5 n s (.slice p xs.length c)
  obtain ⟨⟨c0, c1, c2, c3⟩, _⟩ := hV.facts
  have HV := Lib.hid hV; clear hV
  go_enter Tryd.func26, Tryd.ntmps26
  by_cases hn : n = 0
  · subst hn
    have d1 : ((0 : Int) != 0) = false := rfl
    by_cases hs : s.size = 0
    · have d2 : s.toList = [] := (toList_nil s).2 hs
      by_cases hl : xs.length ≤ 12
      · have d3 : ¬ (12 : Int) < (xs.length : Int) := by omega
        go_wp2_with fail
        clear c0 c1 c2 c3
        go_loopw [4] (fun i wr => ∃ k : Nat, k ≤ xs.length ∧ i = .int .i64 (k : Int) ∧ (xs.take k).all itemOk = true ∧ Below w.heap.size w wr ∧ VBox wr w.heap.size 5 0 s (.slice p xs.length c)) (fun i _ => xs.length - (intOf i).toNat)
        case atStart => exact ⟨0, by omega, rfl, rfl, hb, HV.out⟩
        case round =>
          obtain ⟨k, hk, rfl, he, hB, hV⟩ := hrel
          have HE := Lib.hid he; clear he
          obtain ⟨⟨c0, c1, c2, c3⟩, _⟩ := hV.facts
          have hz : w.heap.size + 1 ≤ wr.heap.size := hV.lt
          have HVV := Lib.hid hV; clear hV
          by_cases hlt : k < xs.length
          · have e0 : (0 : Int) ≤ (k : Int) := by omega
            have e1 : (k : Int) < (xs.length : Int) := by omega
            have e2 : decide ((k : Int) < (xs.length : Int)) = true := decide_eq_true e1
            obtain ⟨b, off, rfl, hbb, hc⟩ := HL.out.at (by omega)
            have hcx : ∀ (j : Nat) (u : Value), ((xs[k]'hlt).cells)[j]? = some u → wr.cell? ⟨b, off + k * 4 + j, none⟩ = some u := fun j u hu => by
              rw [hB.cell (p := ⟨b, off + k * 4 + j, none⟩) hbb, Nat.add_assoc]
              exact hc _ _ (itsCells_at xs k hlt j u hu)
            have hsx := HS.out _ (List.getElem_mem hlt)
            have htk := fun h => all_take_succ hlt HE.out h
            have hfl := fun h => all_false (xs := xs) hlt h
            generalize xs[k]'hlt = x at hcx hsx htk hfl
            obtain ⟨xk, xn, xs', xp, xm, xc⟩ := x
            simp only at hsx
            have z0 : wr.cell? ⟨b, off + k * 4, none⟩ = some (.int .i64 xk) := hcx 0 _ rfl
            have z1 := hcx 1 _ rfl
            have z2 := hcx 2 _ rfl
            have z3 := hcx 3 _ rfl
            clear hcx hc
            by_cases h5 : xk = 5
            · have d5 : (xk == 5) = true := by rw [beq_iff_eq]; exact h5
              have hR : r = false := by
                rw [← HR.out]
                unfold listOk
                rw [hfl (by simp [itemOk, h5])]
                simp
              have HRF := Lib.hid hR; clear hR hfl htk h5
              go_wp2_with fail
              go_ret
              exact ⟨by rw [HRF.out]; rfl, hB⟩
            · have d5 : (xk == 5) = false := by rw [beq_eq_false_iff_ne]; exact h5
              have hit : itemOk ⟨xk, xn, xs', xp, xm, xc⟩ = flatOk xk xn xs' xm := by simp [itemOk, h5]
              have hcall := fun W => rright_flat xk xn h5 xs' hsx xp xm xc W
              rw [hit] at htk hfl
              generalize hF : flatOk xk xn xs' xm = F at hcall htk hfl
              have HC := Lib.hid hcall
              have HTK := Lib.hid htk
              have HFL := Lib.hid hfl
              have HB := Lib.hid hB
              clear hit hcall htk hfl h5 hB hF
              go_wp2_with fail
              refine (HC.out _).mono ?_
              rintro e W ⟨rfl, hB2⟩
              have hBW := HB.out.trans (hB2.mono (by omega))
              have hVW := HVV.out.below hB2
              cases F with
              | true =>
                have htk := HTK.out rfl
                have HTK2 := Lib.hid htk; clear htk
                go_wp2_with fail
                exact ⟨⟨k + 1, by omega, by go_num, HTK2.out, hBW, hVW⟩, by simp [intOf]; omega⟩
              | false =>
                have hR : r = false := by
                  rw [← HR.out]
                  unfold listOk
                  rw [HFL.out rfl]
                  simp
                have HRF := Lib.hid hR; clear hR
                go_wp2_with fail
                go_ret
                exact ⟨by rw [HRF.out]; rfl, hBW⟩
          · obtain rfl : k = xs.length := by omega
            have e2 : decide ((xs.length : Int) < (xs.length : Int)) = false := decide_eq_false (by omega)
            have hR : r = true := by
              rw [← HR.out]
              unfold listOk
              have := HE.out
              rw [List.take_of_length_le (Nat.le_refl _)] at this
              rw [this, decide_eq_true hl, decide_eq_true ⟨by trivial, hs⟩]; rfl
            have HRT := Lib.hid hR; clear hR
            go_wp2_with fail
            go_ret
            exact ⟨by rw [HRT.out]; rfl, hB⟩
      · have d3 : (12 : Int) < (xs.length : Int) := by omega
        go_wp2
        go_ret
        exact ⟨congrArg (fun b => Ending.returned (Value.bool b)) (by rw [← HR.out]; unfold listOk; rw [decide_eq_false hl]; simp), (Below.refl _ _).alloc (Nat.le_refl _) _⟩
    · have d2 : ¬ s.toList = [] := fun h => hs ((toList_nil s).1 h)
      go_wp2
      go_ret
      exact ⟨congrArg (fun b => Ending.returned (Value.bool b)) (by rw [← HR.out, decide_eq_false (fun h => hs h.2)]; rfl), (Below.refl _ _).alloc (Nat.le_refl _) _⟩
  · have d1 : (n != 0) = true := by simpa using hn
    go_wp2
    go_ret
    exact ⟨congrArg (fun b => Ending.returned (Value.bool b)) (by rw [← HR.out, decide_eq_false (fun h => hn h.1)]; rfl), (Below.refl _ _).alloc (Nat.le_refl _) _⟩

theorem rright_any (x : It) (xs : List It) (hx : x.s.size ≤ 9223372036854775800) (hs : ∀ y ∈ xs, y.s.size ≤ 9223372036854775800) (w : World) (h : x.k = 5 → x.m = xs.length ∧ Lies w (.slice x.p x.m x.c) xs.length 4 (itsCells xs)) :
    Calls Tryd.prog 26 #[x.v] w fun e w' => e = .returned (.bool (rightOf x xs)) ∧ Below w.heap.size w w' := by
  obtain ⟨k, n, s, p, m, c⟩ := x
  unfold rightOf
  by_cases h5 : k = 5
  · subst h5
    obtain ⟨hm, hL⟩ := h rfl
    simp only at hm hL
    subst hm
    rw [if_pos rfl]
    exact rright_list n s p c xs hs w hL
  · rw [if_neg h5]
    exact rright_flat k n h5 s hx p m c w

/-- texts of few bytes -/
def V.short (v : V) : Prop := v.s.size ≤ 100 ∧ ∀ u ∈ v.l, u.s.size ≤ 100
/-- moraineref03.Right, of any value that lies -/
theorem rright_V (d : Nat) (v : V) (x : It) (w : World) (hx : VAt d w v x) (hsh : v.short) :
    Calls Tryd.prog 26 #[x.v] w fun e w' => e = .returned (.bool v.ok) ∧ Below w.heap.size w w' := by
  obtain ⟨h1, h2, h3, h4, ys, h5, h6, h7, h8, _, h9⟩ := items_of hx
  rw [← h7]
  exact rright_any x ys (by rw [h3]; have := hsh.1; omega) (fun y hy => by obtain ⟨u, hu, _, _, e, _⟩ := h9 y hy; rw [e]; have := hsh.2 u hu; omega) w (fun _ => ⟨by omega, h6⟩)
end Go.Proofs.YtffoklhopmhjaaaDoor

/- class.read. -/
set_option linter.unusedSimpArgs false
set_option linter.unusedVariables false
namespace Go.Proofs.YtffoklhopmhjaaaDoor
open Go Go.RowKit Go.Shelf Go.Sort

theorem infoFld : (Tryd.prog.info? 53).map (fun i => (i.zero, i.size, i.bytes)) = some (some (.agg #[.string ⟨#[]⟩, .int .i64 0, .int .i64 0, .bool false]), 4, 40) := by kernel_rfl
abbrev textFnR (R : Nat) : Value := .func (.func 36) #[.pointer (some ⟨R, 0, none⟩)] #[]
abbrev numFnR (R : Nat) : Value := .func (.func 37) #[.pointer (some ⟨R, 0, none⟩)] #[]
/-- what read answers -/
def readCPost (w0 : World) (ea : Addr) (s : ByteArray) (R : Nat) (nm : ByteArray) (res : Bool × List Fl × Option Nat) (W : World) (e : Ending) (W' : World) : Prop :=
  Kept R W W' ∧ RrO w0 ea s R res.2.2 W' ∧ ∃ (cn : ByteArray) (q : Option Addr) (m c : Nat), e = .returned (.tuple #[clV cn q m c, .bool res.1]) ∧ (res.1 = true → cn = nm ∧ FLies W' q m c res.2.1)
theorem loopS_succ (s : ByteArray) (n : Nat) (acc : List Fl) (o : Option Nat) : loopS s (n + 1) acc o = if (stepF s o).2.1 = 0 then loopS s n (acc ++ [(stepF s o).1]) (stepF s o).2.2
      else if (stepF s o).2.1 = 1 then loopS s n (acc ++ [{ (stepF s o).1 with ix := true }]) (stepF s o).2.2
      else (false, acc, (stepF s o).2.2) := rfl
theorem loop_stop {s : ByteArray} {n : Nat} {acc : List Fl} {o : Option Nat} {f : Fl} {x : Int} {o' : Option Nat} (h : stepF s o = (f, x, o')) (h0 : x ≠ 0) (h1 : x ≠ 1) : loopS s (n + 1) acc o = (false, acc, o') := by
  rw [loopS_succ, h]
  simp only
  rw [if_neg h0, if_neg h1]
theorem loop_go {s : ByteArray} {n : Nat} {acc : List Fl} {o : Option Nat} {f : Fl} {x : Int} {o' : Option Nat} (h : stepF s o = (f, x, o')) (hx : x = 0 ∨ x = 1) (hf : f.ix = false) : loopS s (n + 1) acc o = loopS s n (acc ++ [{ f with ix := x == 1 }]) o' := by
  rw [loopS_succ, h]
  simp only
  rcases hx with rfl | rfl
  · rw [if_pos rfl]
    obtain ⟨a, b, c, d⟩ := f
    simp only at hf
    subst hf
    rfl
  · rw [if_neg (by decide), if_pos rfl]; rfl

theorem read_fin {w0 : World} {ea : Addr} {s : ByteArray} {R : Nat} {W0 : World} {C : Nat} {nm : ByteArray} {fs : List Fl} {vp : Option Addr} {vc : Nat} {o : Option Nat} {W : World} (h : ReadSt w0 ea s R W0 C nm fs vp vc o W) (nm' : ByteArray) (q : Option Addr) (m c : Nat) :
    Kept R W0 ((W.setCell ⟨W0.heap.size, 0, none⟩ (.string nm')).setCell ⟨W0.heap.size, 1, none⟩ (.slice q m c)) ∧ RrO w0 ea s R o ((W.setCell ⟨W0.heap.size, 0, none⟩ (.string nm')).setCell ⟨W0.heap.size, 1, none⟩ (.slice q m c)) ∧ CBox ((W.setCell ⟨W0.heap.size, 0, none⟩ (.string nm')).setCell ⟨W0.heap.size, 1, none⟩ (.slice q m c)) W0.heap.size nm' q m c := by
  have h1 := h.hR
  have h2 := h.lw
  have g1 := set_grown W W0.heap.size 0 (.string nm')
  have g2 := set_grown (W.setCell ⟨W0.heap.size, 0, none⟩ (.string nm')) W0.heap.size 1 (.slice q m c)
  have hb1 := below_grown h.rd.b0 g1 (by omega)
  have hr1 := h.rd.kept hb1 (g1.block R h.rd.lt (fun e => by have := Option.some.inj e; omega))
  exact ⟨kept_grown (kept_grown h.kept g1 (fun b e => by have := Option.some.inj e; omega)) g2 (fun b e => by have := Option.some.inj e; omega), hr1.kept (below_grown hb1 g2 (by omega)) (g2.block R hr1.lt (fun e => by have := Option.some.inj e; omega)), (h.out.set0 nm').set1 q m c⟩
theorem read_lies {w0 : World} {ea : Addr} {s : ByteArray} {R : Nat} {W0 : World} {C : Nat} {nm : ByteArray} {fs : List Fl} {vp : Option Addr} {vc : Nat} {o : Option Nat} {W : World} (h : ReadSt w0 ea s R W0 C nm fs vp vc o W) (nm' : ByteArray) (q : Option Addr) (m c : Nat) :
    FLies ((W.setCell ⟨W0.heap.size, 0, none⟩ (.string nm')).setCell ⟨W0.heap.size, 1, none⟩ (.slice q m c)) vp fs.length vc fs := by
  have h2 := h.hC
  have g1 := set_grown W W0.heap.size 0 (.string nm')
  have g2 := set_grown (W.setCell ⟨W0.heap.size, 0, none⟩ (.string nm')) W0.heap.size 1 (.slice q m c)
  have o1 := h.own.kept g1 (own_not h.own (by omega))
  exact ⟨rfl, Lies.own (o1.kept g2 (own_not o1 (by omega)))⟩

set_option maxHeartbeats 8000000 in
set_option maxRecDepth 100000 in
theorem clsRead_any (w0 : World) (ea : Addr) (s : ByteArray) (R : Nat) (o : Option Nat) (W : World) (h : RrO w0 ea s R o W) (hlw : w0.heap.size ≤ R) :
    Calls Tryd.prog 35 #[textFnR R, numFnR R] W (readCPost w0 ea s R ⟨(textS s o).1.toArray⟩ (clsRun s o) W) := by
  obtain ⟨i0, hi, hz0, hz1, hz2⟩ := info_parts infoFld
  have hRl := h.lt
  rcases ht0 : textS s o with ⟨t0, o1⟩
  rcases hn0 : numS s o1 with ⟨n0, o2⟩
  have hrun : clsRun s o = if n0 < 0 ∨ 8 < n0 then (false, [], o2) else loopS s n0.toNat [] o2 := by
    unfold clsRun
    rw [ht0]
    simp only
    rw [hn0]
  generalize clsRun s o = res at hrun ⊢
  simp only
  have hb : Below W.heap.size W (W.alloc (.cells #[.string ⟨#[]⟩, .slice none 0 0] 27)) := (Below.refl _ _).alloc (Nat.le_refl _) _
  have hT := rdText_any w0 ea s R o _ (h.below hb)
  unfold textRPost at hT
  rw [ht0] at hT
  simp only at hT
  generalize (⟨t0.toArray⟩ : ByteArray) = nm at hT ⊢
  have hA := CBox.new W ⟨#[]⟩ none 0 0
  have HA := Lib.hid hA
  have HB := Lib.hid hb
  have HT := Lib.hid hT
  have HRUN := Lib.hid hrun
  clear hA hb hT hrun h ht0
  go_enter Tryd.func35, Tryd.ntmps35
  go_wp2_with fail
  refine HT.out.mono ?_
  rintro e W1 ⟨rfl, hr1, hk1⟩
  have hzw : W.heap.size + 1 ≤ W1.heap.size := by have := hk1.size; simpa using this
  have hS : ReadSt w0 ea s R W W1.heap.size nm [] none 0 o1 (W1.alloc (.cells #[.string nm, .slice none 0 0] 27)) :=
    ⟨hlw, hRl, by omega, (HA.out.grown hk1 (fun e => by have := Option.some.inj e; omega)).alloc _, CBox.new _ _ _ _ _, World.ownsRow_nil _ _ _ _, hr1.below ((Below.refl _ _).alloc (Nat.le_refl _) _),
      ((Kept.below (Kept.refl R W) HB.out).trans hk1).below ((Below.refl _ _).alloc (Nat.le_refl _) _)⟩
  have HS1 := Lib.hid hS
  clear hS hr1 hk1 HA HB HT
  go_wp2_with fail
  generalize W1.alloc (.cells #[.string nm, .slice none 0 0] 27) = U1 at HS1 ⊢
  generalize W1.heap.size = C at HS1 hzw ⊢
  have hN := rdNum_any w0 ea s R o1 U1 HS1.out.rd
  unfold numRPost at hN
  rw [hn0] at hN
  simp only at hN
  refine hN.mono ?_
  rintro e W2 ⟨rfl, hr2, hk2⟩
  have HS2 := Lib.hid (HS1.out.call hr2 hk2)
  clear hr2 hk2 hN HS1 hn0
  obtain ⟨g0, g1⟩ := HS2.out.out.facts
  obtain ⟨g2, g3⟩ := HS2.out.out.free
  by_cases hbad : n0 < 0 ∨ 8 < n0
  · have hres : res = (false, [], o2) := by rw [HRUN.out, if_pos hbad]
    have hfin : Kept R W ((W2.setCell ⟨W.heap.size, 0, none⟩ (.string ⟨#[]⟩)).setCell ⟨W.heap.size, 1, none⟩ (.slice none 0 0)) ∧ RrO w0 ea s R o2 ((W2.setCell ⟨W.heap.size, 0, none⟩ (.string ⟨#[]⟩)).setCell ⟨W.heap.size, 1, none⟩ (.slice none 0 0)) ∧ CBox ((W2.setCell ⟨W.heap.size, 0, none⟩ (.string ⟨#[]⟩)).setCell ⟨W.heap.size, 1, none⟩ (.slice none 0 0)) W.heap.size ⟨#[]⟩ none 0 0 := read_fin HS2.out ⟨#[]⟩ none 0 0
    have HRES := Lib.hid hres
    have HFIN := Lib.hid hfin
    clear hres hfin
    by_cases h1 : n0 < 0
    · have d1 : decide (n0 < 0) = true := decide_eq_true h1
      go_wp2_with fail
      have hf := HFIN.out
      generalize ((W2.setCell ⟨W.heap.size, 0, none⟩ (.string ⟨#[]⟩)).setCell ⟨W.heap.size, 1, none⟩ (.slice none 0 0)) = W9 at hf ⊢
      obtain ⟨x0, x1⟩ := hf.2.2.facts
      exact bodyPost_ret (v := .tuple #[clV ⟨#[]⟩ none 0 0, .bool false]) (by simp [results, Tryd.results35, go_sem, x0, x1]) rfl ⟨hf.1, by rw [HRES.out]; exact hf.2.1, ⟨#[]⟩, none, 0, 0, by rw [HRES.out], fun e => by rw [HRES.out] at e; cases e⟩
    · have d1 : decide (n0 < 0) = false := decide_eq_false h1
      have h2 : 8 < n0 := by omega
      have d2 : decide (8 < n0) = true := decide_eq_true h2
      go_wp2_with fail
      have hf := HFIN.out
      generalize ((W2.setCell ⟨W.heap.size, 0, none⟩ (.string ⟨#[]⟩)).setCell ⟨W.heap.size, 1, none⟩ (.slice none 0 0)) = W9 at hf ⊢
      obtain ⟨x0, x1⟩ := hf.2.2.facts
      exact bodyPost_ret (v := .tuple #[clV ⟨#[]⟩ none 0 0, .bool false]) (by simp [results, Tryd.results35, go_sem, x0, x1]) rfl ⟨hf.1, by rw [HRES.out]; exact hf.2.1, ⟨#[]⟩, none, 0, 0, by rw [HRES.out], fun e => by rw [HRES.out] at e; cases e⟩
  · have hres : res = loopS s n0.toNat [] o2 := by rw [HRUN.out, if_neg hbad]
    obtain ⟨N, hN⟩ : ∃ N : Nat, n0 = (N : Int) := ⟨n0.toNat, by omega⟩
    subst hN
    rw [Int.toNat_natCast] at hres
    have hN8 : N ≤ 8 := by omega
    have d1 : decide ((N : Int) < 0) = false := decide_eq_false (by omega)
    have d2 : decide ((8 : Int) < (N : Int)) = false := decide_eq_false (by omega)
    have d1' : ¬ (N : Int) < 0 := by omega
    have d2' : ¬ (8 : Int) < (N : Int) := by omega
    have HRES := Lib.hid hres
    clear hres HRUN hbad g0 g1 g2 g3
    go_wp2_with fail
    go_loopw [23] (fun i wr => ∃ (k : Nat) (fs : List Fl) (vp : Option Addr) (vc : Nat) (o : Option Nat), k ≤ N ∧ i = .int .i64 (k : Int) ∧ fs.length = k ∧ res = loopS s (N - k) fs o ∧ ReadSt w0 ea s R W C nm fs vp vc o wr) (fun i _ => N - (intOf i).toNat)
    case atStart => exact ⟨0, [], none, 0, o2, by omega, rfl, rfl, HRES.out, HS2.out⟩
    case round =>
      obtain ⟨k, fs, vp, vc, o, hk, rfl, hfk, hres, hSt⟩ := hrel
      clear HS2 HRES
      by_cases hlt : k < N
      · have e1 : decide ((k : Int) < (N : Int)) = true := decide_eq_true (by omega)
        have e1' : (k : Int) < (N : Int) := by omega
        rcases ht : textS s o with ⟨t, o1⟩
        rcases hn1 : numS s o1 with ⟨kk, o2⟩
        rcases hn2 : numS s o2 with ⟨oo, o3⟩
        rcases hn3 : numS s o3 with ⟨xx, o4⟩
        have hstep : stepF s o = (⟨⟨t.toArray⟩, kk, oo, false⟩, xx, o4) := by
          unfold stepF
          simp only [ht, hn1, hn2, hn3]
        have hkn : N - k = (N - (k + 1)) + 1 := by omega
        rw [hkn] at hres
        have hstop := fun h0 h1 => hres.trans (loop_stop (n := N - (k + 1)) (acc := fs) hstep h0 h1)
        have hgo := fun hx => hres.trans (loop_go (n := N - (k + 1)) (acc := fs) hstep hx rfl)
        have hT := rdText_any w0 ea s R o _ hSt.rd
        unfold textRPost at hT
        rw [ht] at hT
        simp only at hT
        have hN1 := fun W' (h : RrO w0 ea s R o1 W') => rdNum_any w0 ea s R o1 W' h
        have hN2 := fun W' (h : RrO w0 ea s R o2 W') => rdNum_any w0 ea s R o2 W' h
        have hN3 := fun W' (h : RrO w0 ea s R o3 W') => rdNum_any w0 ea s R o3 W' h
        unfold numRPost at hN1 hN2 hN3
        rw [hn1] at hN1
        rw [hn2] at hN2
        rw [hn3] at hN3
        simp only at hN1 hN2 hN3
        have HSTOP := Lib.hid hstop
        have HGO := Lib.hid hgo
        have HT := Lib.hid hT
        have HN1 := Lib.hid hN1
        have HN2 := Lib.hid hN2
        have HN3 := Lib.hid hN3
        have S0 := Lib.hid hSt
        have HFK := Lib.hid hfk
        clear hstop hgo hT hN1 hN2 hN3 hSt hres hstep ht hn1 hn2 hn3 hkn hfk
        generalize (⟨t.toArray⟩ : ByteArray) = fn at *
        go_wp2_with fail
        refine HT.out.mono ?_
        rintro e X1 ⟨rfl, hr, hk⟩
        have S1 := Lib.hid (S0.out.call hr hk)
        clear hr hk S0 HT
        go_wp2_with fail
        refine (HN1.out _ S1.out.rd).mono ?_
        rintro e X2 ⟨rfl, hr, hk⟩
        have S2 := Lib.hid (S1.out.call hr hk)
        clear hr hk S1 HN1
        go_wp2_with fail
        refine (HN2.out _ S2.out.rd).mono ?_
        rintro e X3 ⟨rfl, hr, hk⟩
        have S3 := Lib.hid (S2.out.call hr hk)
        clear hr hk S2 HN2
        have S4 := Lib.hid (S3.out.alloc (.cells #[.string fn, .int .i64 kk, .int .i64 oo, .bool false] 53))
        have F4 := Lib.hid (FBox.new X3 ⟨fn, kk, oo, false⟩)
        have hzx : W.heap.size < X3.heap.size ∧ C < X3.heap.size ∧ R < X3.heap.size := ⟨by have := S3.out.out.lt; omega, S3.out.box.lt, S3.out.rd.lt⟩
        have hob : ∀ g, Value.ownBlock (.slice vp fs.length vc) = some g → g < X3.heap.size := fun g hg => (S3.out.own.lt g hg).2
        have HOB := Lib.hid hob
        clear hob S3
        go_wp2_with fail
        generalize X3.alloc (.cells #[.string fn, .int .i64 kk, .int .i64 oo, .bool false] 53) = X4 at S4 F4 ⊢
        generalize X3.heap.size = bf at F4 hzx HOB ⊢
        refine (HN3.out _ S4.out.rd).mono ?_
        rintro e X5 ⟨rfl, hr, hk⟩
        have S5 := Lib.hid (S4.out.call hr hk)
        have F5 := Lib.hid (F4.out.grown hk (fun e => by have := Option.some.inj e; omega))
        clear hr hk S4 HN3 F4
        by_cases hx : xx = 0 ∨ xx = 1
        · have hgo := HGO.out hx
          have HGO2 := Lib.hid hgo
          clear hgo HSTOP HGO
          have S6 := Lib.hid (S5.out.set bf 3 (.bool (xx == 1)) (by omega) (by omega) HOB.out)
          have F6 := Lib.hid (F5.out.set3 (xx == 1))
          obtain ⟨y0, y1, y2, y3⟩ := F5.out.facts
          have yf := F5.out.free
          obtain ⟨u0, u1, u2, u3⟩ := F6.out.facts
          simp only at y0 y1 y2 y3 u0 u1 u2 u3
          obtain ⟨c0, c1⟩ := S6.out.box.facts
          obtain ⟨c2, c3⟩ := S6.out.box.free
          have hown := S6.out.own
          have hC := S6.out.hC
          have hfl : fs.length ≤ 8 := by have := HFK.out; omega
          have HOWN := Lib.hid hown
          clear hown
          generalize hb1 : (xx == 1) = bx at *
          have dx : decide (xx = 0 ∨ xx = 1) = true := decide_eq_true hx
          rcases hx with rfl | rfl
          · have q1 : bx = false := by rw [← hb1]; rfl
            subst q1
            have hbx := F5.out.lt
            have S7 := Lib.hid (S6.out.alloc (.cells #[.string fn, .int .i64 kk, .int .i64 oo, .bool false] 53))
            go_wp2_with (at_builtin; refine wpList_append_lies _ rfl _ _ _ rfl (C + 1) 53 i0 _ 4 40 Tryd.underlying25 hi hz0 hz1 hz2 rfl (by omega) _ fs.length _ rfl (HOWN.out.alloc _) ⟨X5.heap.size, 0, none⟩ 1 1 [.string fn, .int .i64 kk, .int .i64 oo, .bool false] rfl rfl (World.news_of_block (cs := #[.string fn, .int .i64 kk, .int .i64 oo, .bool false]) (t := 53) (fr := (0, 0)) (by have h := World.alloc_heap_new (X5.setCell ⟨bf, 3, none⟩ (.bool false)) (.cells #[.string fn, .int .i64 kk, .int .i64 oo, .bool false] 53); rw [show (X5.setCell ⟨bf, 3, none⟩ (.bool false)).heap.size = X5.heap.size from by simp] at h; exact h)) (by simp [Value.oneCell']) (by omega) (by simp [maxLen] <;> omega) (by omega) (by simp <;> omega) (X5.heap.size + 1) (by simp) ?_; intro gg cap w2 hown1 hgrow hat hlt2; have hgo := S7.out.own.lt; have hB2 := S7.out.box.grown hgrow (fun e => by have := (hgo C e.symm).1; omega); obtain ⟨c4, c5⟩ := hB2.facts; obtain ⟨c6, c7⟩ := hB2.free)
            exact ⟨⟨k + 1, fs ++ [⟨fn, kk, oo, false⟩], some ⟨gg, 0, none⟩, cap, o4, by omega, by go_num, by rw [List.length_append, HFK.out]; rfl, HGO2.out, S7.out.more hgrow (by rw [flCells_append]; exact hown1)⟩, by simp [intOf]; omega⟩
          · have q1 : bx = true := by rw [← hb1]; rfl
            subst q1
            have hbx := F5.out.lt
            have S7 := Lib.hid (S6.out.alloc (.cells #[.string fn, .int .i64 kk, .int .i64 oo, .bool true] 53))
            go_wp2_with (at_builtin; refine wpList_append_lies _ rfl _ _ _ rfl (C + 1) 53 i0 _ 4 40 Tryd.underlying25 hi hz0 hz1 hz2 rfl (by omega) _ fs.length _ rfl (HOWN.out.alloc _) ⟨X5.heap.size, 0, none⟩ 1 1 [.string fn, .int .i64 kk, .int .i64 oo, .bool true] rfl rfl (World.news_of_block (cs := #[.string fn, .int .i64 kk, .int .i64 oo, .bool true]) (t := 53) (fr := (0, 0)) (by have h := World.alloc_heap_new (X5.setCell ⟨bf, 3, none⟩ (.bool true)) (.cells #[.string fn, .int .i64 kk, .int .i64 oo, .bool true] 53); rw [show (X5.setCell ⟨bf, 3, none⟩ (.bool true)).heap.size = X5.heap.size from by simp] at h; exact h)) (by simp [Value.oneCell']) (by omega) (by simp [maxLen] <;> omega) (by omega) (by simp <;> omega) (X5.heap.size + 1) (by simp) ?_; intro gg cap w2 hown1 hgrow hat hlt2; have hgo := S7.out.own.lt; have hB2 := S7.out.box.grown hgrow (fun e => by have := (hgo C e.symm).1; omega); obtain ⟨c4, c5⟩ := hB2.facts; obtain ⟨c6, c7⟩ := hB2.free)
            exact ⟨⟨k + 1, fs ++ [⟨fn, kk, oo, true⟩], some ⟨gg, 0, none⟩, cap, o4, by omega, by go_num, by rw [List.length_append, HFK.out]; rfl, HGO2.out, S7.out.more hgrow (by rw [flCells_append]; exact hown1)⟩, by simp [intOf]; omega⟩
        · have hstop := HSTOP.out (fun e => hx (.inl e)) (fun e => hx (.inr e))
          have q0 : (xx != 0) = true := by rw [bne_iff_ne]; exact fun e => hx (.inl e)
          have q1 : (xx != 1) = true := by rw [bne_iff_ne]; exact fun e => hx (.inr e)
          have HSTOP2 := Lib.hid hstop
          have hfin : Kept R W ((X5.setCell ⟨W.heap.size, 0, none⟩ (.string ⟨#[]⟩)).setCell ⟨W.heap.size, 1, none⟩ (.slice none 0 0)) ∧ RrO w0 ea s R o4 ((X5.setCell ⟨W.heap.size, 0, none⟩ (.string ⟨#[]⟩)).setCell ⟨W.heap.size, 1, none⟩ (.slice none 0 0)) ∧ CBox ((X5.setCell ⟨W.heap.size, 0, none⟩ (.string ⟨#[]⟩)).setCell ⟨W.heap.size, 1, none⟩ (.slice none 0 0)) W.heap.size ⟨#[]⟩ none 0 0 := read_fin S5.out ⟨#[]⟩ none 0 0
          have HFIN := Lib.hid hfin
          obtain ⟨g0, g1⟩ := S5.out.out.facts
          obtain ⟨g2, g3⟩ := S5.out.out.free
          clear hstop hfin HSTOP HGO hx
          go_wp2_with fail
          have hf := HFIN.out
          generalize ((X5.setCell ⟨W.heap.size, 0, none⟩ (.string ⟨#[]⟩)).setCell ⟨W.heap.size, 1, none⟩ (.slice none 0 0)) = W9 at hf ⊢
          obtain ⟨x0, x1⟩ := hf.2.2.facts
          exact bodyPost_ret (v := .tuple #[clV ⟨#[]⟩ none 0 0, .bool false]) (by simp [results, Tryd.results35, go_sem, x0, x1]) rfl ⟨hf.1, by rw [HSTOP2.out]; exact hf.2.1, ⟨#[]⟩, none, 0, 0, by rw [HSTOP2.out], fun e => by rw [HSTOP2.out] at e; cases e⟩
      · subst hfk
        obtain rfl : fs.length = N := by omega
        have e1 : decide ((fs.length : Int) < (fs.length : Int)) = false := decide_eq_false (by omega)
        have hres2 : res = (true, fs, o) := by rw [hres, Nat.sub_self]; rfl
        have HRES2 := Lib.hid hres2
        have SE := Lib.hid hSt
        obtain ⟨c0, c1⟩ := SE.out.box.facts
        obtain ⟨g0, g1⟩ := SE.out.out.facts
        obtain ⟨g2, g3⟩ := SE.out.out.free
        have hfin : Kept R W ((wr.setCell ⟨W.heap.size, 0, none⟩ (.string nm)).setCell ⟨W.heap.size, 1, none⟩ (.slice vp fs.length vc)) ∧ RrO w0 ea s R o ((wr.setCell ⟨W.heap.size, 0, none⟩ (.string nm)).setCell ⟨W.heap.size, 1, none⟩ (.slice vp fs.length vc)) ∧ CBox ((wr.setCell ⟨W.heap.size, 0, none⟩ (.string nm)).setCell ⟨W.heap.size, 1, none⟩ (.slice vp fs.length vc)) W.heap.size nm vp fs.length vc ∧ FLies ((wr.setCell ⟨W.heap.size, 0, none⟩ (.string nm)).setCell ⟨W.heap.size, 1, none⟩ (.slice vp fs.length vc)) vp fs.length vc fs := by
          obtain ⟨a, b, c⟩ := read_fin SE.out nm vp fs.length vc
          exact ⟨a, b, c, read_lies SE.out nm vp fs.length vc⟩
        have HFIN := Lib.hid hfin
        clear hres hres2 hSt hfin
        go_wp2_with fail
        have hf := HFIN.out
        generalize ((wr.setCell ⟨W.heap.size, 0, none⟩ (.string nm)).setCell ⟨W.heap.size, 1, none⟩ (.slice vp fs.length vc)) = W9 at hf ⊢
        obtain ⟨x0, x1⟩ := hf.2.2.1.facts
        exact bodyPost_ret (v := .tuple #[clV nm vp fs.length vc, .bool true]) (by simp [results, Tryd.results35, go_sem, x0, x1]) rfl ⟨hf.1, by rw [HRES2.out]; exact hf.2.1, nm, vp, fs.length, vc, by rw [HRES2.out], fun _ => ⟨rfl, by rw [HRES2.out]; exact hf.2.2.2⟩⟩
end Go.Proofs.YtffoklhopmhjaaaDoor

/- class.Encode: two closures over a builder. -/
set_option linter.unusedSimpArgs false
set_option linter.unusedVariables false
namespace Go.Proofs.YtffoklhopmhjaaaDoor
open Go Go.RowKit Go.Shelf

theorem Laid.refl {b : Nat} {l : List UInt8} {w : World} {B : Nat} (h : Holds B b l w) : Laid B b l w w := ⟨h, Below.refl _ _, Lib.OthersKept.refl _ _ _⟩
theorem Laid.call {B b : Nat} {l : List UInt8} {w w0 w1 : World} (h : Laid B b l w w0) (hB : Below w0.heap.size w0 w1) (hlt : B ≤ w0.heap.size) : Laid B b l w w1 := by
  have hl : ∀ {i : Nat} {o : Obj}, w0.heap[i]? = some o → w1.heap[i]? = some o := fun {i o} hi => (hB.block i (Array.getElem?_eq_some_iff.1 hi).1).trans hi
  exact ⟨Holds.below h.1 hB, h.2.1.trans (hB.mono hlt), fun i o hi hne hc => hl (h.2.2 i o hi hne hc)⟩
theorem Laid.then {B b : Nat} {l t : List UInt8} {w w0 w1 : World} (h : Laid B b l w w0) (h1 : Laid B b t w0 w1) : Laid B b t w w1 := ⟨h1.1, h.2.1.trans h1.2.1, h.2.2.trans h1.2.2⟩
theorem Laid.fbox {B b : Nat} {l : List UInt8} {w w' : World} (h : Laid B b l w w') {q : Nat} {f : Fl} (hq : FBox w q f) (hb : q ≠ b) : FBox w' q f := h.2.2 q _ hq (by simpa using hb) (by rintro c fz ⟨⟩)
theorem Laid.cbox {B b : Nat} {l : List UInt8} {w w' : World} (h : Laid B b l w w') {q : Nat} {nm : ByteArray} {p : Option Addr} {m c : Nat} (hq : CBox w q nm p m c) (hb : q ≠ b) : CBox w' q nm p m c := h.2.2 q _ hq (by simpa using hb) (by rintro c fz ⟨⟩)

set_option maxHeartbeats 1000000 in
set_option maxRecDepth 100000 in
theorem encNum (B b : Nat) (l : List UInt8) (n : Int) (hn0 : -9223372036854775808 ≤ n) (hn1 : n ≤ 9223372036854775807) (w : World) (h : Holds B b l w) (hlen : l.length ≤ 100000) :
    Calls Tryd.prog 28 #[.int .i64 n, .pointer (some ⟨b, 0, none⟩)] w fun e w' => e = .returned (.tuple #[]) ∧ Laid B b (l ++ Wire.num n) w w' := by
  have hlt := holds_lt h
  have hnl := Wire.num_len n ⟨by omega, by omega⟩
  have h0 := Laid.refl h
  go_enter Tryd.func28, Tryd.ntmps28
  go_wp2_with fail
  refine (num_any n hn0 hn1 _).mono ?_
  rintro e w1 ⟨rfl, hB1⟩
  have h1 := h0.call hB1 (by omega)
  go_wp2_with fail
  refine (writeString_laid B b l _ _ h1.1 (by omega)).mono ?_
  rintro e w2 ⟨rfl, hL⟩
  have h2 := h1.then hL
  go_wp2_with fail
  go_end0
  exact ⟨rfl, h2⟩

set_option maxHeartbeats 1000000 in
set_option maxRecDepth 100000 in
theorem encName (B b : Nat) (l : List UInt8) (s : ByteArray) (hs : s.size ≤ 1000) (w : World) (h : Holds B b l w) (hlen : l.length ≤ 100000) :
    Calls Tryd.prog 31 #[.string s, .pointer (some ⟨b, 0, none⟩)] w fun e w' => e = .returned (.tuple #[]) ∧ Laid B b (l ++ txtB s) w w' := by
  have hlt := holds_lt h
  have hnl := Wire.num_len (s.size : Int) ⟨by omega, by omega⟩
  have h0 := Laid.refl h
  have hsl : (Wire.num s.size ++ s.data.toList).length ≤ 2000 := by rw [List.length_append, nm_size]; omega
  have HT := Lib.hid (fun W => text_any s (by omega) W)
  have htb : Wire.num s.size ++ s.data.toList = txtB s := rfl
  rw [htb] at hsl
  go_enter Tryd.func31, Tryd.ntmps31
  go_wp2_with fail
  refine (HT.out _).mono ?_
  rintro e w1 ⟨rfl, hB1⟩
  have h1 := h0.call hB1 (by omega)
  rw [htb]
  go_wp2_with fail
  refine (writeString_laid B b l _ _ h1.1 (by omega)).mono ?_
  rintro e w2 ⟨rfl, hL⟩
  have h2 := h1.then hL
  go_wp2_with fail
  go_end0
  exact ⟨rfl, h2⟩

def clsHead (cn : ByteArray) (n : Nat) : List UInt8 := txtB cn ++ Wire.num n
def clsTo (cn : ByteArray) (fs : List Fl) (k : Nat) : List UInt8 := clsHead cn fs.length ++ (fs.take k).flatMap Fl.bytes
theorem clsTo_zero (cn : ByteArray) (fs : List Fl) : clsTo cn fs 0 = clsHead cn fs.length := by unfold clsTo; simp
theorem clsTo_succ (cn : ByteArray) (fs : List Fl) (k : Nat) (h : k < fs.length) : clsTo cn fs (k + 1) = clsTo cn fs k ++ txtB fs[k].nm ++ Wire.num fs[k].k ++ Wire.num fs[k].o ++ Wire.num (if fs[k].ix then 1 else 0) := by
  unfold clsTo
  rw [List.take_succ_eq_append_getElem h, List.flatMap_append]
  simp [Fl.bytes]
theorem clsTo_end (cn : ByteArray) (fs : List Fl) : clsTo cn fs fs.length = (Cl.mk cn fs).bytes := by
  unfold clsTo clsHead Cl.bytes
  rw [List.take_length]
theorem txtB_len {s : ByteArray} (h : s.size ≤ 1000) : (txtB s).length ≤ 1010 := by
  have := Wire.num_len (s.size : Int) ⟨by omega, by omega⟩
  unfold txtB
  rw [List.length_append, nm_size]; omega
theorem fl_len {f : Fl} (h : f.ok = true) : f.bytes.length ≤ 60 := by
  obtain ⟨_, h2, _, _, h3, h4⟩ := Fl.ok_parts h
  have a1 := Wire.num_len (f.nm.size : Int) ⟨by omega, by omega⟩
  have a2 := Wire.num_len f.k ⟨by omega, by omega⟩
  have a3 := Wire.num_len f.o ⟨by omega, by omega⟩
  have a4 := Wire.num_len (if f.ix then 1 else 0) (by cases f.ix <;> exact ⟨by decide, by decide⟩)
  unfold Fl.bytes txtB
  simp only [List.length_append, nm_size]
  omega
theorem fls_len : ∀ (fs : List Fl), (∀ f ∈ fs, f.ok = true) → (fs.flatMap Fl.bytes).length ≤ 60 * fs.length
  | [], _ => by simp
  | f :: fs, h => by
    have h1 := fl_len (h f List.mem_cons_self)
    have h2 := fls_len fs (fun x hx => h x (List.mem_cons_of_mem _ hx))
    rw [List.flatMap_cons, List.length_append, List.length_cons]; omega
theorem clsTo_len {cn : ByteArray} {fs : List Fl} (h : (Cl.mk cn fs).ok = true) (k : Nat) : (clsTo cn fs k).length ≤ 2000 := by
  obtain ⟨h1, h2, h3⟩ := Cl.ok_parts h
  simp only at h1 h2
  have a := fls_len (fs.take k) (fun f hf => by
    obtain ⟨i, hi, e⟩ := List.getElem_of_mem (List.mem_of_mem_take hf)
    rw [← e]; exact (h3 i hi).1)
  have a1 := Wire.num_len (cn.size : Int) ⟨by omega, by omega⟩
  have a2 := Wire.num_len (fs.length : Int) ⟨by omega, by omega⟩
  have a3 : (fs.take k).length ≤ 8 := by rw [List.length_take]; omega
  unfold clsTo clsHead txtB
  simp only [List.length_append, nm_size]
  omega

/-- what Encode answers -/
def encCPost (cl : Cl) (w : World) (e : Ending) (w' : World) : Prop :=
  e = .returned (.tuple #[.string ⟨(if cl.ok then cl.bytes else []).toArray⟩, .int .i64 (if cl.ok then 0 else 40)]) ∧ Below w.heap.size w w'

set_option maxHeartbeats 4000000 in
set_option maxRecDepth 100000 in
theorem clsEncode_any (cn : ByteArray) (p : Option Addr) (m c : Nat) (fs : List Fl) (hcn : cn.size ≤ 9223372036854775807) (hff : ∀ f ∈ fs, f.fine) (w : World) (hl : FLies w p m c fs) (hm : m ≤ 9223372036854775807) (hT : Tabs w) :
    Calls Tryd.prog 14 #[clV cn p m c] w (encCPost (Cl.mk cn fs) w) := by
  have hright := fun W (h : Below w.heap.size w W) => clsRight_any cn p m c fs hcn hff W (hl.below h) hm (hT.below h)
  obtain ⟨rfl, hL⟩ := hl
  unfold encCPost
  have hb : Below w.heap.size w (w.alloc (.cells #[.string cn, .slice p fs.length c] 27)) := (Below.refl _ _).alloc (Nat.le_refl _) _
  have hC := CBox.new w cn p fs.length c
  cases hok : (Cl.mk cn fs).ok with
  | false =>
    rw [hok] at hright
    have HR := Lib.hid hright
    have HB := Lib.hid hb
    obtain ⟨c0, c1⟩ := hC.facts
    clear hright hb hC hff hL hT hok
    go_enter Tryd.func14, Tryd.ntmps14
    go_wp2_with fail
    refine (HR.out _ HB.out).mono ?_
    rintro e W1 ⟨rfl, hB1⟩
    go_wp2_with fail
    exact bodyPost_ret (v := .tuple #[.string ⟨#[]⟩, .int .i64 40]) (by simp [results, Tryd.results14, go_sem]) rfl ⟨rfl, HB.out.trans (hB1.mono HB.out.size)⟩
  | true =>
    rw [hok] at hright
    obtain ⟨p1, p2, p3⟩ := Cl.ok_parts hok
    simp only at p1 p2 p3
    have hnl : cn.size ≤ 1000 := by omega
    have hhl : (txtB cn).length ≤ 1010 := txtB_len hnl
    have hlen := clsTo_len hok
    have hfb : ∀ k (h : k < fs.length), fs[k].nm.size ≤ 1000 ∧ (1 ≤ fs[k].k ∧ fs[k].k ≤ 5) ∧ (0 ≤ fs[k].o ∧ fs[k].o ≤ 4) := fun k h => by
      obtain ⟨_, b2, _, _, b3, b4⟩ := Fl.ok_parts (p3 k h).1
      exact ⟨by omega, b3, b4⟩
    have HSUCC := Lib.hid (clsTo_succ cn fs)
    have HZERO := Lib.hid (clsTo_zero cn fs)
    have HEND := Lib.hid (clsTo_end cn fs)
    have hhd : txtB cn ++ Wire.num fs.length = clsHead cn fs.length := rfl
    have HHD := Lib.hid hhd
    generalize hG : clsTo cn fs = G at hlen
    have HG := Lib.hid hG
    have HR := Lib.hid hright
    have HB := Lib.hid hb
    have HC := Lib.hid hC
    have HLEN := Lib.hid hlen
    have HFB := Lib.hid hfb
    have HL := Lib.hid hL
    obtain ⟨c0, c1⟩ := hC.facts
    clear hright hb hC hff hL hT hok hlen hfb p3 hhd hG
    go_enter Tryd.func14, Tryd.ntmps14
    go_wp2_with fail
    refine (HR.out _ HB.out).mono ?_
    rintro e W1 ⟨rfl, hB1⟩
    have hBw := HB.out.trans (hB1.mono HB.out.size)
    have hC1 := (HC.out.below hB1)
    have hz1 : w.heap.size < W1.heap.size := hC1.lt
    have h0 : Holds W1.heap.size W1.heap.size [] (W1.alloc (.cells #[.pointer none, .slice none 0 0] 69)) := Lib.IsBuilderF.of (Lib.fresh_isBuilder _ _ _)
    have hC2 := hC1.alloc (.cells #[.pointer none, .slice none 0 0] 69)
    have hB2 : Below W1.heap.size W1 (W1.alloc (.cells #[.pointer none, .slice none 0 0] 69)) := (Below.refl _ _).alloc (Nat.le_refl _) _
    clear c0 c1 hB1 hC1
    obtain ⟨c0, c1⟩ := hC2.facts
    have H0 := Lib.hid h0
    have HC2 := Lib.hid hC2
    have HBW := Lib.hid hBw
    have HB2 := Lib.hid hB2
    clear h0 hC2 hBw hB2 HB HC
    go_wp2_with fail
    generalize hbb : W1.heap.size = bb at *
    generalize W1.alloc (.cells #[.pointer none, .slice none 0 0] 69) = U at *
    refine (encName bb bb [] cn hnl _ H0.out (by simp)).mono ?_
    rintro e W3 ⟨rfl, hL3⟩
    rw [List.nil_append] at hL3
    have hC3 := hL3.cbox HC2.out (by omega)
    have HL3 := Lib.hid hL3
    clear c0 c1 hL3
    obtain ⟨c0, c1⟩ := hC3.facts
    have HC3 := Lib.hid hC3
    clear hC3
    go_wp2_with fail
    refine (encNum bb bb (txtB cn) (fs.length : Int) (by omega) (by omega) _ HL3.out.1 (by omega)).mono ?_
    rintro e W4 ⟨rfl, hL4⟩
    rw [HHD.out, ← HZERO.out, HG.out] at hL4
    have hC4 := hL4.cbox HC3.out (by omega)
    have HL4 := Lib.hid (HL3.out.then hL4)
    clear c0 c1 hL4
    obtain ⟨c0, c1⟩ := hC4.facts
    have HC4 := Lib.hid hC4
    clear hC4 HC3 HL3 H0 HC2
    go_wp2_with fail
    clear c0 c1
    go_loopw [26] (fun i wr => ∃ k : Nat, k ≤ fs.length ∧ i = .int .i64 (k : Int) ∧ Laid bb bb (G k) U wr ∧ CBox wr w.heap.size cn p fs.length c) (fun i _ => fs.length - (intOf i).toNat)
    case atStart => exact ⟨0, by omega, rfl, HL4.out, HC4.out⟩
    case round =>
      obtain ⟨k, hk, rfl, hLr, hCr⟩ := hrel
      clear HL4 HC4
      have hbl := holds_lt hLr.1
      have hlen := HLEN.out k
      by_cases hlt : k < fs.length
      · have e1 : decide ((k : Int) < (fs.length : Int)) = true := decide_eq_true (by omega)
        have e1' : (k : Int) < (fs.length : Int) := by omega
        have e0 : (0 : Int) ≤ (k : Int) := by omega
        obtain ⟨b, off, rfl, hbb2, hc⟩ := HL.out.at (by omega)
        have hbw2 : Below w.heap.size w wr := (HBW.out.trans (HB2.out.mono (by omega))).trans (hLr.2.1.mono (by omega))
        have hcx : ∀ (i : Nat) (u : Value), ((fs[k]'hlt).cells)[i]? = some u → wr.cell? ⟨b, off + k * 4 + i, none⟩ = some u := fun i u hu => by
          rw [hbw2.cell (p := ⟨b, off + k * 4 + i, none⟩) hbb2, Nat.add_assoc]
          exact hc _ _ (flCells_at fs k hlt i u hu)
        have hf := HFB.out k hlt
        have hsucc := HSUCC.out k hlt
        rw [HG.out] at hsucc
        have hlen1 := HLEN.out (k + 1)
        rw [hsucc] at hlen1
        generalize fs[k]'hlt = f at hcx hf hsucc hlen1
        obtain ⟨fn, fk, fo, fx⟩ := f
        simp only at hf hsucc hlen1
        simp only [List.length_append] at hlen1
        have z0 : wr.cell? ⟨b, off + k * 4, none⟩ = some (.string fn) := hcx 0 _ rfl
        have z1 : wr.cell? ⟨b, off + k * 4 + 1, none⟩ = some (.int .i64 fk) := hcx 1 _ rfl
        have z2 : wr.cell? ⟨b, off + k * 4 + 2, none⟩ = some (.int .i64 fo) := hcx 2 _ rfl
        have z3 : wr.cell? ⟨b, off + k * 4 + 3, none⟩ = some (.bool fx) := hcx 3 _ rfl
        have hal : Below wr.heap.size wr (wr.alloc (.cells #[.string fn, .int .i64 fk, .int .i64 fo, .bool fx] 53)) := (Below.refl _ _).alloc (Nat.le_refl _) _
        have M0 := Lib.hid (hLr.call hal (by omega))
        have F0 := Lib.hid (FBox.new wr ⟨fn, fk, fo, fx⟩)
        have K0 := Lib.hid (hCr.below hal)
        have HS := Lib.hid hsucc
        have hne : wr.heap.size ≠ bb := by omega
        have hne2 : w.heap.size ≠ bb := by omega
        clear hcx hc hsucc hal hLr hCr hbw2
        obtain ⟨y0, y1, y2, y3⟩ := F0.out.facts
        simp only at y0 y1 y2 y3
        go_wp2_with fail
        generalize wr.alloc (.cells #[.string fn, .int .i64 fk, .int .i64 fo, .bool fx] 53) = X at M0 F0 K0 y0 y1 y2 y3 ⊢
        generalize wr.heap.size = bf at F0 hne y0 y1 y2 y3 ⊢
        clear z0 z1 z2 z3
        go_wp2_with fail
        refine (encName bb bb (G k) fn hf.1 _ M0.out.1 (by omega)).mono ?_
        rintro e Y1 ⟨rfl, hL⟩
        have F1 := Lib.hid (hL.fbox F0.out hne)
        have K1 := Lib.hid (hL.cbox K0.out hne2)
        have M1 := Lib.hid (M0.out.then hL)
        clear hL M0 F0 K0 y0 y1 y2 y3
        obtain ⟨y0, y1, y2, y3⟩ := F1.out.facts
        simp only at y0 y1 y2 y3
        go_wp2_with fail
        refine (encNum bb bb (G k ++ txtB fn) fk (by omega) (by omega) _ M1.out.1 (by rw [List.length_append]; omega)).mono ?_
        rintro e Y2 ⟨rfl, hL⟩
        have F2 := Lib.hid (hL.fbox F1.out hne)
        have K2 := Lib.hid (hL.cbox K1.out hne2)
        have M2 := Lib.hid (M1.out.then hL)
        clear hL M1 F1 K1 y0 y1 y2 y3
        obtain ⟨y0, y1, y2, y3⟩ := F2.out.facts
        simp only at y0 y1 y2 y3
        go_wp2_with fail
        refine (encNum bb bb (G k ++ txtB fn ++ Wire.num fk) fo (by omega) (by omega) _ M2.out.1 (by rw [List.length_append, List.length_append]; omega)).mono ?_
        rintro e Y3 ⟨rfl, hL⟩
        have F3 := Lib.hid (hL.fbox F2.out hne)
        have K3 := Lib.hid (hL.cbox K2.out hne2)
        have M3 := Lib.hid (M2.out.then hL)
        clear hL M2 F2 K2 y0 y1 y2 y3
        obtain ⟨y0, y1, y2, y3⟩ := F3.out.facts
        simp only at y0 y1 y2 y3
        cases fx with
        | true =>
          go_wp2_with fail
          refine (encNum bb bb (G k ++ txtB fn ++ Wire.num fk ++ Wire.num fo) 1 (by decide) (by decide) _ M3.out.1 (by rw [List.length_append, List.length_append, List.length_append]; omega)).mono ?_
          rintro e Y4 ⟨rfl, hL⟩
          have K4 := Lib.hid (hL.cbox K3.out hne2)
          have M4 := Lib.hid (M3.out.then hL)
          clear hL M3 K3 F3 y0 y1 y2 y3
          have hgo : Laid bb bb (G (k + 1)) U Y4 := by
            have h := M4.out
            rw [HS.out]
            exact h
          have HGO := Lib.hid hgo
          clear hgo M4
          go_wp2_with fail
          exact ⟨⟨k + 1, by omega, by go_num, HGO.out, K4.out⟩, by simp [intOf]; omega⟩
        | false =>
          go_wp2_with fail
          refine (encNum bb bb (G k ++ txtB fn ++ Wire.num fk ++ Wire.num fo) 0 (by decide) (by decide) _ M3.out.1 (by rw [List.length_append, List.length_append, List.length_append]; omega)).mono ?_
          rintro e Y4 ⟨rfl, hL⟩
          have K4 := Lib.hid (hL.cbox K3.out hne2)
          have M4 := Lib.hid (M3.out.then hL)
          clear hL M3 K3 F3 y0 y1 y2 y3
          have hgo : Laid bb bb (G (k + 1)) U Y4 := by
            have h := M4.out
            rw [HS.out]
            exact h
          have HGO := Lib.hid hgo
          clear hgo M4
          go_wp2_with fail
          exact ⟨⟨k + 1, by omega, by go_num, HGO.out, K4.out⟩, by simp [intOf]; omega⟩
      · obtain rfl : k = fs.length := by omega
        have e1 : decide ((fs.length : Int) < (fs.length : Int)) = false := decide_eq_false (by omega)
        have HLR := Lib.hid hLr
        clear hLr
        go_wp2_with fail
        refine (Tryd.Builder_String_any_k _ _ (G fs.length) _ HLR.out.1 (by omega)).mono ?_
        rintro e w4 ⟨rfl, _, hB4, _⟩
        have hfin : Below w.heap.size w w4 := (HBW.out.trans (HB2.out.mono (by omega))).trans ((HLR.out.2.1.trans hB4).mono (by omega))
        have he : G fs.length = (Cl.mk cn fs).bytes := by rw [← HG.out]; exact HEND.out
        rw [he]
        go_wp2_with fail
        go_ret2
        exact ⟨rfl, hfin⟩
end Go.Proofs.YtffoklhopmhjaaaDoor

/- moraineref04.Same. -/
set_option linter.unusedSimpArgs false
set_option linter.unusedVariables false
namespace Go.Proofs.YtffoklhopmhjaaaDoor
open Go Go.RowKit Go.Shelf

set_option maxHeartbeats 2000000 in
set_option maxRecDepth 100000 in
theorem rsame_any (cn : ByteArray) (p : Option Addr) (m c : Nat) (fs : List Fl) (dn : ByteArray) (p' : Option Addr) (m' c' : Nat) (gs : List Fl) (w : World) (hl : FLies w p m c fs) (hl' : FLies w p' m' c' gs) (hm : m ≤ 9223372036854775807) (hm' : m' ≤ 9223372036854775807) :
    Calls Tryd.prog 21 #[clV cn p m c, clV dn p' m' c'] w fun e w' => e = .returned (.bool (sameC ⟨cn, fs⟩ ⟨dn, gs⟩)) ∧ Below w.heap.size w w' := by
  rw [sameC_split]
  simp only
  have b2 : Below w.heap.size w ((w.alloc (.cells #[.string cn, .slice p m c] 27)).alloc (.cells #[.string dn, .slice p' m' c'] 27)) := below_two _ _
  have hc1 := (CBox.new w cn p m c).alloc (.cells #[.string dn, .slice p' m' c'] 27)
  have hc2 := CBox.new (w.alloc (.cells #[.string cn, .slice p m c] 27)) dn p' m' c'
  rw [World.size_alloc] at hc2
  obtain ⟨rfl, hL⟩ := hl
  obtain ⟨rfl, hL'⟩ := hl'
  obtain ⟨s0, s1⟩ := hc1.facts
  obtain ⟨t0, t1⟩ := hc2.facts
  have HB2 := Lib.hid b2
  have HC1 := Lib.hid hc1
  have HC2 := Lib.hid hc2
  have HL := Lib.hid hL
  have HL' := Lib.hid hL'
  clear b2 hc1 hc2 hL hL'
  generalize hq : (cn.toList == dn.toList) = q
  cases q with
  | false =>
    have q0 : ¬ cn.toList = dn.toList := by simpa using hq
    go_enter Tryd.func21, Tryd.ntmps21
    go_wp2_with fail
    go_ret
    exact ⟨rfl, HB2.out⟩
  | true =>
  have q0 : cn.toList = dn.toList := by simpa using hq
  clear hq
  rw [Bool.true_and]
  by_cases hlen : fs.length = gs.length
  · have hat := fun k h h' => flsEq_at (fs := fs) (gs := gs) (k := k) h h'
    have hall := fun h => flsEq_all (fs := fs) (gs := gs) hlen h
    generalize flsEq fs gs = r at hat hall ⊢
    have HAT := Lib.hid hat
    have HALL := Lib.hid hall
    have HLEN := Lib.hid hlen
    rw [← hlen] at HB2 HC1 HC2 HL' s0 s1 t0 t1 hm' ⊢
    clear hlen
    clear hat hall
    go_enter Tryd.func21, Tryd.ntmps21
    go_wp2_with fail
    go_loopw [5] (fun i wr => ∃ k : Nat, k ≤ fs.length ∧ i = .int .i64 (k : Int) ∧ (∀ j (h : j < fs.length) (h' : j < gs.length), j < k → fs[j].eqB gs[j] = true) ∧ Below w.heap.size w wr ∧ CBox wr w.heap.size cn p fs.length c ∧ CBox wr (w.heap.size + 1) dn p' fs.length c') (fun i _ => fs.length - (intOf i).toNat)
    case atStart => exact ⟨0, by omega, rfl, fun j _ _ h => absurd h (by omega), HB2.out, HC1.out, HC2.out⟩
    case round =>
      obtain ⟨k, hk, rfl, he, hB, hX, hY⟩ := hrel
      obtain ⟨v0, v1⟩ := hX.facts
      obtain ⟨v2, v3⟩ := hY.facts
      have HX := Lib.hid hX
      have HY := Lib.hid hY
      clear hX hY
      have HE := Lib.hid he; clear he
      by_cases hlt : k < fs.length
      · have hlt' : k < gs.length := by rw [← HLEN.out]; exact hlt
        have e1 : decide ((k : Int) < (fs.length : Int)) = true := decide_eq_true (by omega)
        have e1' : (k : Int) < (fs.length : Int) := by omega
        have e0 : (0 : Int) ≤ (k : Int) := by omega
        obtain ⟨b, off, rfl, hb, hc⟩ := HL.out.at (by omega)
        obtain ⟨b', off', rfl, hb', hc'⟩ := HL'.out.at (by omega)
        have hd : Below w.heap.size w wr.drew := hB.drew
        have hXd := HX.out.below (Below.refl _ _).drew
        have hYd := HY.out.below (Below.refl _ _).drew
        have HXD := Lib.hid hXd
        have HYD := Lib.hid hYd
        obtain ⟨u0, u1⟩ := hXd.facts
        obtain ⟨u2, u3⟩ := hYd.facts
        clear hXd hYd
        have hcx : ∀ (i : Nat) (u : Value), ((fs[k]'hlt).cells)[i]? = some u → wr.drew.cell? ⟨b, off + k * 4 + i, none⟩ = some u := fun i u hu => by
          rw [hd.cell (p := ⟨b, off + k * 4 + i, none⟩) hb, Nat.add_assoc]
          exact hc _ _ (flCells_at fs k hlt i u hu)
        have hcy : ∀ (i : Nat) (u : Value), ((gs[k]'hlt').cells)[i]? = some u → wr.drew.cell? ⟨b', off' + k * 4 + i, none⟩ = some u := fun i u hu => by
          rw [hd.cell (p := ⟨b', off' + k * 4 + i, none⟩) hb', Nat.add_assoc]
          exact hc' _ _ (flCells_at gs k hlt' i u hu)
        have hat := HAT.out k hlt hlt'
        have hnx : (fs[k]'hlt).eqB (gs[k]'hlt') = true → ∀ j (h : j < fs.length) (h' : j < gs.length), j < k + 1 → fs[j].eqB gs[j] = true := fun h j hj hj' hjk => by
          rcases Nat.lt_or_ge j k with h1 | h1
          · exact HE.out j hj hj' h1
          · have e : j = k := by omega
            subst e; exact h
        generalize fs[k]'hlt = f at hcx hat hnx
        generalize gs[k]'hlt' = g at hcy hat hnx
        obtain ⟨fn, fk, fo, fx⟩ := f
        obtain ⟨gn, gk, go, gx⟩ := g
        unfold Fl.eqB at hat hnx
        simp only at hat hnx
        have z0 : wr.drew.cell? ⟨b, off + k * 4, none⟩ = some (.string fn) := hcx 0 _ rfl
        have z1 : wr.drew.cell? ⟨b, off + k * 4 + 1, none⟩ = some (.int .i64 fk) := hcx 1 _ rfl
        have z2 : wr.drew.cell? ⟨b, off + k * 4 + 2, none⟩ = some (.int .i64 fo) := hcx 2 _ rfl
        have z3 : wr.drew.cell? ⟨b, off + k * 4 + 3, none⟩ = some (.bool fx) := hcx 3 _ rfl
        have y0 : wr.drew.cell? ⟨b', off' + k * 4, none⟩ = some (.string gn) := hcy 0 _ rfl
        have y1 : wr.drew.cell? ⟨b', off' + k * 4 + 1, none⟩ = some (.int .i64 gk) := hcy 1 _ rfl
        have y2 : wr.drew.cell? ⟨b', off' + k * 4 + 2, none⟩ = some (.int .i64 go) := hcy 2 _ rfl
        have y3 : wr.drew.cell? ⟨b', off' + k * 4 + 3, none⟩ = some (.bool gx) := hcy 3 _ rfl
        have HATT := Lib.hid hat
        have HNX := Lib.hid hnx
        have HD := Lib.hid hd
        clear hcx hcy hc hc' hat hnx hd hB
        by_cases q0 : fn.toList = gn.toList
        · skip
          by_cases q1 : fk = gk
          · skip
            by_cases q2 : fo = go
            · skip
              by_cases q3 : fx = gx
              · skip
                have hnx := HNX.out (by rw [beq_iff_eq.2 q0, beq_iff_eq.2 q1, beq_iff_eq.2 q2, beq_iff_eq.2 q3]; rfl)
                have HN2 := Lib.hid hnx
                clear hnx
                go_wp2_with fail
                go_region
                go_wp2_with fail
                exact ⟨⟨k + 1, by omega, by go_num, HN2.out, HD.out, HXD.out, HYD.out⟩, by simp [intOf]; omega⟩
              · have hz := HATT.out (by rw [beq_iff_eq.2 q0, beq_iff_eq.2 q1, beq_iff_eq.2 q2, beq_eq_false_iff_ne.2 q3]; rfl)
                have HZ := Lib.hid hz
                clear hz
                go_wp2_with fail
                go_region
                go_wp2_with fail
                go_ret
                exact ⟨by rw [HZ.out] <;> rfl, HD.out⟩
            · have hz := HATT.out (by rw [beq_iff_eq.2 q0, beq_iff_eq.2 q1, beq_eq_false_iff_ne.2 q2]; rfl)
              have HZ := Lib.hid hz
              clear hz
              go_wp2_with fail
              go_region
              go_wp2_with fail
              go_ret
              exact ⟨by rw [HZ.out] <;> rfl, HD.out⟩
          · have hz := HATT.out (by rw [beq_iff_eq.2 q0, beq_eq_false_iff_ne.2 q1]; rfl)
            have HZ := Lib.hid hz
            clear hz
            go_wp2_with fail
            go_region
            go_wp2_with fail
            go_ret
            exact ⟨by rw [HZ.out] <;> rfl, HD.out⟩
        · have hz := HATT.out (by rw [beq_eq_false_iff_ne.2 q0]; rfl)
          have HZ := Lib.hid hz
          clear hz
          go_wp2_with fail
          go_region
          go_wp2_with fail
          go_ret
          exact ⟨by rw [HZ.out] <;> rfl, HD.out⟩
      · obtain rfl : k = fs.length := by omega
        have e1 : decide ((fs.length : Int) < (fs.length : Int)) = false := decide_eq_false (by omega)
        have hz := HALL.out (fun j h h' => HE.out j h h' h)
        have HZ := Lib.hid hz
        clear hz
        go_wp2_with fail
        go_ret
        exact ⟨by rw [HZ.out] <;> rfl, hB⟩
  · have dne : ((fs.length : Int) != (gs.length : Int)) = true := by simp; omega
    have dne' : ¬ (fs.length : Int) = (gs.length : Int) := by omega
    have hz := flsEq_len hlen
    have HZ := Lib.hid hz
    clear hz
    go_enter Tryd.func21, Tryd.ntmps21
    go_wp2_with fail
    go_ret
    exact ⟨by rw [HZ.out] <;> rfl, HB2.out⟩
end Go.Proofs.YtffoklhopmhjaaaDoor

/- class.Decode. -/
set_option linter.unusedSimpArgs false
set_option linter.unusedVariables false
namespace Go.Proofs.YtffoklhopmhjaaaDoor
open Go Go.RowKit Go.Shelf Go.Sort

theorem textP_some {l : List UInt8} {x : List UInt8 × Nat} (h : textP l = some x) : x.1.length ≤ 10000 ∧ x.2 ≤ l.length := by
  unfold textP at h
  cases hn : textL l with
  | none => rw [hn] at h; cases h
  | some v =>
    rw [hn] at h
    cases h
    have h1 := textL_some hn
    have := h1.2.length_le
    rw [List.length_append] at this
    exact ⟨h1.1, this⟩
theorem numP_some {l : List UInt8} {x : Int × Nat} (h : numP l = some x) : (-9223372036854775808 ≤ x.1 ∧ x.1 ≤ 9223372036854775807) ∧ x.2 ≤ l.length := by
  unfold numP at h
  cases hn : numL l with
  | none => rw [hn] at h; cases h
  | some v =>
    rw [hn] at h
    cases h
    have h1 := numL_some hn
    exact ⟨⟨h1.1.1, h1.1.2⟩, h1.2.length_le⟩
theorem seqP_some {α β γ : Type} {P : Prs α} {Q : α → Prs β} {f : α → β → γ} {l : List UInt8} {z : γ × Nat} (h : seqP P Q f l = some z) : ∃ x y, P l = some x ∧ Q x.1 (l.drop x.2) = some y ∧ z = (f x.1 y.1, x.2 + y.2) := by
  unfold seqP at h
  cases hp : P l with
  | none => rw [hp] at h; cases h
  | some x =>
    rw [hp] at h
    simp only at h
    cases hq : Q x.1 (l.drop x.2) with
    | none => rw [hq] at h; cases h
    | some y =>
      rw [hq] at h
      exact ⟨x, y, rfl, hq, (Option.some.inj h).symm⟩
theorem fieldP_fine {l : List UInt8} {z : Fl × Nat} (h : fieldP l = some z) : z.1.fine ∧ z.2 ≤ l.length := by
  obtain ⟨x, y, h1, h2, rfl⟩ := seqP_some h
  obtain ⟨x2, y2, h3, h4, rfl⟩ := seqP_some h2
  obtain ⟨x3, y3, h5, h6, rfl⟩ := seqP_some h4
  have a := textP_some h1
  have b := numP_some h3
  have c := numP_some h5
  have d : y3.2 ≤ ((l.drop x.2).drop x2.2 |>.drop x3.2).length := by
    unfold ixP at h6
    cases hn : numP ((l.drop x.2).drop x2.2 |>.drop x3.2) with
    | none => rw [hn] at h6; cases h6
    | some v =>
      rw [hn] at h6
      simp only at h6
      have e := (numP_some hn).2
      split at h6
      · cases h6; exact e
      · split at h6
        · cases h6; exact e
        · cases h6
  simp only [List.length_drop] at b c d
  refine ⟨⟨?_, b.1, c.1⟩, ?_⟩
  · show (⟨x.1.toArray⟩ : ByteArray).size ≤ _
    have : (⟨x.1.toArray⟩ : ByteArray).size = x.1.length := List.size_toArray
    omega
  · show x.2 + (x2.2 + (x3.2 + y3.2)) ≤ l.length
    have := a.2
    omega
theorem fieldsP_fine : ∀ (n : Nat) (l : List UInt8) (z : List Fl × Nat), fieldsP n l = some z → (∀ f ∈ z.1, f.fine) ∧ z.2 ≤ l.length
  | 0, l, z, h => by cases h; exact ⟨by simp, Nat.zero_le _⟩
  | n + 1, l, z, h => by
    obtain ⟨x, y, h1, h2, rfl⟩ := seqP_some h
    have a := fieldP_fine h1
    have b := fieldsP_fine n _ _ h2
    rw [List.length_drop] at b
    refine ⟨fun f hf => ?_, ?_⟩
    · rcases List.mem_cons.1 hf with rfl | hf
      · exact a.1
      · exact b.1 f hf
    · show x.2 + y.2 ≤ l.length
      omega
theorem clsP_fine {l : List UInt8} {z : Cl × Nat} (h : clsP l = some z) : z.1.nm.size ≤ 10000 ∧ (∀ f ∈ z.1.fs, f.fine) ∧ z.2 ≤ l.length := by
  obtain ⟨x, y, h1, h2, rfl⟩ := seqP_some h
  obtain ⟨x2, y2, h3, h4, rfl⟩ := seqP_some h2
  have a := textP_some h1
  have b := fieldsP_fine _ _ _ h4
  have c : x2.2 ≤ (l.drop x.2).length := by
    unfold sizeP at h3
    cases hn : numP (l.drop x.2) with
    | none => rw [hn] at h3; cases h3
    | some v =>
      rw [hn] at h3
      simp only at h3
      have e := (numP_some hn).2
      split at h3
      · cases h3; exact e
      · cases h3
  simp only [List.length_drop] at b c
  refine ⟨?_, b.1, ?_⟩
  · show (⟨x.1.toArray⟩ : ByteArray).size ≤ _
    have : (⟨x.1.toArray⟩ : ByteArray).size = x.1.length := List.size_toArray
    omega
  · show x.2 + (x2.2 + y2.2) ≤ l.length
    have := a.2
    omega

theorem dec_fin {w W : World} {A : Nat} {nm : ByteArray} {p : Option Addr} {m c : Nat} (h : CBox W A nm p m c) (hb : Below w.heap.size w W) (hA : w.heap.size ≤ A) (nm' : ByteArray) (q : Option Addr) (m' c' : Nat) :
    CBox ((W.setCell ⟨A, 0, none⟩ (.string nm')).setCell ⟨A, 1, none⟩ (.slice q m' c')) A nm' q m' c' ∧ Below w.heap.size w ((W.setCell ⟨A, 0, none⟩ (.string nm')).setCell ⟨A, 1, none⟩ (.slice q m' c')) :=
  ⟨(h.set0 nm').set1 q m' c', (hb.setCell (p := ⟨A, 0, none⟩) hA _).setCell (p := ⟨A, 1, none⟩) hA _⟩
theorem below_kept {w W W' : World} {R : Nat} (h : Below w.heap.size w W) (hk : Kept R W W') (hR : w.heap.size ≤ R) : Below w.heap.size w W' := below_grown h hk hR
theorem lies_apart {W : World} {p : Option Addr} {m c : Nat} {fs : List Fl} (h : FLies W p m c fs) {A : Nat} {nm' : ByteArray} {p' : Option Addr} {m' c' : Nat} (hA : CBox W A nm' p' m' c') (i : Nat) (v : Value) : FLies (W.setCell ⟨A, i, none⟩ v) p m c fs := by
  obtain ⟨rfl, h1, h2⟩ := h
  refine ⟨rfl, h1, ?_⟩
  cases fs with
  | nil => exact .inl ⟨rfl, p, c, rfl⟩
  | cons f fs =>
    rcases h2 with ⟨h0, _⟩ | ⟨b, off, d, e, hb, hc⟩
    · simp at h0
    · have hbA : b ≠ A := by
        rintro rfl
        have k0 := hc 0 (.string f.nm) rfl
        have k1 := hc 1 (.int .i64 f.k) rfl
        rw [Lib.cell_of_heap hA] at k0 k1
        match off with
        | 0 => simp at k1
        | 1 => simp at k0
        | off + 2 => simp at k0
      refine .inr ⟨b, off, d, e, by simpa using hb, fun j u hu => ?_⟩
      have hh : (W.setCell ⟨A, i, none⟩ v).heap[b]? = W.heap[b]? := Below.heap_setCell W ⟨A, i, none⟩ v b hbA
      have := hc j u hu
      unfold World.cell? at this ⊢
      simp only at this ⊢
      rw [hh]
      exact this
theorem fieldsP_len : ∀ (n : Nat) (l : List UInt8) (z : List Fl × Nat), fieldsP n l = some z → z.1.length = n
  | 0, l, z, h => by cases h; rfl
  | n + 1, l, z, h => by
    obtain ⟨x, y, h1, h2, rfl⟩ := seqP_some h
    have := fieldsP_len n _ _ h2
    show (x.1 :: y.1).length = n + 1
    rw [List.length_cons, this]
theorem clsP_len {l : List UInt8} {z : Cl × Nat} (h : clsP l = some z) : z.1.fs.length ≤ 8 := by
  obtain ⟨x, y, h1, h2, rfl⟩ := seqP_some h
  obtain ⟨x2, y2, h3, h4, rfl⟩ := seqP_some h2
  have a := fieldsP_len _ _ _ h4
  show y2.1.length ≤ 8
  rw [a]
  unfold sizeP at h3
  cases hn : numP (l.drop x.2) with
  | none => rw [hn] at h3; cases h3
  | some v =>
    rw [hn] at h3
    simp only at h3
    split at h3
    · cases h3
      show v.1.toNat ≤ 8
      omega
    · cases h3

/-- what Decode answers -/
def decCPost (s : ByteArray) (p : Nat) (w : World) (e : Ending) (w' : World) : Prop :=
  Below w.heap.size w w' ∧ match decC (s.data.toList.drop p) with
    | none => e = .returned (.tuple #[clV ⟨#[]⟩ none 0 0, .int .i64 0, .int .i64 10])
    | some y => ∃ (q : Option Addr) (m c : Nat), e = .returned (.tuple #[clV y.1.nm q m c, .int .i64 ((p + y.2 : Nat) : Int), .int .i64 0]) ∧ FLies w' q m c y.1.fs ∧ m ≤ 8

set_option maxHeartbeats 8000000 in
set_option maxRecDepth 100000 in
theorem clsDecode_any (s : ByteArray) (hs : s.size ≤ 9223372036854775807) (p : Nat) (hp : p ≤ s.size) (ea : Addr) (w : World) (hT : Tabs w) (hE : errLies ea w) :
    Calls Tryd.prog 15 #[.string s, .int .i64 (p : Int)] w (decCPost s p w) := by
  have b2 : Below w.heap.size w ((w.alloc (.cells #[.string ⟨#[]⟩, .slice none 0 0] 27)).alloc (.cells #[.string s, .int .i64 (p : Int), .bool false] 95)) := below_two _ _
  have hA := (CBox.new w ⟨#[]⟩ none 0 0).alloc (.cells #[.string s, .int .i64 (p : Int), .bool false] 95)
  have hR : RrO w ea s (w.heap.size + 1) (some p) ((w.alloc (.cells #[.string ⟨#[]⟩, .slice none 0 0] 27)).alloc (.cells #[.string s, .int .i64 (p : Int), .bool false] 95)) := by
    refine ⟨hs, hE, b2, by omega, ?_, hp⟩
    have h := World.alloc_heap_new (w.alloc (.cells #[.string ⟨#[]⟩, .slice none 0 0] 27)) (.cells #[.string s, .int .i64 (p : Int), .bool false] 95)
    rw [World.size_alloc] at h
    exact h
  have hread := clsRead_any w ea s (w.heap.size + 1) (some p) _ hR (by omega)
  have hrun := clsRun_is s p
  unfold readCPost at hread
  generalize clsRun s (some p) = res at hread hrun
  generalize (⟨(textS s (some p)).1.toArray⟩ : ByteArray) = nm0 at hread hrun
  unfold decCPost
  have hdec : decC (s.data.toList.drop p) = match clsP (s.data.toList.drop p) with
    | none => none
    | some x => if x.1.ok = true then some x else none := rfl
  rw [hdec]
  clear hdec
  have HREAD := Lib.hid hread
  have HA := Lib.hid hA
  have HB2 := Lib.hid b2
  have HTT := Lib.hid (show ∀ W, Below w.heap.size w W → Tabs W from fun W h => hT.below h)
  have hnew := rdNew s (p : Int) (w.alloc (.cells #[.string ⟨#[]⟩, .slice none 0 0] 27))
  rw [World.size_alloc] at hnew
  have HNEW := Lib.hid hnew
  clear hread hA b2 hT hR hnew hE
  cases hcp : clsP (s.data.toList.drop p) with
  | none =>
    rw [hcp] at hrun
    simp only at hrun ⊢
    have HRUN := Lib.hid hrun
    clear hrun hcp
    go_enter Tryd.func15, Tryd.ntmps15
    go_wp2_with fail
    refine HNEW.out.mono ?_
    rintro e W2 ⟨rfl, rfl⟩
    go_wp2_with fail
    refine HREAD.out.mono ?_
    rintro e W3 ⟨hk, hr, cn, q, m, c, rfl, hok⟩
    have hB3 := below_kept HB2.out hk (by omega)
    have hA3 := HA.out.grown hk (fun e => by have := Option.some.inj e; omega)
    have hal : Below W3.heap.size W3 (W3.alloc (.cells #[.string cn, .slice q m c] 27)) := (Below.refl _ _).alloc (Nat.le_refl _) _
    have HA4 := Lib.hid (hA3.below hal)
    have HB4 := Lib.hid (hB3.trans (hal.mono hB3.size))
    have hr4 := hr.below hal
    obtain ⟨p', bad, hr5, hbad⟩ : ∃ p' bad, Rr w ea s (w.heap.size + 1) p' bad (W3.alloc (.cells #[.string cn, .slice q m c] 27)) ∧ (res.1 = false ∨ bad = true) := by
      obtain ⟨r1, r2, r3⟩ := res
      simp only at hr4 HRUN
      cases r3 with
      | none =>
        obtain ⟨p', h⟩ := hr4
        exact ⟨p', true, h, .inr rfl⟩
      | some p' => exact ⟨p', false, hr4, .inl (HRUN.out.resolve_right (by simp))⟩
    have hend := rdEnd w ea s (w.heap.size + 1) p' bad _ hr5
    have HEND := Lib.hid hend
    generalize res.1 = ok at hbad ⊢
    clear hk hr hok hB3 hA3 hal hr4 hr5 hend
    go_wp2_with fail
    generalize W3.alloc (.cells #[.string cn, .slice q m c] 27) = W4 at HA4 HB4 HEND ⊢
    refine HEND.out.mono ?_
    rintro e W5 ⟨rfl, hB5⟩
    have HA9 := Lib.hid (HA4.out.below hB5)
    have HB9 := Lib.hid (HB4.out.trans (hB5.mono HB4.out.size))
    clear hB5 HA4 HB4 HEND
    cases ok with
    | false =>
      have hf := dec_fin HA9.out HB9.out (Nat.le_refl _) ⟨#[]⟩ none 0 0
      have HF := Lib.hid hf
      obtain ⟨g0, g1⟩ := HA9.out.facts
      obtain ⟨g2, g3⟩ := HA9.out.free
      clear hf
      go_wp2_with fail
      have hf := HF.out
      generalize ((W5.setCell ⟨w.heap.size, 0, none⟩ (.string ⟨#[]⟩)).setCell ⟨w.heap.size, 1, none⟩ (.slice none 0 0)) = W9 at hf ⊢
      obtain ⟨x0, x1⟩ := hf.1.facts
      exact bodyPost_ret (v := .tuple #[clV ⟨#[]⟩ none 0 0, .int .i64 0, .int .i64 10]) (by simp [results, Tryd.results15, go_sem, x0, x1]) rfl (⟨hf.2, rfl⟩)
    | true =>
      obtain rfl : bad = true := hbad.resolve_left (by simp)
      have hf := dec_fin HA9.out HB9.out (Nat.le_refl _) ⟨#[]⟩ none 0 0
      have HF := Lib.hid hf
      obtain ⟨g0, g1⟩ := HA9.out.facts
      obtain ⟨g2, g3⟩ := HA9.out.free
      clear hf
      go_wp2_with fail
      have hf := HF.out
      generalize ((W5.setCell ⟨w.heap.size, 0, none⟩ (.string ⟨#[]⟩)).setCell ⟨w.heap.size, 1, none⟩ (.slice none 0 0)) = W9 at hf ⊢
      obtain ⟨x0, x1⟩ := hf.1.facts
      exact bodyPost_ret (v := .tuple #[clV ⟨#[]⟩ none 0 0, .int .i64 0, .int .i64 10]) (by simp [results, Tryd.results15, go_sem, x0, x1]) rfl (⟨hf.2, rfl⟩)
  | some y =>
    rw [hcp] at hrun
    simp only at hrun ⊢
    obtain ⟨hres, hnm⟩ := hrun
    obtain ⟨yf1, yf2, yf3⟩ := clsP_fine hcp
    have yf4 := clsP_len hcp
    subst hres
    subst hnm
    clear hcp
    obtain ⟨⟨cn, fs⟩, n⟩ := y
    simp only at yf1 yf2 yf3 yf4 HREAD ⊢
    have hrt := fun q c W (h : FLies W q fs.length c fs) (hT : Tabs W) => clsRight_any cn q fs.length c fs (by omega) yf2 W h (by omega) hT
    generalize (Cl.mk cn fs).ok = okk at hrt ⊢
    have HRT := Lib.hid hrt
    clear hrt yf2
    cases okk with
    | false =>
      rw [if_neg (by decide)]
      simp only
      go_enter Tryd.func15, Tryd.ntmps15
      go_wp2_with fail
      refine HNEW.out.mono ?_
      rintro e W2 ⟨rfl, rfl⟩
      go_wp2_with fail
      refine HREAD.out.mono ?_
      rintro e W3 ⟨hk, hr, cn', q, m, c, rfl, hok⟩
      obtain ⟨rfl, hfl⟩ := hok (by trivial)
      have hml := hfl.1
      subst hml
      have hB3 := below_kept HB2.out hk (by omega)
      have hA3 := HA.out.grown hk (fun e => by have := Option.some.inj e; omega)
      have hal : Below W3.heap.size W3 (W3.alloc (.cells #[.string cn', .slice q fs.length c] 27)) := (Below.refl _ _).alloc (Nat.le_refl _) _
      have HA4 := Lib.hid (hA3.below hal)
      have HB4 := Lib.hid (hB3.trans (hal.mono hB3.size))
      have hr4 : Rr w ea s (w.heap.size + 1) (p + n) false _ := hr.below hal
      have hend := rdEnd w ea s (w.heap.size + 1) (p + n) false _ hr4
      have HC4 := Lib.hid (CBox.new W3 cn' q fs.length c)
      have HL4 := Lib.hid (hfl.below hal)
      have HEND := Lib.hid hend
      clear hk hr hok hB3 hA3 hal hr4 hend hfl
      go_wp2_with fail
      generalize W3.alloc (.cells #[.string cn', .slice q fs.length c] 27) = W4 at HA4 HB4 HC4 HL4 HEND ⊢
      generalize W3.heap.size = b8 at HC4 ⊢
      refine HEND.out.mono ?_
      rintro e W5 ⟨rfl, hB5⟩
      have HA5 := Lib.hid (HA4.out.below hB5)
      have HB5 := Lib.hid (HB4.out.trans (hB5.mono HB4.out.size))
      have HC5 := Lib.hid (HC4.out.below hB5)
      have HL5 := Lib.hid (HL4.out.below hB5)
      clear hB5 HA4 HB4 HEND HC4 HL4
      obtain ⟨k0, k1⟩ := HC5.out.facts
      go_wp2_with fail
      refine (HRT.out _ _ _ HL5.out (HTT.out _ HB5.out)).mono ?_
      rintro e W6 ⟨rfl, hB6⟩
      have HA9 := Lib.hid (HA5.out.below hB6)
      have HB9 := Lib.hid (HB5.out.trans (hB6.mono HB5.out.size))
      have HC9 := Lib.hid (HC5.out.below hB6)
      have HL9 := Lib.hid (HL5.out.below hB6)
      clear hB6 HA5 HB5 HC5 HL5 k0 k1
      have hf := dec_fin HA9.out HB9.out (Nat.le_refl _) ⟨#[]⟩ none 0 0
      have HF := Lib.hid hf
      obtain ⟨g0, g1⟩ := HA9.out.facts
      obtain ⟨g2, g3⟩ := HA9.out.free
      clear hf
      go_wp2_with fail
      have hf := HF.out
      generalize ((W6.setCell ⟨w.heap.size, 0, none⟩ (.string ⟨#[]⟩)).setCell ⟨w.heap.size, 1, none⟩ (.slice none 0 0)) = W9 at hf ⊢
      obtain ⟨x0, x1⟩ := hf.1.facts
      exact bodyPost_ret (v := .tuple #[clV ⟨#[]⟩ none 0 0, .int .i64 0, .int .i64 10]) (by simp [results, Tryd.results15, go_sem, x0, x1]) rfl (⟨hf.2, rfl⟩)
    | true =>
      rw [if_pos rfl]
      simp only
      go_enter Tryd.func15, Tryd.ntmps15
      go_wp2_with fail
      refine HNEW.out.mono ?_
      rintro e W2 ⟨rfl, rfl⟩
      go_wp2_with fail
      refine HREAD.out.mono ?_
      rintro e W3 ⟨hk, hr, cn', q, m, c, rfl, hok⟩
      obtain ⟨rfl, hfl⟩ := hok (by trivial)
      have hml := hfl.1
      subst hml
      have hB3 := below_kept HB2.out hk (by omega)
      have hA3 := HA.out.grown hk (fun e => by have := Option.some.inj e; omega)
      have hal : Below W3.heap.size W3 (W3.alloc (.cells #[.string cn', .slice q fs.length c] 27)) := (Below.refl _ _).alloc (Nat.le_refl _) _
      have HA4 := Lib.hid (hA3.below hal)
      have HB4 := Lib.hid (hB3.trans (hal.mono hB3.size))
      have hr4 : Rr w ea s (w.heap.size + 1) (p + n) false _ := hr.below hal
      have hend := rdEnd w ea s (w.heap.size + 1) (p + n) false _ hr4
      have HC4 := Lib.hid (CBox.new W3 cn' q fs.length c)
      have HL4 := Lib.hid (hfl.below hal)
      have HEND := Lib.hid hend
      clear hk hr hok hB3 hA3 hal hr4 hend hfl
      go_wp2_with fail
      generalize W3.alloc (.cells #[.string cn', .slice q fs.length c] 27) = W4 at HA4 HB4 HC4 HL4 HEND ⊢
      generalize W3.heap.size = b8 at HC4 ⊢
      refine HEND.out.mono ?_
      rintro e W5 ⟨rfl, hB5⟩
      have HA5 := Lib.hid (HA4.out.below hB5)
      have HB5 := Lib.hid (HB4.out.trans (hB5.mono HB4.out.size))
      have HC5 := Lib.hid (HC4.out.below hB5)
      have HL5 := Lib.hid (HL4.out.below hB5)
      clear hB5 HA4 HB4 HEND HC4 HL4
      obtain ⟨k0, k1⟩ := HC5.out.facts
      go_wp2_with fail
      refine (HRT.out _ _ _ HL5.out (HTT.out _ HB5.out)).mono ?_
      rintro e W6 ⟨rfl, hB6⟩
      have HA9 := Lib.hid (HA5.out.below hB6)
      have HB9 := Lib.hid (HB5.out.trans (hB6.mono HB5.out.size))
      have HC9 := Lib.hid (HC5.out.below hB6)
      have HL9 := Lib.hid (HL5.out.below hB6)
      clear hB6 HA5 HB5 HC5 HL5 k0 k1
      obtain ⟨k0, k1⟩ := HC9.out.facts
      have hf := dec_fin HA9.out HB9.out (Nat.le_refl _) cn' q fs.length c
      have HF := Lib.hid hf
      have hf2 := lies_apart (lies_apart HL9.out HA9.out 0 (.string cn')) (HA9.out.set0 cn') 1 (.slice q fs.length c)
      have HF2 := Lib.hid hf2
      obtain ⟨g0, g1⟩ := HA9.out.facts
      obtain ⟨g2, g3⟩ := HA9.out.free
      clear hf hf2
      go_wp2_with fail
      have hf := HF.out
      have hf2 := HF2.out
      generalize ((W6.setCell ⟨w.heap.size, 0, none⟩ (.string cn')).setCell ⟨w.heap.size, 1, none⟩ (.slice q fs.length c)) = W9 at hf hf2 ⊢
      obtain ⟨x0, x1⟩ := hf.1.facts
      exact bodyPost_ret (v := .tuple #[clV cn' q fs.length c, .int .i64 ((p + n : Nat) : Int), .int .i64 0]) (by simp [results, Tryd.results15, go_sem, x0, x1]) rfl (⟨hf.2, q, fs.length, c, rfl, hf2, yf4⟩)
end Go.Proofs.YtffoklhopmhjaaaDoor

/- class.Check. -/
set_option linter.unusedSimpArgs false
set_option linter.unusedVariables false
namespace Go.Proofs.YtffoklhopmhjaaaDoor
open Go Go.RowKit Go.Shelf

/-- the k-th value fits the k-th field -/
def fitAt (fs : List Fl) (vs : List V) (k : Nat) : Bool := ((fs[k]?).bind (fun f => (vs[k]?).map (fun v => fitsB v f.k f.o))).getD true
theorem fitAt_of {fs : List Fl} {vs : List V} {k : Nat} (h : k < fs.length) (h' : k < vs.length) : fitAt fs vs k = fitsB vs[k] fs[k].k fs[k].o := by
  unfold fitAt
  rw [List.getElem?_eq_getElem h, List.getElem?_eq_getElem h']; rfl
/-- the first value that doesn't fit -/
def misfit (fs : List Fl) (vs : List V) : Option Nat := (List.range fs.length).find? (fun k => !fitAt fs vs k)
theorem misfit_at {fs : List Fl} {vs : List V} {k : Nat} (h : k < fs.length) (hb : ∀ j, j < k → fitAt fs vs j = true) (hk : fitAt fs vs k = false) : misfit fs vs = some k := by
  unfold misfit
  rw [List.find?_range_eq_some]
  exact ⟨by rw [hk]; rfl, List.mem_range.2 h, fun j hj => by rw [hb j hj]; rfl⟩
theorem misfit_none {fs : List Fl} {vs : List V} (hb : ∀ j, j < fs.length → fitAt fs vs j = true) : misfit fs vs = none := by
  unfold misfit
  rw [List.find?_eq_none]
  intro j hj
  rw [hb j (List.mem_range.1 hj)]; decide
/-- what Check answers -/
def checkC (cl : Cl) (vs : List V) : Int × Int :=
  if cl.ok = false then (0, 40) else if vs.length ≠ cl.fs.length then (min (vs.length : Int) (cl.fs.length : Int), 42) else match misfit cl.fs vs with
  | some k => ((k : Int), 42)
  | none => (0, 0)
/-- values lie in a slice -/
def VsAt (d : Nat) (W : World) (vs : List V) (p : Option Addr) (m c : Nat) : Prop := ∃ ys : List It, m = ys.length ∧ ys.length = vs.length ∧ Lies W (.slice p ys.length c) ys.length 4 (itsCells ys) ∧ ∀ (i : Nat) (h : i < ys.length) (h' : i < vs.length), VAt d W vs[i] ys[i]
theorem VsAt.below {d : Nat} {W W' : World} {vs : List V} {p : Option Addr} {m c : Nat} (h : VsAt d W vs p m c) (hb : Below W.heap.size W W') : VsAt d W' vs p m c := by
  obtain ⟨ys, h1, h2, h3, h4⟩ := h
  exact ⟨ys, h1, h2, h3.below hb, fun i a b => (h4 i a b).below hb⟩

set_option maxHeartbeats 4000000 in
set_option maxRecDepth 100000 in
theorem clsCheck_any (d : Nat) (cn : ByteArray) (p : Option Addr) (m c : Nat) (fs : List Fl) (hcn : cn.size ≤ 9223372036854775807) (hff : ∀ f ∈ fs, f.fine) (vs : List V) (q : Option Addr) (m2 c2 : Nat) (w : World) (hl : FLies w p m c fs) (hm : m ≤ 9223372036854775807) (hv : VsAt d w vs q m2 c2) (hm2 : m2 ≤ 9223372036854775807) (hT : Tabs w) :
    Calls Tryd.prog 12 #[clV cn p m c, .slice q m2 c2] w fun e w' => e = .returned (.tuple #[.int .i64 (checkC ⟨cn, fs⟩ vs).1, .int .i64 (checkC ⟨cn, fs⟩ vs).2]) ∧ Below w.heap.size w w' := by
  have hb : Below w.heap.size w (w.alloc (.cells #[.string cn, .slice p m c] 27)) := (Below.refl _ _).alloc (Nat.le_refl _) _
  have hright := clsRight_any cn p m c fs hcn hff _ (hl.below hb) hm (hT.below hb)
  obtain ⟨rfl, hL⟩ := hl
  obtain ⟨ys, rfl, hlen, hvl, hvi⟩ := hv
  have hC := CBox.new w cn p fs.length c
  have hbad1 : (Cl.mk cn fs).ok = false → checkC ⟨cn, fs⟩ vs = (0, 40) := fun h => by unfold checkC; rw [if_pos h]
  have hbad2 : (Cl.mk cn fs).ok = true → vs.length ≠ fs.length → checkC ⟨cn, fs⟩ vs = (min (vs.length : Int) (fs.length : Int), 42) := fun h h2 => by unfold checkC; rw [if_neg (by rw [h]; decide), if_pos h2]
  have hbad3 : (Cl.mk cn fs).ok = true → vs.length = fs.length → ∀ k, k < fs.length → (∀ j, j < k → fitAt fs vs j = true) → fitAt fs vs k = false → checkC ⟨cn, fs⟩ vs = ((k : Int), 42) := fun h h2 k hk hj hk2 => by unfold checkC; rw [if_neg (by rw [h]; decide), if_neg (fun e => e h2), show (Cl.mk cn fs).fs = fs from rfl, misfit_at hk hj hk2]
  have hgood : (Cl.mk cn fs).ok = true → vs.length = fs.length → (∀ j, j < fs.length → fitAt fs vs j = true) → checkC ⟨cn, fs⟩ vs = (0, 0) := fun h h2 hj => by unfold checkC; rw [if_neg (by rw [h]; decide), if_neg (fun e => e h2), show (Cl.mk cn fs).fs = fs from rfl, misfit_none hj]
  generalize checkC ⟨cn, fs⟩ vs = r at hbad1 hbad2 hbad3 hgood ⊢
  obtain ⟨r1, r2⟩ := r
  simp only
  generalize (Cl.mk cn fs).ok = ok at hright hbad1 hbad2 hbad3 hgood
  have HL := Lib.hid hL
  have HB := Lib.hid hb
  have HC := Lib.hid hC
  have HR := Lib.hid hright
  have HBAD1 := Lib.hid hbad1
  have HBAD2 := Lib.hid hbad2
  have HBAD3 := Lib.hid hbad3
  have HGOOD := Lib.hid hgood
  have HVL := Lib.hid hvl
  have HVI := Lib.hid hvi
  have HLEN := Lib.hid hlen
  have HTT := Lib.hid (show ∀ W, Below w.heap.size w W → Tabs W from fun W h => hT.below h)
  clear hL hb hC hright hbad1 hbad2 hbad3 hgood hvl hvi hlen hT
  go_enter Tryd.func12, Tryd.ntmps12
  go_wp2_with fail
  refine HR.out.mono ?_
  rintro e W1 ⟨rfl, hB1⟩
  have hC1 := HC.out.below hB1
  have hBw := HB.out.trans (hB1.mono HB.out.size)
  have HC1 := Lib.hid hC1
  have HBW := Lib.hid hBw
  obtain ⟨c0, c1⟩ := hC1.facts
  clear hB1 hC1 hBw HB HC HR
  cases ok with
  | false =>
    have hz := HBAD1.out rfl
    have HZ1 := Lib.hid (congrArg Prod.fst hz)
    have HZ2 := Lib.hid (congrArg Prod.snd hz)
    clear hz
    go_wp2_with fail
    go_ret2
    exact ⟨by rw [HZ1.out, HZ2.out] <;> rfl, HBW.out⟩
  | true =>
    by_cases hn : ys.length = fs.length
    · have n1 : ((ys.length : Int) != (fs.length : Int)) = false := by rw [bne_eq_false_iff_eq]; omega
      have HN := Lib.hid hn
      clear hn
      go_wp2_with fail
      go_loopw [25] (fun i wr => ∃ k : Nat, k ≤ fs.length ∧ i = .int .i64 (k : Int) ∧ (∀ j, j < k → fitAt fs vs j = true) ∧ Below w.heap.size w wr ∧ CBox wr w.heap.size cn p fs.length c) (fun i _ => fs.length - (intOf i).toNat)
      case atStart => exact ⟨0, by omega, rfl, fun j h => absurd h (by omega), HBW.out, HC1.out⟩
      case round =>
        obtain ⟨k, hk, rfl, he, hB, hCr⟩ := hrel
        have HE := Lib.hid he; clear he
        by_cases hlt : k < fs.length
        · have hlt2 : k < ys.length := by rw [HN.out]; exact hlt
          have hlt3 : k < vs.length := by rw [← HLEN.out]; exact hlt2
          have e1 : decide ((k : Int) < (ys.length : Int)) = true := decide_eq_true (by omega)
          have e1' : (k : Int) < (ys.length : Int) := by omega
          have e1'' : (k : Int) < (fs.length : Int) := by omega
          have e0 : (0 : Int) ≤ (k : Int) := by omega
          obtain ⟨b, off, rfl, hbb, hc⟩ := HL.out.at (by omega)
          obtain ⟨b', off', rfl, hbb', hc'⟩ := HVL.out.at (by omega)
          have hcx : ∀ (i : Nat) (u : Value), ((fs[k]'hlt).cells)[i]? = some u → wr.cell? ⟨b, off + k * 4 + i, none⟩ = some u := fun i u hu => by
            rw [hB.cell (p := ⟨b, off + k * 4 + i, none⟩) hbb, Nat.add_assoc]
            exact hc _ _ (flCells_at fs k hlt i u hu)
          have hcy : ∀ (i : Nat) (u : Value), ((ys[k]'hlt2).cells)[i]? = some u → wr.cell? ⟨b', off' + k * 4 + i, none⟩ = some u := fun i u hu => by
            rw [hB.cell (p := ⟨b', off' + k * 4 + i, none⟩) hbb', Nat.add_assoc]
            exact hc' _ _ (itsCells_at ys k hlt2 i u hu)
          have hfa := fitAt_of hlt hlt3
          have hva := HVI.out k hlt2 hlt3
          have hbad := fun h1 => HBAD3.out (by simp) (by rw [← HLEN.out]; exact HN.out) k hlt HE.out h1
          have hnx : fitAt fs vs k = true → ∀ j, j < k + 1 → fitAt fs vs j = true := fun h j hj => by
            rcases Nat.lt_or_ge j k with h1 | h1
            · exact HE.out j h1
            · have e : j = k := by omega
              subst e; exact h
          generalize fitAt fs vs k = ft at hfa hbad hnx
          have hfit := fun W (h : Below wr.heap.size wr W) => fits_V d vs[k] ys[k] fs[k].k fs[k].o W ((hva.below hB).below h) ((HTT.out wr hB).below h)
          rw [← hfa] at hfit
          generalize fs[k]'hlt = f at hcx hfit hfa
          generalize ys[k]'hlt2 = y at hcy hfit hva
          obtain ⟨fn, fk, fo, fx⟩ := f
          obtain ⟨yk, yn, yz, yp, ym, yc⟩ := y
          have hfit2 : ∀ W, Below wr.heap.size wr W → Calls Tryd.prog 24 #[.agg #[.int .i64 yk, .int .i64 yn, .string yz, .slice yp ym yc], .agg #[.int .i64 fk, .int .i64 fo]] W fun e w' => e = .returned (.bool ft) ∧ Below W.heap.size W w' := hfit
          have z1 : wr.cell? ⟨b, off + k * 4 + 1, none⟩ = some (.int .i64 fk) := hcx 1 _ rfl
          have z2 : wr.cell? ⟨b, off + k * 4 + 2, none⟩ = some (.int .i64 fo) := hcx 2 _ rfl
          have y0 : wr.cell? ⟨b', off' + k * 4, none⟩ = some (.int .i64 yk) := hcy 0 _ rfl
          have y1 : wr.cell? ⟨b', off' + k * 4 + 1, none⟩ = some (.int .i64 yn) := hcy 1 _ rfl
          have y2 : wr.cell? ⟨b', off' + k * 4 + 2, none⟩ = some (.string yz) := hcy 2 _ rfl
          have y3 : wr.cell? ⟨b', off' + k * 4 + 3, none⟩ = some (.slice yp ym yc) := hcy 3 _ rfl
          have hal : Below wr.heap.size wr (wr.alloc (.cells #[.int .i64 yk, .int .i64 yn, .string yz, .slice yp ym yc] 31)).drew := ((Below.refl _ _).alloc (Nat.le_refl _) _).drew
          have hbz : b < wr.heap.size := Nat.lt_of_lt_of_le hbb hB.size
          have hS0 : (wr.alloc (.cells #[.int .i64 yk, .int .i64 yn, .string yz, .slice yp ym yc] 31)).drew.cell? ⟨b, off + k * 4 + 1, none⟩ = some (.int .i64 fk) ∧ (wr.alloc (.cells #[.int .i64 yk, .int .i64 yn, .string yz, .slice yp ym yc] 31)).drew.cell? ⟨b, off + k * 4 + 2, none⟩ = some (.int .i64 fo) ∧ (wr.alloc (.cells #[.int .i64 yk, .int .i64 yn, .string yz, .slice yp ym yc] 31)).drew.cell? ⟨w.heap.size, 1, none⟩ = some (.slice (some ⟨b, off, none⟩) fs.length c) ∧ (wr.alloc (.cells #[.int .i64 yk, .int .i64 yn, .string yz, .slice yp ym yc] 31)).drew.cell? ⟨wr.heap.size, 0, none⟩ = some (.int .i64 yk) ∧ (wr.alloc (.cells #[.int .i64 yk, .int .i64 yn, .string yz, .slice yp ym yc] 31)).drew.cell? ⟨wr.heap.size, 1, none⟩ = some (.int .i64 yn) ∧ (wr.alloc (.cells #[.int .i64 yk, .int .i64 yn, .string yz, .slice yp ym yc] 31)).drew.cell? ⟨wr.heap.size, 2, none⟩ = some (.string yz) ∧ (wr.alloc (.cells #[.int .i64 yk, .int .i64 yn, .string yz, .slice yp ym yc] 31)).drew.cell? ⟨wr.heap.size, 3, none⟩ = some (.slice yp ym yc) := by
            have hbx : (wr.alloc (.cells #[.int .i64 yk, .int .i64 yn, .string yz, .slice yp ym yc] 31)).drew.heap[wr.heap.size]? = some (.cells #[.int .i64 yk, .int .i64 yn, .string yz, .slice yp ym yc] 31 (0, 0)) := World.alloc_heap_new _ _
            refine ⟨(hal.cell (p := ⟨b, off + k * 4 + 1, none⟩) hbz).trans z1, (hal.cell (p := ⟨b, off + k * 4 + 2, none⟩) hbz).trans z2, (hCr.below hal).facts.2, ?_, ?_, ?_, ?_⟩ <;> (rw [Lib.cell_of_heap hbx]; rfl)
          have hzz : b < (wr.alloc (.cells #[.int .i64 yk, .int .i64 yn, .string yz, .slice yp ym yc] 31)).drew.heap.size ∧ w.heap.size < (wr.alloc (.cells #[.int .i64 yk, .int .i64 yn, .string yz, .slice yp ym yc] 31)).drew.heap.size ∧ wr.heap.size < (wr.alloc (.cells #[.int .i64 yk, .int .i64 yn, .string yz, .slice yp ym yc] 31)).drew.heap.size := by
            have h1 := hal.size
            have h2 := hCr.lt
            refine ⟨by omega, by omega, ?_⟩
            show wr.heap.size < (wr.heap.push _).size
            simp
          have hsw : ∀ W', Below (wr.alloc (.cells #[.int .i64 yk, .int .i64 yn, .string yz, .slice yp ym yc] 31)).drew.heap.size (wr.alloc (.cells #[.int .i64 yk, .int .i64 yn, .string yz, .slice yp ym yc] 31)).drew W' → W'.cell? ⟨b, off + k * 4 + 1, none⟩ = some (.int .i64 fk) ∧ W'.cell? ⟨b, off + k * 4 + 2, none⟩ = some (.int .i64 fo) ∧ W'.cell? ⟨w.heap.size, 1, none⟩ = some (.slice (some ⟨b, off, none⟩) fs.length c) ∧ W'.cell? ⟨wr.heap.size, 0, none⟩ = some (.int .i64 yk) ∧ W'.cell? ⟨wr.heap.size, 1, none⟩ = some (.int .i64 yn) ∧ W'.cell? ⟨wr.heap.size, 2, none⟩ = some (.string yz) ∧ W'.cell? ⟨wr.heap.size, 3, none⟩ = some (.slice yp ym yc) := fun W' h => by
            obtain ⟨a1, a2, a3, a4, a5, a6, a7⟩ := hS0
            obtain ⟨d1, d2, d3⟩ := hzz
            exact ⟨(h.cell (p := ⟨b, off + k * 4 + 1, none⟩) d1).trans a1, (h.cell (p := ⟨b, off + k * 4 + 2, none⟩) d1).trans a2, (h.cell (p := ⟨w.heap.size, 1, none⟩) d2).trans a3, (h.cell (p := ⟨wr.heap.size, 0, none⟩) d3).trans a4, (h.cell (p := ⟨wr.heap.size, 1, none⟩) d3).trans a5, (h.cell (p := ⟨wr.heap.size, 2, none⟩) d3).trans a6, (h.cell (p := ⟨wr.heap.size, 3, none⟩) d3).trans a7⟩
          have HSW := Lib.hid hsw
          clear hsw hzz
          have hw9 := hB.trans (hal.mono hB.size)
          have hc9 := hCr.below hal
          have hf9 := hfit2 _ hal
          have HW9 := Lib.hid hw9
          have HC9 := Lib.hid hc9
          have HF9 := Lib.hid hf9
          have HBAD := Lib.hid hbad
          have HNX := Lib.hid hnx
          obtain ⟨g0, g1⟩ := hCr.facts
          clear hcx hcy hc hc' hfa hva hbad hnx hfit hfit2 hw9 hc9 hf9 hal hCr hB z1 z2
          go_wp2_with fail
          go_region_held3 (fun W : World => W.cell? ⟨b, off + k * 4 + 1, none⟩ = some (.int .i64 fk) ∧ W.cell? ⟨b, off + k * 4 + 2, none⟩ = some (.int .i64 fo) ∧ W.cell? ⟨w.heap.size, 1, none⟩ = some (.slice (some ⟨b, off, none⟩) fs.length c) ∧ W.cell? ⟨wr.heap.size, 0, none⟩ = some (.int .i64 yk) ∧ W.cell? ⟨wr.heap.size, 1, none⟩ = some (.int .i64 yn) ∧ W.cell? ⟨wr.heap.size, 2, none⟩ = some (.string yz) ∧ W.cell? ⟨wr.heap.size, 3, none⟩ = some (.slice yp ym yc))
            (first | assumption)
            (first | (go_at_call 24; (with_reducible refine HF9.out.mono ?_); rintro e Y1 ⟨rfl, hBY⟩; have hS1 := HSW.out _ hBY))
          have hBz := HW9.out.trans (hBY.mono HW9.out.size)
          have hCz := HC9.out.below hBY
          have HBZ := Lib.hid hBz
          have HCZ := Lib.hid hCz
          obtain ⟨g2, g3⟩ := hCz.facts
          clear hBz hCz
          cases ft with
          | true =>
            have hnx := HNX.out (by simp)
            have HN2 := Lib.hid hnx
            clear hnx
            go_wp2_with fail
            exact ⟨⟨k + 1, by omega, by go_num, HN2.out, HBZ.out, HCZ.out⟩, by simp [intOf]; have := HN.out; omega⟩
          | false =>
            have hz := HBAD.out (by simp)
            have HZ1 := Lib.hid (congrArg Prod.fst hz)
            have HZ2 := Lib.hid (congrArg Prod.snd hz)
            clear hz
            go_wp2_with fail
            go_ret2
            exact ⟨by rw [HZ1.out, HZ2.out] <;> rfl, HBZ.out⟩
        · obtain rfl : k = fs.length := by omega
          have e1 : decide ((fs.length : Int) < (ys.length : Int)) = false := decide_eq_false (by have := HN.out; omega)
          have e1' : ¬ (fs.length : Int) < (ys.length : Int) := by have := HN.out; omega
          have hz := HGOOD.out (by simp) (by rw [← HLEN.out]; exact HN.out) HE.out
          have HZ1 := Lib.hid (congrArg Prod.fst hz)
          have HZ2 := Lib.hid (congrArg Prod.snd hz)
          clear hz
          go_wp2_with fail
          go_ret2
          exact ⟨by rw [HZ1.out, HZ2.out] <;> rfl, hB⟩
    · have n1 : ((ys.length : Int) != (fs.length : Int)) = true := by rw [bne_iff_ne]; omega
      have hz := HBAD2.out (by simp) (by rw [← HLEN.out]; exact hn)
      rw [← HLEN.out] at hz
      have HZ1 := Lib.hid (congrArg Prod.fst hz)
      have HZ2 := Lib.hid (congrArg Prod.snd hz)
      clear hz
      go_wp2_with fail
      go_ret2
      exact ⟨by rw [HZ1.out, HZ2.out] <;> rfl, HBW.out⟩
end Go.Proofs.YtffoklhopmhjaaaDoor

/- The examples of classes: what they come to. -/
set_option linter.unusedSimpArgs false
set_option linter.unusedVariables false
namespace Go.Proofs.YtffoklhopmhjaaaDoor
open Go Go.RowKit Go.Shelf

def exF : List Fl := [⟨⟨#[97]⟩, 1, 0, true⟩, ⟨⟨#[98]⟩, 3, 0, false⟩]
def exCl : Cl := ⟨⟨#[110]⟩, exF⟩
def ex15 : V := .mk 1 5 ⟨#[]⟩ []
def ex33 : V := .mk 3 3 ⟨#[]⟩ []
def ex0 : V := .mk 0 0 ⟨#[]⟩ []
theorem ex_ok : exCl.ok = true := by kernel_rfl
theorem ex_bad : (Cl.mk ⟨#[]⟩ []).ok = false := by kernel_rfl
theorem ex_c1 : checkC exCl [ex15, ex33] = (0, 0) := by kernel_rfl
theorem ex_c2 : checkC exCl [ex15, ex0] = (0, 0) := by kernel_rfl
theorem ex_c3 : checkC exCl [ex15] = (1, 42) := by kernel_rfl
theorem ex_c4 : checkC exCl [ex15, ex15] = (1, 42) := by kernel_rfl
theorem ex_fb : fieldAt exF ⟨#[98]⟩ = some 1 := by kernel_rfl
theorem ex_fc : fieldAt exF ⟨#[99]⟩ = none := by kernel_rfl
theorem ex_ne : sameC exCl ⟨⟨#[]⟩, []⟩ = false := by
  rw [sameC_split, show (exCl.nm.toList == (⟨#[]⟩ : ByteArray).toList) = false from by kernel_rfl]; rfl
theorem ex_rt : rtB 5 4 = true := by decide
theorem ex_rf : rtB 5 0 = false := by decide
theorem ex_bytes : exCl.bytes = [2, 110] ++ ([4] ++ ([2, 97, 2, 0, 2] ++ [2, 98, 6, 0, 0])) := by
  kernel_rfl
theorem ex_len : exCl.bytes.length = 13 := by kernel_rfl
theorem ex_cut : decC (exCl.bytes.drop 1) = none := by
  have ht : textL (exCl.bytes.drop 1) = none := by
    unfold textL
    rw [dif_neg]
    rintro ⟨t, ht, hp⟩
    rw [ex_bytes] at hp
    have n55 : Wire.num 55 = [110] := by kernel_rfl
    have e : (t.length : Int) = 55 := Wire.num_inj ⟨by omega, by omega⟩ ⟨by decide, by decide⟩ ((List.prefix_append _ _).trans hp) (by rw [n55]; exact ⟨_, rfl⟩)
    have := hp.length_le
    simp at this
    omega
  unfold decC clsP seqP textP
  rw [ht]; rfl
theorem ex_dec (r : List UInt8) : decC (([120] ++ exCl.bytes ++ r).drop 1) = some (exCl, 13) := by
  rw [List.append_assoc]
  show decC (exCl.bytes ++ r) = _
  rw [(undo_dec exCl ex_ok).app, ex_len]

/-- a block that is known whole, as a slice -/
theorem blk_lies {W : World} {b n size cap : Nat} {xs : List Value} {t : TypeId} (h : W.heap[b]? = some (.cells xs.toArray t (0, 0))) (hl : xs.length = n * size) : Lies W (.slice (some ⟨b, 0, none⟩) n cap) n size xs :=
  ⟨hl, .inr ⟨b, 0, cap, rfl, (Array.getElem?_eq_some_iff.1 h).1, fun j u hu => by
    rw [Nat.zero_add, Lib.cell_of_heap h]; simpa using hu⟩⟩
/-- what is carried along there -/
structure ExS (w W : World) : Prop where
  arr : FLies W (some ⟨w.heap.size, 0, none⟩) 2 2 exF
  box : CBox W (w.heap.size + 1) ⟨#[110]⟩ (some ⟨w.heap.size, 0, none⟩) 2 2
  vb : VBox W (w.heap.size + 1 + 1) 1 5 ⟨#[]⟩ (.slice none 0 0)
  below : Below w.heap.size w W
theorem ExS.go {w W W' : World} (h : ExS w W) (hb : Below W.heap.size W W') : ExS w W' :=
  ⟨h.arr.below hb, h.box.below hb, h.vb.below hb, h.below.trans (hb.mono h.below.size)⟩
theorem ex_fine : ∀ f ∈ exF, f.fine := by
  intro f hf
  simp only [exF, List.mem_cons, List.mem_nil_iff, or_false] at hf
  rcases hf with rfl | rfl <;> exact ⟨by decide, ⟨by decide, by decide⟩, ⟨by decide, by decide⟩⟩
abbrev exV (w : World) : Value := .agg #[.string ⟨#[110]⟩, .slice (some ⟨w.heap.size, 0, none⟩) 2 2]
theorem vat_none (d : Nat) (W : World) {u : V} (hf : u.fine) (hl : u.l = []) : VAt d W u ⟨u.k, u.n, u.s, none, 0, 0⟩ := by
  have ht : ∀ J, VTop W u ⟨u.k, u.n, u.s, none, 0, 0⟩ J := fun J => ⟨hf, rfl, rfl, rfl, [], by rw [hl]; rfl, ⟨rfl, .inl ⟨rfl, none, 0, rfl⟩⟩, fun i h => absurd h (by simp)⟩
  cases d with
  | zero => exact ht _
  | succ d => exact ht _
def itOf (u : V) : It := ⟨u.k, u.n, u.s, none, 0, 0⟩
theorem ex_vs {W : World} {b : Nat} {vs : List V} (hf : ∀ u ∈ vs, u.fine ∧ u.l = []) (h : W.heap[b]? = some (.cells (itsCells (vs.map itOf)).toArray 31 (0, 0))) : VsAt 0 W vs (some ⟨b, 0, none⟩) vs.length vs.length :=
  ⟨vs.map itOf, by simp, by simp, by
    rw [List.length_map]
    exact blk_lies h (by rw [itsCells_length, List.length_map]), fun i h1 h2 => by
    rw [List.getElem_map]
    exact vat_none 0 W (hf _ (List.getElem_mem h2)).1 (hf _ (List.getElem_mem h2)).2⟩
theorem ex_check {w X : World} (hS : ExS w X) (hT : Tabs w) (vs : List V) (hf : ∀ u ∈ vs, u.fine ∧ u.l = []) (hn : vs.length ≤ 9) :
    Calls Tryd.prog 12 #[exV w, .slice (some ⟨X.heap.size, 0, none⟩) vs.length vs.length] (X.alloc (.cells (itsCells (vs.map itOf)).toArray 31)) fun e w' => e = .returned (.tuple #[.int .i64 (checkC exCl vs).1, .int .i64 (checkC exCl vs).2]) ∧ Below X.heap.size X w' := by
  have hb : Below X.heap.size X (X.alloc (.cells (itsCells (vs.map itOf)).toArray 31)) := (Below.refl _ _).alloc (Nat.le_refl _) _
  have hc := clsCheck_any 0 ⟨#[110]⟩ (some ⟨w.heap.size, 0, none⟩) 2 2 exF (by decide) ex_fine vs (some ⟨X.heap.size, 0, none⟩) vs.length vs.length _ (hS.arr.below hb) (by decide) (ex_vs hf (World.alloc_heap_new X _)) (by omega) ((hT.below hS.below).below hb)
  refine hc.mono ?_
  rintro e w' ⟨h1, h2⟩
  exact ⟨h1, hb.trans (h2.mono hb.size)⟩
end Go.Proofs.YtffoklhopmhjaaaDoor

/- morainelaw04.examples. -/
set_option linter.unusedSimpArgs false
set_option linter.unusedVariables false
namespace Go.Proofs.YtffoklhopmhjaaaDoor
open Go Go.RowKit Go.Shelf

set_option maxHeartbeats 8000000 in
set_option maxRecDepth 100000 in
theorem clsEx_any (ea : Addr) (w : World) (hT : Tabs w) (hE : errLies ea w) :
    Calls Tryd.prog 7 #[] w fun e w' => e = .returned (.bool true) ∧ Below w.heap.size w w' := by
  have hb1 : Below w.heap.size w (w.alloc (.cells #[.string ⟨#[97]⟩, .int .i64 1, .int .i64 0, .bool true, .string ⟨#[98]⟩, .int .i64 3, .int .i64 0, .bool false] 53)) := (Below.refl _ _).alloc (Nat.le_refl _) _
  have hb2 := hb1.alloc hb1.size (.cells #[.string ⟨#[110]⟩, .slice (some ⟨w.heap.size, 0, none⟩) 2 2] 27)
  have hb3 := hb2.alloc hb2.size (.cells #[.int .i64 1, .int .i64 5, .string ⟨#[]⟩, .slice none 0 0] 31)
  have hfl : FLies (w.alloc (.cells #[.string ⟨#[97]⟩, .int .i64 1, .int .i64 0, .bool true, .string ⟨#[98]⟩, .int .i64 3, .int .i64 0, .bool false] 53)) (some ⟨w.heap.size, 0, none⟩) 2 2 exF := ⟨rfl, blk_lies (xs := flCells exF) (World.alloc_heap_new w _) rfl⟩
  have hS : ExS w (((w.alloc (.cells #[.string ⟨#[97]⟩, .int .i64 1, .int .i64 0, .bool true, .string ⟨#[98]⟩, .int .i64 3, .int .i64 0, .bool false] 53)).alloc (.cells #[.string ⟨#[110]⟩, .slice (some ⟨w.heap.size, 0, none⟩) 2 2] 27)).alloc (.cells #[.int .i64 1, .int .i64 5, .string ⟨#[]⟩, .slice none 0 0] 31)) := by
    refine ⟨(hfl.below ((Below.refl _ _).alloc (Nat.le_refl _) _)).below ((Below.refl _ _).alloc (Nat.le_refl _) _), ?_, ?_, hb3⟩
    · have h := (CBox.new (w.alloc (.cells #[.string ⟨#[97]⟩, .int .i64 1, .int .i64 0, .bool true, .string ⟨#[98]⟩, .int .i64 3, .int .i64 0, .bool false] 53)) ⟨#[110]⟩ (some ⟨w.heap.size, 0, none⟩) 2 2).alloc (.cells #[.int .i64 1, .int .i64 5, .string ⟨#[]⟩, .slice none 0 0] 31)
      rwa [World.size_alloc] at h
    · have h := VBox.new ((w.alloc (.cells #[.string ⟨#[97]⟩, .int .i64 1, .int .i64 0, .bool true, .string ⟨#[98]⟩, .int .i64 3, .int .i64 0, .bool false] 53)).alloc (.cells #[.string ⟨#[110]⟩, .slice (some ⟨w.heap.size, 0, none⟩) 2 2] 27)) 1 5 ⟨#[]⟩ (.slice none 0 0)
      rwa [World.size_alloc, World.size_alloc] at h
  have f1 : ex15.fine ∧ ex15.l = [] := ⟨⟨by decide, by decide, by decide, by decide⟩, rfl⟩
  have f3 : ex33.fine ∧ ex33.l = [] := ⟨⟨by decide, by decide, by decide, by decide⟩, rfl⟩
  have f0 : ex0.fine ∧ ex0.l = [] := ⟨⟨by decide, by decide, by decide, by decide⟩, rfl⟩
  have k1 : ∀ X, ExS w X → Calls Tryd.prog 12 #[exV w, .slice (some ⟨X.heap.size, 0, none⟩) 2 2] (X.alloc (.cells #[.int .i64 1, .int .i64 5, .string ⟨#[]⟩, .slice none 0 0, .int .i64 3, .int .i64 3, .string ⟨#[]⟩, .slice none 0 0] 31)) fun e w' => e = .returned (.tuple #[.int .i64 0, .int .i64 0]) ∧ ExS w w' := fun X h => by
    have := ex_check h hT [ex15, ex33] (by intro u hu; simp only [List.mem_cons, List.mem_nil_iff, or_false] at hu; rcases hu with rfl | rfl; exact f1; exact f3) (by decide)
    rw [ex_c1] at this
    exact this.mono (fun e w' hx => ⟨hx.1, h.go hx.2⟩)
  have k2 : ∀ X, ExS w X → Calls Tryd.prog 12 #[exV w, .slice (some ⟨X.heap.size, 0, none⟩) 2 2] (X.alloc (.cells #[.int .i64 1, .int .i64 5, .string ⟨#[]⟩, .slice none 0 0, .int .i64 0, .int .i64 0, .string ⟨#[]⟩, .slice none 0 0] 31)) fun e w' => e = .returned (.tuple #[.int .i64 0, .int .i64 0]) ∧ ExS w w' := fun X h => by
    have := ex_check h hT [ex15, ex0] (by intro u hu; simp only [List.mem_cons, List.mem_nil_iff, or_false] at hu; rcases hu with rfl | rfl; exact f1; exact f0) (by decide)
    rw [ex_c2] at this
    exact this.mono (fun e w' hx => ⟨hx.1, h.go hx.2⟩)
  have k3 : ∀ X, ExS w X → Calls Tryd.prog 12 #[exV w, .slice (some ⟨X.heap.size, 0, none⟩) 1 1] (X.alloc (.cells #[.int .i64 1, .int .i64 5, .string ⟨#[]⟩, .slice none 0 0] 31)) fun e w' => e = .returned (.tuple #[.int .i64 1, .int .i64 42]) ∧ ExS w w' := fun X h => by
    have := ex_check h hT [ex15] (by intro u hu; simp only [List.mem_cons, List.mem_nil_iff, or_false] at hu; rcases hu with rfl; exact f1) (by decide)
    rw [ex_c3] at this
    exact this.mono (fun e w' hx => ⟨hx.1, h.go hx.2⟩)
  have k4 : ∀ X, ExS w X → Calls Tryd.prog 12 #[exV w, .slice (some ⟨X.heap.size, 0, none⟩) 2 2] (X.alloc (.cells #[.int .i64 1, .int .i64 5, .string ⟨#[]⟩, .slice none 0 0, .int .i64 1, .int .i64 5, .string ⟨#[]⟩, .slice none 0 0] 31)) fun e w' => e = .returned (.tuple #[.int .i64 1, .int .i64 42]) ∧ ExS w w' := fun X h => by
    have := ex_check h hT [ex15, ex15] (by intro u hu; simp only [List.mem_cons, List.mem_nil_iff, or_false] at hu; rcases hu with rfl | rfl <;> exact f1) (by decide)
    rw [ex_c4] at this
    exact this.mono (fun e w' hx => ⟨hx.1, h.go hx.2⟩)
  obtain ⟨E, hEd⟩ : ∃ E : ByteArray, (⟨exCl.bytes.toArray⟩ : ByteArray) = E := ⟨_, rfl⟩
  have hE13 : E.size = 13 := by rw [← hEd]; exact ex_len
  have ken : ∀ X, ExS w X → Calls Tryd.prog 14 #[exV w] X fun e w' => e = .returned (.tuple #[.string E, .int .i64 0]) ∧ ExS w w' := fun X h => by
    have := clsEncode_any ⟨#[110]⟩ (some ⟨w.heap.size, 0, none⟩) 2 2 exF (by decide) ex_fine X h.arr (by decide) (hT.below h.below)
    unfold encCPost at this
    rw [show (Cl.mk ⟨#[110]⟩ exF).ok = true from ex_ok] at this
    rw [← hEd]
    exact this.mono (fun e w' hx => ⟨hx.1, h.go hx.2⟩)
  have kfb : ∀ X, ExS w X → Calls Tryd.prog 20 #[exV w, .string ⟨#[98]⟩] X fun e w' => e = .returned (.tuple #[.int .i64 1, .bool true]) ∧ Below X.heap.size X w' := fun X h => by
    have := field_any ⟨#[110]⟩ (some ⟨w.heap.size, 0, none⟩) 2 2 exF ⟨#[98]⟩ X h.arr (by decide)
    unfold fieldPost at this
    rw [ex_fb] at this
    exact this
  have kfc : ∀ X, ExS w X → Calls Tryd.prog 20 #[exV w, .string ⟨#[99]⟩] X fun e w' => e = .returned (.tuple #[.int .i64 0, .bool false]) ∧ Below X.heap.size X w' := fun X h => by
    have := field_any ⟨#[110]⟩ (some ⟨w.heap.size, 0, none⟩) 2 2 exF ⟨#[99]⟩ X h.arr (by decide)
    unfold fieldPost at this
    rw [ex_fc] at this
    exact this
  have hdl : E.data.toList = exCl.bytes := by rw [← hEd]
  have kd1 : ∀ X, ExS w X → Calls Tryd.prog 15 #[.string ((⟨#[120]⟩ : ByteArray) ++ E ++ (⟨#[121]⟩ : ByteArray)), .int .i64 1] X fun e w' => (∃ (q : Option Addr) (m c : Nat), e = .returned (.tuple #[clV ⟨#[110]⟩ q m c, .int .i64 14, .int .i64 0]) ∧ FLies w' q m c exF ∧ m ≤ 8) ∧ ExS w w' := fun X h => by
    have := clsDecode_any ((⟨#[120]⟩ : ByteArray) ++ E ++ (⟨#[121]⟩ : ByteArray)) (by rw [ByteArray.size_append, ByteArray.size_append, hE13]; decide) 1 (by rw [ByteArray.size_append, ByteArray.size_append, hE13]; decide) ea X (hT.below h.below) (hE.below h.below)
    refine this.mono ?_
    rintro e w' ⟨hb, hd⟩
    rw [show ((⟨#[120]⟩ : ByteArray) ++ E ++ (⟨#[121]⟩ : ByteArray)).data.toList = [120] ++ exCl.bytes ++ [121] from by rw [← hdl]; simp, ex_dec] at hd
    exact ⟨hd, h.go hb⟩
  have kd2 : ∀ X, ExS w X → Calls Tryd.prog 15 #[.string E, .int .i64 1] X fun e w' => e = .returned (.tuple #[clV ⟨#[]⟩ none 0 0, .int .i64 0, .int .i64 10]) ∧ Below X.heap.size X w' := fun X h => by
    have := clsDecode_any E (by rw [hE13]; decide) 1 (by rw [hE13]; decide) ea X (hT.below h.below) (hE.below h.below)
    refine this.mono ?_
    rintro e w' ⟨hb, hd⟩
    rw [hdl, ex_cut] at hd
    exact ⟨hd, hb⟩
  have ksm : ∀ X q m c, ExS w X ∧ FLies X q m c exF ∧ m ≤ 8 → Calls Tryd.prog 21 #[exV w, clV ⟨#[110]⟩ q m c] X fun e w' => e = .returned (.bool true) ∧ Below X.heap.size X w' := fun X q m c h => by
    have := rsame_any ⟨#[110]⟩ (some ⟨w.heap.size, 0, none⟩) 2 2 exF ⟨#[110]⟩ q m c exF X h.1.arr h.2.1 (by decide) (by have := h.2.2; omega)
    rw [show sameC ⟨⟨#[110]⟩, exF⟩ ⟨⟨#[110]⟩, exF⟩ = true from sameC_self _] at this
    exact this
  have kr1 : ∀ X, ExS w X → Calls Tryd.prog 18 #[exV w] X fun e w' => e = .returned (.bool true) ∧ Below X.heap.size X w' := fun X h => by
    have := clsRight_any ⟨#[110]⟩ (some ⟨w.heap.size, 0, none⟩) 2 2 exF (by decide) ex_fine X h.arr (by decide) (hT.below h.below)
    rw [show (Cl.mk ⟨#[110]⟩ exF).ok = true from ex_ok] at this
    exact this
  have hfl0 : ∀ X : World, FLies X none 0 0 [] := fun X => ⟨rfl, rfl, .inl ⟨rfl, none, 0, rfl⟩⟩
  have kr2 : ∀ X, ExS w X → Calls Tryd.prog 18 #[clV ⟨#[]⟩ none 0 0] X fun e w' => e = .returned (.bool false) ∧ Below X.heap.size X w' := fun X h => by
    have := clsRight_any ⟨#[]⟩ none 0 0 [] (by decide) (fun f hf => absurd hf (by simp)) X (hfl0 X) (by decide) (hT.below h.below)
    rw [ex_bad] at this
    exact this
  have kt1 : ∀ X, ExS w X → Calls Tryd.prog 22 #[.agg #[.int .i64 5, .int .i64 4]] X fun e w' => e = .returned (.bool true) ∧ Below X.heap.size X w' := fun X h => by
    have := clsRightType_any 5 4 (by decide) X (hT.below h.below)
    rw [ex_rt] at this
    exact this
  have kt2 : ∀ X, ExS w X → Calls Tryd.prog 22 #[.agg #[.int .i64 5, .int .i64 0]] X fun e w' => e = .returned (.bool false) ∧ Below X.heap.size X w' := fun X h => by
    have := clsRightType_any 5 0 (by decide) X (hT.below h.below)
    rw [ex_rf] at this
    exact this
  have ks1 : ∀ X, ExS w X → Calls Tryd.prog 16 #[exV w, exV w] X fun e w' => e = .returned (.bool true) ∧ Below X.heap.size X w' := fun X h => by
    have := clsSame_any ⟨#[110]⟩ (some ⟨w.heap.size, 0, none⟩) 2 2 exF ⟨#[110]⟩ (some ⟨w.heap.size, 0, none⟩) 2 2 exF X h.arr h.arr (by decide) (by decide)
    rw [show sameC ⟨⟨#[110]⟩, exF⟩ ⟨⟨#[110]⟩, exF⟩ = true from sameC_self _] at this
    exact this
  have ks2 : ∀ X, ExS w X → Calls Tryd.prog 16 #[exV w, clV ⟨#[]⟩ none 0 0] X fun e w' => e = .returned (.bool false) ∧ Below X.heap.size X w' := fun X h => by
    have := clsSame_any ⟨#[110]⟩ (some ⟨w.heap.size, 0, none⟩) 2 2 exF ⟨#[]⟩ none 0 0 [] X h.arr (hfl0 X) (by decide) (by decide)
    rw [show sameC ⟨⟨#[110]⟩, exF⟩ ⟨⟨#[]⟩, []⟩ = false from ex_ne] at this
    exact this
  have KSM := Lib.hid ksm
  have KR1 := Lib.hid kr1
  have KR2 := Lib.hid kr2
  have KT1 := Lib.hid kt1
  have KT2 := Lib.hid kt2
  have KS1 := Lib.hid ks1
  have KS2 := Lib.hid ks2
  clear ksm kr1 kr2 kt1 kt2 ks1 ks2 hfl0
  have KD1 := Lib.hid kd1
  have KD2 := Lib.hid kd2
  clear kd1 kd2 hEd hdl
  have k1w := k1 _ hS
  rw [World.size_alloc, World.size_alloc, World.size_alloc] at k1w
  have K1W := Lib.hid k1w
  have K2 := Lib.hid k2
  have K3 := Lib.hid k3
  have K4 := Lib.hid k4
  have KEN := Lib.hid ken
  have KFB := Lib.hid kfb
  have KFC := Lib.hid kfc
  have HT := Lib.hid hT
  have HE := Lib.hid hE
  clear hb1 hb2 hb3 hfl hS f1 f3 f0 k1 k1w k2 k3 k4 ken kfb kfc hT hE
  go_enter Tryd.func7, Tryd.ntmps7
  go_wp2_with fail
  refine (K1W.out).mono ?_
  rintro e X1 ⟨rfl, hX⟩
  have S1 := Lib.hid hX
  obtain ⟨c0, c1⟩ := hX.box.facts
  obtain ⟨v0, v1, v2, v3⟩ := hX.vb.facts.1
  clear hX
  go_wp2_with fail
  refine (K2.out _ S1.out).mono ?_
  rintro e X2 ⟨rfl, hX⟩
  have S2 := Lib.hid hX
  clear c0 c1 v0 v1 v2 v3
  obtain ⟨c0, c1⟩ := hX.box.facts
  obtain ⟨v0, v1, v2, v3⟩ := hX.vb.facts.1
  clear hX S1
  go_wp2_with fail
  refine (K3.out _ S2.out).mono ?_
  rintro e X3 ⟨rfl, hX⟩
  have S3 := Lib.hid hX
  clear c0 c1 v0 v1 v2 v3
  obtain ⟨c0, c1⟩ := hX.box.facts
  obtain ⟨v0, v1, v2, v3⟩ := hX.vb.facts.1
  clear hX S2
  go_wp2_with fail
  refine (K4.out _ S3.out).mono ?_
  rintro e X4 ⟨rfl, hX⟩
  have S4 := Lib.hid hX
  clear c0 c1 v0 v1 v2 v3
  obtain ⟨c0, c1⟩ := hX.box.facts
  obtain ⟨v0, v1, v2, v3⟩ := hX.vb.facts.1
  clear hX S3
  go_wp2_with fail
  refine (KEN.out _ S4.out).mono ?_
  rintro e X5 ⟨rfl, hX⟩
  have S5 := Lib.hid hX
  clear c0 c1 v0 v1 v2 v3
  obtain ⟨c0, c1⟩ := hX.box.facts
  obtain ⟨v0, v1, v2, v3⟩ := hX.vb.facts.1
  clear hX S4
  go_wp2_with fail
  refine (KD1.out _ S5.out).mono ?_
  rintro e X6 ⟨⟨q, m, c, rfl, hfl6, hm8⟩, hX⟩
  have S6 := Lib.hid hX
  have FL6 := Lib.hid hfl6
  clear c0 c1 v0 v1 v2 v3 S5 hX hfl6
  go_wp2_with fail
  have S7 := Lib.hid (S6.out.go ((Below.refl _ _).alloc (Nat.le_refl _) (.cells #[.string ⟨#[110]⟩, .slice q m c] 27)))
  have D7 := Lib.hid (CBox.new X6 ⟨#[110]⟩ q m c)
  have L7 := Lib.hid (FL6.out.below ((Below.refl _ _).alloc (Nat.le_refl _) (.cells #[.string ⟨#[110]⟩, .slice q m c] 27)))
  clear S6 FL6
  generalize X6.alloc (.cells #[.string ⟨#[110]⟩, .slice q m c] 27) = U7 at S7 D7 L7 ⊢
  generalize X6.heap.size = bd at D7 ⊢
  refine (KD2.out _ S7.out).mono ?_
  rintro e X8 ⟨rfl, hX⟩
  have S8 := Lib.hid (S7.out.go hX)
  have D8 := Lib.hid (D7.out.below hX)
  have L8 := Lib.hid (L7.out.below hX)
  clear S7 D7 L7 hX
  have hal : Below X8.heap.size X8 (X8.alloc (.cells #[.string ⟨#[]⟩, .slice none 0 0] 27)) := (Below.refl _ _).alloc (Nat.le_refl _) _
  have S9 := Lib.hid (S8.out.go hal)
  have D9 := Lib.hid (D8.out.below hal)
  have L9 := Lib.hid (L8.out.below hal)
  clear S8 D8 L8 hal
  obtain ⟨c0, c1⟩ := S9.out.box.facts
  go_wp2_with fail
  clear c0 c1
  generalize X8.alloc (.cells #[.string ⟨#[]⟩, .slice none 0 0] 27) = U9 at S9 D9 L9 ⊢
  refine (KFB.out _ S9.out).mono ?_
  rintro e X10 ⟨rfl, hX⟩
  have S10 := Lib.hid (S9.out.go hX)
  have D10 := Lib.hid (D9.out.below hX)
  have L10 := Lib.hid (L9.out.below hX)
  clear S9 D9 L9 hX
  obtain ⟨c0, c1⟩ := S10.out.box.facts
  go_wp2_with fail
  clear c0 c1
  refine (KFC.out _ S10.out).mono ?_
  rintro e X11 ⟨rfl, hX⟩
  have hS := S10.out.go hX
  obtain ⟨c0, c1⟩ := hS.box.facts
  obtain ⟨d0, d1⟩ := (D10.out.below hX).facts
  have ks := KSM.out X11 q m c ⟨hS, L10.out.below hX, hm8⟩
  have SA := Lib.hid hS
  have KS := Lib.hid ks
  clear S10 D10 L10 hX hS ks
  go_wp2_with fail
  refine KS.out.mono ?_
  rintro e Y0 ⟨rfl, hB⟩
  have S0 := Lib.hid (SA.out.go hB)
  clear c0 c1 d0 d1 SA hB KS
  obtain ⟨c0, c1⟩ := S0.out.box.facts
  go_wp2_with fail
  refine (KR1.out _ S0.out).mono ?_
  rintro e Y1 ⟨rfl, hB⟩
  have S1 := Lib.hid (S0.out.go hB)
  clear c0 c1 S0 hB
  obtain ⟨c0, c1⟩ := S1.out.box.facts
  go_wp2_with fail
  refine (KR2.out _ S1.out).mono ?_
  rintro e Y2 ⟨rfl, hB⟩
  have S2 := Lib.hid (S1.out.go hB)
  clear c0 c1 S1 hB
  obtain ⟨c0, c1⟩ := S2.out.box.facts
  go_wp2_with fail
  refine (KT1.out _ S2.out).mono ?_
  rintro e Y3 ⟨rfl, hB⟩
  have S3 := Lib.hid (S2.out.go hB)
  clear c0 c1 S2 hB
  obtain ⟨c0, c1⟩ := S3.out.box.facts
  go_wp2_with fail
  refine (KT2.out _ S3.out).mono ?_
  rintro e Y4 ⟨rfl, hB⟩
  have S4 := Lib.hid (S3.out.go hB)
  clear c0 c1 S3 hB
  obtain ⟨c0, c1⟩ := S4.out.box.facts
  go_wp2_with fail
  refine (KS1.out _ S4.out).mono ?_
  rintro e Y5 ⟨rfl, hB⟩
  have S5 := Lib.hid (S4.out.go hB)
  clear c0 c1 S4 hB
  obtain ⟨c0, c1⟩ := S5.out.box.facts
  go_wp2_with fail
  refine (KS2.out _ S5.out).mono ?_
  rintro e Y6 ⟨rfl, hB⟩
  have S6 := Lib.hid (S5.out.go hB)
  clear c0 c1 S5 hB
  have hfin := S6.out.below
  have HFIN := Lib.hid hfin
  clear hfin
  go_wp2_with fail
  go_ret
  exact ⟨rfl, HFIN.out⟩
end Go.Proofs.YtffoklhopmhjaaaDoor
