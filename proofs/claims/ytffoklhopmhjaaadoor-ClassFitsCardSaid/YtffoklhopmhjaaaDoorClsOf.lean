/- morainelaw04.pick, morainelaw04.ClassOf. -/
import Derived.Deep.RegionHeld3
import Derived.OwnWalk
import Derived.Deep.AppendLies
import Derived.Test.YtffoklhopmhjaaaDoorClsSame
import Derived.Test.YtffoklhopmhjaaaDoorClsRead
set_option linter.unusedSimpArgs false
set_option linter.unusedVariables false
namespace Go.Proofs.YtffoklhopmhjaaaDoor
open Go Go.RowKit Go.Shelf Go.Sort

set_option maxHeartbeats 1000000 in
theorem pick4_any (c n : Int) (h0 : -9223372036854775808 ≤ c) (h1 : c ≤ 9223372036854775807) (hn : 0 < n) (hn2 : n ≤ 9223372036854775807) (w : World) :
    Calls Tryd.prog 10 #[.int .i64 c, .int .i64 n] w fun e w' => e = .returned (.int .i64 (pickI c n)) ∧ w = w' := by
  unfold pickI
  by_cases h : c < 0
  · rw [if_pos h]
    have e1 : IntKind.i64.wrap (c + 1) = c + 1 := IntWalk.i64_in _ (by omega)
    have e2 : IntKind.i64.wrap (-(c + 1)) = -(c + 1) := IntWalk.i64_in _ (by omega)
    have e3 : (-(c + 1)).tmod n = (-(c + 1)) % n := Int.tmod_eq_emod_of_nonneg (by omega)
    have e4 : (n == 0) = false := by rw [beq_eq_false_iff_ne]; omega
    go_enter Tryd.func10, Tryd.ntmps10
    go_wp2_with fail
    go_ret
    exact ⟨rfl, rfl⟩
  · rw [if_neg h]
    have h2 : 0 ≤ c := by omega
    have e3 : c.tmod n = c % n := Int.tmod_eq_emod_of_nonneg (by omega)
    have e4 : (n == 0) = false := by rw [beq_eq_false_iff_ne]; omega
    go_enter Tryd.func10, Tryd.ntmps10
    go_wp2_with fail
    go_ret
    exact ⟨rfl, rfl⟩

theorem infoFld2 : (Tryd.prog.info? 53).map (fun i => (i.zero, i.size, i.bytes)) = some (some (.agg #[.string ⟨#[]⟩, .int .i64 0, .int .i64 0, .bool false]), 4, 40) := by kernel_rfl
abbrev crawV (x : CRaw) (p : Option Addr) (c : Nat) : Value := .agg #[.int .i64 x.n, .slice p x.l.length c]
def names6 : Array Value := #[.string ⟨#[97]⟩, .string ⟨#[98, 50]⟩, .string ⟨#[110, 97, 109, 101]⟩, .string ⟨#[110, 101, 120, 116, 95, 111, 110, 101]⟩, .string ⟨#[107, 105, 100, 115]⟩, .string ⟨#[120]⟩]
theorem names6_at (q : Nat) (h : q < 6) : names6[q]? = some (.string (nameIn fNames (q : Int))) := by
  match q, h with
  | 0, _ => rfl
  | 1, _ => rfl
  | 2, _ => rfl
  | 3, _ => rfl
  | 4, _ => rfl
  | 5, _ => rfl
def cnames6 : Array Value := #[.string ⟨#[110, 111, 100, 101]⟩, .string ⟨#[105, 116, 101, 109]⟩, .string ⟨#[117, 115, 101, 114]⟩, .string ⟨#[112, 97, 103, 101, 95, 49]⟩, .string ⟨#[108, 101, 97, 102]⟩, .string ⟨#[113]⟩]
theorem cnames6_at (q : Nat) (h : q < 6) : cnames6[q]? = some (.string (nameIn cNames (q : Int))) := by
  match q, h with
  | 0, _ => rfl
  | 1, _ => rfl
  | 2, _ => rfl
  | 3, _ => rfl
  | 4, _ => rfl
  | 5, _ => rfl
structure OfSt (w : World) (x : CRaw) (p : Option Addr) (c : Nat) (nm : ByteArray) (fs : List Fl) (vp : Option Addr) (vc : Nat) (W : World) : Prop where
  raw : W.heap[w.heap.size]? = some (.cells #[.int .i64 x.n, .slice p x.l.length c] 24 (0, 0))
  out : CBox W (w.heap.size + 1) ⟨#[]⟩ none 0 0
  nms : W.heap[w.heap.size + 2]? = some (.cells names6 9 (0, 0))
  box : CBox W (w.heap.size + 4) nm vp fs.length vc
  own : W.ownsRow (w.heap.size + 5) 53 4 (.slice vp fs.length vc) fs.length (flCells fs)
  below : Below w.heap.size w W
section
variable {w : World} {x : CRaw} {p : Option Addr} {c : Nat} {nm : ByteArray} {fs : List Fl} {vp : Option Addr} {vc : Nat} {W W' : World}
theorem OfSt.lt (h : OfSt w x p c nm fs vp vc W) : w.heap.size + 5 ≤ W.heap.size := h.box.lt
theorem OfSt.go (h : OfSt w x p c nm fs vp vc W) (hb : Below W.heap.size W W') : OfSt w x p c nm fs vp vc W' := by
  have hl := h.lt
  exact ⟨(hb.block _ (by omega)).trans h.raw, h.out.below hb, (hb.block _ (by omega)).trans h.nms, h.box.below hb, owned_below h.own hb, h.below.trans (hb.mono h.below.size)⟩
theorem OfSt.alloc (h : OfSt w x p c nm fs vp vc W) (o : Obj) : OfSt w x p c nm fs vp vc (W.alloc o) := h.go ((Below.refl _ _).alloc (Nat.le_refl _) _)
theorem OfSt.set (h : OfSt w x p c nm fs vp vc W) (b i : Nat) (v : Value) (h1 : w.heap.size + 4 < b) (h3 : ∀ g, Value.ownBlock (.slice vp fs.length vc) = some g → g < b) : OfSt w x p c nm fs vp vc (W.setCell ⟨b, i, none⟩ v) := by
  have hg := set_grown W b i v
  have hl := h.lt
  refine ⟨(hg.block _ (by omega) (fun e => by have := Option.some.inj e; omega)).trans h.raw, h.out.grown hg (fun e => by have := Option.some.inj e; omega), (hg.block _ (by omega) (fun e => by have := Option.some.inj e; omega)).trans h.nms, h.box.grown hg (fun e => by have := Option.some.inj e; omega), h.own.kept hg ?_, below_grown h.below hg (by omega)⟩
  cases hv : Value.ownBlock (.slice vp fs.length vc) with
  | none => exact .inl rfl
  | some g => exact .inr (fun e => by have := h3 g hv; have := Option.some.inj e; omega)
theorem OfSt.more (h : OfSt w x p c nm fs vp vc W) {f : Fl} {gg cap : Nat} (hg : W.grownBy W' (Value.ownBlock (.slice vp fs.length vc))) (ho : W'.ownsRow (w.heap.size + 5) 53 4 (.slice (some ⟨gg, 0, none⟩) (fs.length + 1) cap) (fs.length + 1) (flCells (fs ++ [f]))) :
    OfSt w x p c nm (fs ++ [f]) (some ⟨gg, 0, none⟩) cap (W'.setCell ⟨w.heap.size + 4, 1, none⟩ (.slice (some ⟨gg, 0, none⟩) (fs.length + 1) cap)) := by
  have hl : ∀ g, Value.ownBlock (.slice vp fs.length vc) = some g → w.heap.size + 5 ≤ g := fun g e => (h.own.lt g e).1
  have hlt := h.lt
  have hn : ∀ k, k < w.heap.size + 5 → some k ≠ Value.ownBlock (.slice vp fs.length vc) := fun k hk e => by have := hl k e.symm; omega
  have hb := h.box.grown hg (hn _ (by omega))
  have hgs := set_grown W' (w.heap.size + 4) 1 (.slice (some ⟨gg, 0, none⟩) (fs.length + 1) cap)
  have hlen : (fs ++ [f]).length = fs.length + 1 := by simp
  have hbw : Below w.heap.size w W' := ⟨hg.os.trans h.below.os, hg.tape.trans h.below.tape, hg.output.trans h.below.output, Nat.le_trans h.below.size hg.size, fun k hk => (hg.block k (by omega) (hn k (by omega))).trans (h.below.block k hk)⟩
  have hs := hg.size
  have hr := (hg.block w.heap.size (by omega) (hn _ (by omega))).trans h.raw
  have hm := (hg.block (w.heap.size + 2) (by omega) (hn _ (by omega))).trans h.nms
  have ho1 := h.out.grown hg (hn _ (by omega))
  refine ⟨(hgs.block _ (by omega) (fun e => by have := Option.some.inj e; omega)).trans hr, ho1.grown hgs (fun e => by have := Option.some.inj e; omega), (hgs.block _ (by omega) (fun e => by have := Option.some.inj e; omega)).trans hm, ?_, ?_, below_grown hbw hgs (by omega)⟩
  · rw [hlen]; exact hb.set1 _ _ _
  · rw [hlen]; exact ho.kept hgs (own_not ho (by omega))
theorem OfSt.bx (h : OfSt w x p c nm fs vp vc W) : W.cell? ⟨w.heap.size + 1 + 1 + 1 + 1, 0, none⟩ = some (.string nm) ∧ W.cell? ⟨w.heap.size + 1 + 1 + 1 + 1, 1, none⟩ = some (.slice vp fs.length vc) := h.box.facts
theorem OfSt.bx2 (h : OfSt w x p c nm fs vp vc W) (hg : W.grownBy W' (Value.ownBlock (.slice vp fs.length vc))) : CBox W' (w.heap.size + 1 + 1 + 1 + 1) nm vp fs.length vc :=
  h.box.grown hg (fun e => by have := (h.own.lt _ e.symm).1; omega)
theorem OfSt.fin (h : OfSt w x p c nm fs vp vc W) : CBox ((W.setCell ⟨w.heap.size + 1, 0, none⟩ (.string nm)).setCell ⟨w.heap.size + 1, 1, none⟩ (.slice vp fs.length vc)) (w.heap.size + 1) nm vp fs.length vc ∧ FLies ((W.setCell ⟨w.heap.size + 1, 0, none⟩ (.string nm)).setCell ⟨w.heap.size + 1, 1, none⟩ (.slice vp fs.length vc)) vp fs.length vc fs ∧ Below w.heap.size w ((W.setCell ⟨w.heap.size + 1, 0, none⟩ (.string nm)).setCell ⟨w.heap.size + 1, 1, none⟩ (.slice vp fs.length vc)) := by
  have g1 := set_grown W (w.heap.size + 1) 0 (.string nm)
  have g2 := set_grown (W.setCell ⟨w.heap.size + 1, 0, none⟩ (.string nm)) (w.heap.size + 1) 1 (.slice vp fs.length vc)
  have o1 := h.own.kept g1 (own_not h.own (by omega))
  exact ⟨(h.out.set0 nm).set1 vp fs.length vc, ⟨rfl, Lies.own (o1.kept g2 (own_not o1 (by omega)))⟩, below_grown (below_grown h.below g1 (by omega)) g2 (by omega)⟩
end
theorem FBox.set2 {W : World} {b : Nat} {f : Fl} (h : FBox W b f) (o : Int) : FBox (W.setCell ⟨b, 2, none⟩ (.int .i64 o)) b { f with o := o } := (heap_setCell_same W b 2 _ _ (.int .i64 o) h).trans rfl
theorem FBox.free2 {W : World} {b : Nat} {f : Fl} (h : FBox W b f) : W.frozen? ⟨b, 2, none⟩ = false := Lib.frozen_of_heap h 2
/-- what ClassOf answers -/
def clsOfPost (x : CRaw) (w : World) (e : Ending) (w' : World) : Prop :=
  ∃ (q : Option Addr) (c : Nat), e = .returned (clV (clsOf x).nm q (clsOf x).fs.length c) ∧ FLies w' q (clsOf x).fs.length c (clsOf x).fs ∧ Below w.heap.size w w'

set_option maxHeartbeats 8000000 in
set_option maxRecDepth 100000 in
theorem clsOf_any (x : CRaw) (hx : x.fine) (p : Option Addr) (c : Nat) (w : World) (hL : Lies w (.slice p x.l.length c) x.l.length 4 (frawCells x.l)) :
    Calls Tryd.prog 8 #[crawV x p c] w (clsOfPost x w) := by
  obtain ⟨i0, hi, hz0, hz1, hz2⟩ := info_parts infoFld2
  have h6 := pickI_bd x.n 6 (by decide)
  have hpk := fun W => pick4_any x.n 6 hx.n.1 hx.n.2 (by decide) (by decide) W
  have hnm : (clsOf x).nm = nameIn cNames (pickI x.n 6) := rfl
  have hfs : (clsOf x).fs = fldsTo x.l 6 := rfl
  unfold clsOfPost
  rw [hnm, hfs]
  clear hnm hfs
  obtain ⟨q, hq⟩ : ∃ q : Nat, pickI x.n 6 = (q : Int) := ⟨(pickI x.n 6).toNat, by omega⟩
  rw [hq] at hpk ⊢
  have hq6 : q < 6 := by omega
  have hl := hx.len
  have hfine := hx.l
  obtain ⟨xn, l⟩ := x
  simp only at hL hl hfine hpk ⊢
  have hsucc := fldsTo_succ l
  have hend := fldsTo_end l
  have hgood := fldsTo_good l
  generalize hnmv : nameIn cNames (q : Int) = nm
  have hcq : cnames6[q]? = some (.string nm) := by rw [← hnmv]; exact cnames6_at q hq6
  have HSUCC := Lib.hid hsucc
  have HEND := Lib.hid hend
  have HGOOD := Lib.hid hgood
  have HPK := Lib.hid hpk
  have HL := Lib.hid hL
  have HFINE := Lib.hid hfine
  have hst : OfSt w ⟨xn, l⟩ p c nm [] none 0 (((((w.alloc (.cells #[.int .i64 xn, .slice p l.length c] 24)).alloc (.cells #[.string ⟨#[]⟩, .slice none 0 0] 27)).alloc (.cells names6 9)).alloc (.cells cnames6 9)).alloc (.cells #[.string nm, .slice none 0 0] 27)) := by
    have e : ∀ (W : World) (o : Obj) (i : Nat) (y : Obj), W.heap[i]? = some y → (W.alloc o).heap[i]? = some y := fun W o i y h => (Lib.alloc_old W o i (Array.getElem?_eq_some_iff.1 h).1).trans h
    have b1 : Below w.heap.size w (w.alloc (.cells #[.int .i64 xn, .slice p l.length c] 24)) := (Below.refl _ _).alloc (Nat.le_refl _) _
    have b2 := b1.alloc b1.size (.cells #[.string ⟨#[]⟩, .slice none 0 0] 27)
    have b3 := b2.alloc b2.size (.cells names6 9)
    have b4 := b3.alloc b3.size (.cells cnames6 9)
    have b5 := b4.alloc b4.size (.cells #[.string nm, .slice none 0 0] 27)
    refine ⟨e _ _ _ _ (e _ _ _ _ (e _ _ _ _ (e _ _ _ _ (World.alloc_heap_new w _)))), e _ _ _ _ (e _ _ _ _ (e _ _ _ _ ?_)), e _ _ _ _ (e _ _ _ _ ?_), ?_, World.ownsRow_nil _ _ _ _, b5⟩
    · have h := World.alloc_heap_new (w.alloc (.cells #[.int .i64 xn, .slice p l.length c] 24)) (.cells #[.string ⟨#[]⟩, .slice none 0 0] 27)
      rwa [World.size_alloc] at h
    · have h := World.alloc_heap_new ((w.alloc (.cells #[.int .i64 xn, .slice p l.length c] 24)).alloc (.cells #[.string ⟨#[]⟩, .slice none 0 0] 27)) (.cells names6 9)
      rwa [World.size_alloc, World.size_alloc] at h
    · have h := World.alloc_heap_new ((((w.alloc (.cells #[.int .i64 xn, .slice p l.length c] 24)).alloc (.cells #[.string ⟨#[]⟩, .slice none 0 0] 27)).alloc (.cells names6 9)).alloc (.cells cnames6 9)) (.cells #[.string nm, .slice none 0 0] 27)
      rwa [World.size_alloc, World.size_alloc, World.size_alloc, World.size_alloc] at h
  have HST := Lib.hid hst
  have hcell : World.cell? ((((w.alloc (.cells #[.int .i64 xn, .slice p l.length c] 24)).alloc (.cells #[.string ⟨#[]⟩, .slice none 0 0] 27)).alloc (.cells names6 9)).alloc (.cells cnames6 9)) ⟨w.heap.size + 1 + 1 + 1, q, none⟩ = some (.string nm) := by
    have h := World.alloc_heap_new (((w.alloc (.cells #[.int .i64 xn, .slice p l.length c] 24)).alloc (.cells #[.string ⟨#[]⟩, .slice none 0 0] 27)).alloc (.cells names6 9)) (.cells cnames6 9)
    rw [World.size_alloc, World.size_alloc, World.size_alloc] at h
    rw [Lib.cell_of_heap h]
    exact hcq
  have hraw0 : World.cell? ((((w.alloc (.cells #[.int .i64 xn, .slice p l.length c] 24)).alloc (.cells #[.string ⟨#[]⟩, .slice none 0 0] 27)).alloc (.cells names6 9)).alloc (.cells cnames6 9)) ⟨w.heap.size, 0, none⟩ = some (.int .i64 xn) := by
    have h : ((((w.alloc (.cells #[.int .i64 xn, .slice p l.length c] 24)).alloc (.cells #[.string ⟨#[]⟩, .slice none 0 0] 27)).alloc (.cells names6 9)).alloc (.cells cnames6 9)).heap[w.heap.size]? = some (.cells #[.int .i64 xn, .slice p l.length c] 24 (0, 0)) := by
      have e : ∀ (W : World) (o : Obj) (i : Nat) (y : Obj), W.heap[i]? = some y → (W.alloc o).heap[i]? = some y := fun W o i y h => (Lib.alloc_old W o i (Array.getElem?_eq_some_iff.1 h).1).trans h
      exact e _ _ _ _ (e _ _ _ _ (e _ _ _ _ (World.alloc_heap_new w _)))
    rw [Lib.cell_of_heap h]; rfl
  have hqi : (q : Int) < 6 := by omega
  have hq0 : (0 : Int) ≤ (q : Int) := by omega
  have HNM := Lib.hid hnmv
  clear hsucc hend hgood hpk hL hfine hst hnmv hcq h6 hq hx
  unfold names6 cnames6 at hcell hraw0
  unfold names6 cnames6 at HST
  go_enter Tryd.func8, Tryd.ntmps8
  go_wp2_with fail
  refine (HPK.out _).mono ?_
  rintro e W1 ⟨rfl, rfl⟩
  go_wp2_with fail
  clear hcell hraw0 HPK
  go_loopw [5] (fun i wr => ∃ (k : Nat) (fs : List Fl) (vp : Option Addr) (vc : Nat), k ≤ l.length ∧ k ≤ 6 ∧ i = .int .i64 (k : Int) ∧ fs = fldsTo l k ∧ OfSt w ⟨xn, l⟩ p c nm fs vp vc wr) (fun i _ => 6 - (intOf i).toNat)
  case atStart => exact ⟨0, [], none, 0, by omega, by omega, rfl, rfl, HST.out⟩
  case round =>
    obtain ⟨k, fs, vp, vc, hk, hk6, rfl, hfs, hSt⟩ := hrel
    clear HST
    have ST := Lib.hid hSt
    have hgood := HGOOD.out k
    rw [← hfs] at hgood
    have hfl : fs.length ≤ 6 := Nat.le_trans hgood.2 hk6
    have hraw1 : wr.cell? ⟨w.heap.size, 1, none⟩ = some (.slice p l.length c) := by rw [Lib.cell_of_heap hSt.raw]; rfl
    clear hgood HGOOD hSt
    by_cases hlt : k < l.length ∧ k < 6
    · obtain ⟨hk1, hk2⟩ := hlt
      have e1 : decide ((k : Int) < (l.length : Int)) = true := decide_eq_true (by omega)
      have e1' : (k : Int) < (l.length : Int) := by omega
      have e0 : (0 : Int) ≤ (k : Int) := by omega
      have e2 : decide ((k : Int) < 6) = true := decide_eq_true (by omega)
      have e2' : (k : Int) < 6 := by omega
      obtain ⟨b, off, rfl, hb, hc⟩ := HL.out.at (by omega)
      have hcx : ∀ (i : Nat) (u : Value), ((l[k]'hk1).cells)[i]? = some u → wr.cell? ⟨b, off + k * 4 + i, none⟩ = some u := fun i u hu => by
        rw [ST.out.below.cell (p := ⟨b, off + k * 4 + i, none⟩) hb, Nat.add_assoc]
        exact hc _ _ (frawCells_at l k hk1 i u hu)
      have hsuc := HSUCC.out k hk1
      have hff := HFINE.out (l[k]'hk1) (List.getElem_mem hk1)
      rw [← hfs] at hsuc
      clear hfs
      generalize l[k]'hk1 = r at hcx hsuc hff
      obtain ⟨rn, rk, ro, rx⟩ := r
      obtain ⟨f1, f2, f3⟩ := hff
      simp only at f1 f2 f3
      have z0 : wr.cell? ⟨b, off + k * 4, none⟩ = some (.int .i64 rn) := hcx 0 _ rfl
      have z1 : wr.cell? ⟨b, off + k * 4 + 1, none⟩ = some (.int .i64 rk) := hcx 1 _ rfl
      have z2 : wr.cell? ⟨b, off + k * 4 + 2, none⟩ = some (.int .i64 ro) := hcx 2 _ rfl
      have z3 : wr.cell? ⟨b, off + k * 4 + 3, none⟩ = some (.bool rx) := hcx 3 _ rfl
      clear hcx hc
      have hp6 := fun W => pick4_any rn 6 f1.1 f1.2 (by decide) (by decide) W
      have hp5 := fun W => pick4_any rk 5 f2.1 f2.2 (by decide) (by decide) W
      have hp4 := fun W => pick4_any ro 4 f3.1 f3.2 (by decide) (by decide) W
      have b6 := pickI_bd rn 6 (by decide)
      have b5 := pickI_bd rk 5 (by decide)
      have b4 := pickI_bd ro 4 (by decide)
      have hfo : fldOf ⟨rn, rk, ro, rx⟩ = ⟨nameIn fNames (pickI rn 6), 1 + pickI rk 5, if 1 + pickI rk 5 = 5 then 1 + pickI ro 4 else 0, rx && decide (1 + pickI rk 5 ≤ 3)⟩ := rfl
      rw [hfo] at hsuc
      clear hfo f1 f2 f3
      obtain ⟨fq, hfq⟩ : ∃ q : Nat, pickI rn 6 = (q : Int) := ⟨(pickI rn 6).toNat, by omega⟩
      rw [hfq] at hsuc hp6 b6
      have hfq6 : fq < 6 := by omega
      have hfqi : (fq : Int) < 6 := by omega
      have hfq0 : (0 : Int) ≤ (fq : Int) := by omega
      clear b6 hfq
      generalize pickI rk 5 = kk at hp5 b5 hsuc
      generalize pickI ro 4 = oo at hp4 b4 hsuc
      have hnm1 := names6_at fq hfq6
      generalize nameIn fNames (fq : Int) = fn at hnm1 hsuc
      have P6 := Lib.hid hp6
      have P5 := Lib.hid hp5
      have P4 := Lib.hid hp4
      have HSUC := Lib.hid hsuc
      have S1 := Lib.hid (ST.out.alloc (.cells #[.int .i64 rn, .int .i64 rk, .int .i64 ro, .bool rx] 63))
      have hR6 : (wr.alloc (.cells #[.int .i64 rn, .int .i64 rk, .int .i64 ro, .bool rx] 63)).heap[wr.heap.size]? = some (.cells #[.int .i64 rn, .int .i64 rk, .int .i64 ro, .bool rx] 63 (0, 0)) := World.alloc_heap_new _ _
      have R6 := Lib.hid hR6
      have hz6 : w.heap.size + 5 ≤ wr.heap.size := ST.out.lt
      have hob : ∀ g, Value.ownBlock (.slice vp fs.length vc) = some g → g < wr.heap.size := fun g hg => (ST.out.own.lt g hg).2
      have HOB := Lib.hid hob
      have NM1 := Lib.hid hnm1
      clear hp6 hp5 hp4 hsuc hR6 hob HSUCC HFINE HL hnm1 ST
      go_wp2_with fail
      generalize wr.alloc (.cells #[.int .i64 rn, .int .i64 rk, .int .i64 ro, .bool rx] 63) = U at S1 R6 ⊢
      generalize wr.heap.size = b6 at R6 hz6 HOB ⊢
      have w5 : IntKind.i64.wrap (1 + kk) = 1 + kk := IntWalk.i64_in _ (by omega)
      have w4 : IntKind.i64.wrap (1 + oo) = 1 + oo := IntWalk.i64_in _ (by omega)
      have hbl : b6 < U.heap.size := (Array.getElem?_eq_some_iff.1 R6.out).1
      have hS0 : U.drew.cell? ⟨b6, 0, none⟩ = some (.int .i64 rn) ∧ U.drew.cell? ⟨b6, 1, none⟩ = some (.int .i64 rk) ∧ U.drew.cell? ⟨w.heap.size + 1 + 1, fq, none⟩ = some (.string fn) ∧ b6 < U.drew.heap.size ∧ w.heap.size + 1 + 1 < U.drew.heap.size := by
        have hd := S1.out.go (Below.refl _ _).drew
        have h6 : U.drew.heap[b6]? = some (.cells #[.int .i64 rn, .int .i64 rk, .int .i64 ro, .bool rx] 63 (0, 0)) := R6.out
        refine ⟨by rw [Lib.cell_of_heap h6]; rfl, by rw [Lib.cell_of_heap h6]; rfl, ?_, hbl, by have := hd.lt; omega⟩
        have h2 := hd.nms
        rw [show w.heap.size + 2 = w.heap.size + 1 + 1 from rfl] at h2
        rw [Lib.cell_of_heap h2]
        exact NM1.out
      have hsw : ∀ W W' : World, (W.cell? ⟨b6, 0, none⟩ = some (.int .i64 rn) ∧ W.cell? ⟨b6, 1, none⟩ = some (.int .i64 rk) ∧ W.cell? ⟨w.heap.size + 1 + 1, fq, none⟩ = some (.string fn) ∧ b6 < W.heap.size ∧ w.heap.size + 1 + 1 < W.heap.size) → Below W.heap.size W W' → (W'.cell? ⟨b6, 0, none⟩ = some (.int .i64 rn) ∧ W'.cell? ⟨b6, 1, none⟩ = some (.int .i64 rk) ∧ W'.cell? ⟨w.heap.size + 1 + 1, fq, none⟩ = some (.string fn) ∧ b6 < W'.heap.size ∧ w.heap.size + 1 + 1 < W'.heap.size) := fun W W' h hb => by
        have hs := hb.size
        exact ⟨(hb.cell (p := ⟨b6, 0, none⟩) h.2.2.2.1).trans h.1, (hb.cell (p := ⟨b6, 1, none⟩) h.2.2.2.1).trans h.2.1, (hb.cell (p := ⟨w.heap.size + 1 + 1, fq, none⟩) h.2.2.2.2).trans h.2.2.1, by omega, by omega⟩
      have HSW := Lib.hid hsw
      have hV : (U.alloc (.cells #[.string fn, .int .i64 (1 + kk), .int .i64 0, .bool false] 53)).drew = U.drew.alloc (.cells #[.string fn, .int .i64 (1 + kk), .int .i64 0, .bool false] 53) := rfl
      have hS2 := HSW.out U.drew (U.alloc (.cells #[.string fn, .int .i64 (1 + kk), .int .i64 0, .bool false] 53)).drew hS0 (by rw [hV]; exact (Below.refl _ _).alloc (Nat.le_refl _) _)
      have hF : OfSt w ⟨xn, l⟩ (some ⟨b, off, none⟩) c nm fs vp vc (U.alloc (.cells #[.string fn, .int .i64 (1 + kk), .int .i64 0, .bool false] 53)).drew ∧ FBox (U.alloc (.cells #[.string fn, .int .i64 (1 + kk), .int .i64 0, .bool false] 53)).drew U.heap.size ⟨fn, 1 + kk, 0, false⟩ ∧ (U.alloc (.cells #[.string fn, .int .i64 (1 + kk), .int .i64 0, .bool false] 53)).drew.heap[b6]? = some (.cells #[.int .i64 rn, .int .i64 rk, .int .i64 ro, .bool rx] 63 (0, 0)) := by
        rw [hV]
        refine ⟨(S1.out.go (Below.refl _ _).drew).alloc _, FBox.new U.drew ⟨fn, 1 + kk, 0, false⟩, ?_⟩
        exact (Lib.alloc_old U.drew _ b6 hbl).trans R6.out
      have HF := Lib.hid hF
      clear hsw hF hV
      go_upto_region 7 with fail
      go_cut [7] from 18 to 79 (fun v7 wx => ∃ bf : Nat, v7 = .pointer (some ⟨bf, 0, none⟩) ∧ b6 < bf ∧ OfSt w ⟨xn, l⟩ (some ⟨b, off, none⟩) c nm fs vp vc wx ∧ FBox wx bf ⟨fn, 1 + kk, 0, false⟩ ∧ wx.heap[b6]? = some (.cells #[.int .i64 rn, .int .i64 rk, .int .i64 ro, .bool rx] 63 (0, 0)))
      case first =>
        go_wp2_with fail
        go_region_held3 (fun W : World => (W.cell? ⟨b6, 0, none⟩ = some (.int .i64 rn) ∧ W.cell? ⟨b6, 1, none⟩ = some (.int .i64 rk) ∧ W.cell? ⟨w.heap.size + 1 + 1, fq, none⟩ = some (.string fn) ∧ b6 < W.heap.size ∧ w.heap.size + 1 + 1 < W.heap.size))
          (first | assumption | (refine HSW.out _ _ (by assumption) ((Below.refl _ _).alloc (Nat.le_refl _) _)))
          (first
            | (go_at_call 10; (with_reducible refine (P6.out _).mono ?_); rintro e Y1 ⟨rfl, rfl⟩)
            | (go_at_call 10; (with_reducible refine (P5.out _).mono ?_); rintro e Y1 ⟨rfl, rfl⟩))
        all_goals
          go_wp2_with fail
          go_meet
          exact ⟨_, rfl, hbl, HF.out⟩
      case rest =>
        obtain ⟨bf, rfl, hbf, hSx, hFx, hRx⟩ := hcut
        clear HSW HF hS0 S1 R6
        have hkd1 : 1 ≤ 1 + kk ∧ 1 + kk ≤ 5 := by omega
        generalize 1 + kk = kd at w5 hFx HSUC hkd1
        generalize hod : 1 + oo = od at HSUC
        replace w4 := w4.trans hod
        obtain ⟨g0, g1, g2, g3⟩ := hFx.facts
        simp only at g0 g1 g2 g3
        have gf2 := hFx.free2
        have r2 : wc.cell? ⟨b6, 2, none⟩ = some (.int .i64 ro) := by rw [Lib.cell_of_heap hRx]; rfl
        have r3 : wc.cell? ⟨b6, 3, none⟩ = some (.bool rx) := by rw [Lib.cell_of_heap hRx]; rfl
        have hbl : bf < wc.heap.size := hFx.lt
        have SX := Lib.hid hSx
        have FX := Lib.hid hFx
        have RX := Lib.hid hRx
        clear hSx hFx hRx
        by_cases h5 : kd = 5
        · have q5 : (kd == 5) = true := by rw [beq_iff_eq]; exact h5
          have d3 : decide (kd ≤ 3) = false := decide_eq_false (by omega)
          have d3' : ¬ kd ≤ 3 := by omega
          have hs5 : fldsTo l (k + 1) = addF fs ⟨fn, kd, od, false⟩ := by rw [HSUC.out, if_pos h5, d3, Bool.and_false]
          have HS5 := Lib.hid hs5
          have SX1 := Lib.hid (SX.out.set bf 2 (.int .i64 od) (by omega) (fun g hg => by have := HOB.out g hg; omega))
          have FX1 := Lib.hid (FX.out.set2 od)
          have RX1 : (wc.setCell ⟨bf, 2, none⟩ (.int .i64 od)).heap[b6]? = some (.cells #[.int .i64 rn, .int .i64 rk, .int .i64 ro, .bool rx] 63 (0, 0)) := ((set_grown wc bf 2 (.int .i64 od)).block b6 (Array.getElem?_eq_some_iff.1 RX.out).1 (fun e => by have := Option.some.inj e; omega)).trans RX.out
          have r31 : (wc.setCell ⟨bf, 2, none⟩ (.int .i64 od)).cell? ⟨b6, 3, none⟩ = some (.bool rx) := by rw [Lib.cell_of_heap RX1]; rfl
          have gf3 := FX1.out.free
          have hk1 : (wc.setCell ⟨bf, 2, none⟩ (.int .i64 od)).cell? ⟨bf, 1, none⟩ = some (.int .i64 kd) := FX1.out.facts.2.1
          clear hs5 RX1 HSUC h5
          go_wp2_with fail
          refine (P4.out _).mono ?_
          rintro e Y1 ⟨rfl, rfl⟩
          cases rx with
          | true =>
            have SB := Lib.hid (SX1.out.set bf 3 (.bool false) (by omega) (fun g hg => by have := HOB.out g hg; omega))
            have FB := Lib.hid (FX1.out.set3 false)
            obtain ⟨y0, y1, y2, y3⟩ := FB.out.facts
            simp only at y0 y1 y2 y3
            obtain ⟨c0, c1⟩ := SB.out.bx
            have hlies : FLies ((wc.setCell ⟨bf, 2, none⟩ (.int .i64 od)).setCell ⟨bf, 3, none⟩ (.bool false)) vp fs.length vc fs := ⟨rfl, Lies.own SB.out.own⟩
            have hcall := rfield_any nm vp fs.length vc fs fn ((wc.setCell ⟨bf, 2, none⟩ (.int .i64 od)).setCell ⟨bf, 3, none⟩ (.bool false)) hlies (by omega)
            unfold fieldPost at hcall
            have HC := Lib.hid hcall
            have hadd : addF fs ⟨fn, kd, od, false⟩ = if fieldAt fs fn = none then fs ++ [⟨fn, kd, od, false⟩] else fs := rfl
            rw [hadd] at HS5
            clear hlies hcall hadd
            generalize hfa : fieldAt fs fn = fa at HC HS5
            go_wp2_with fail
            refine HC.out.mono ?_
            rintro e Y ⟨rfl, hB⟩
            have SY := Lib.hid (SB.out.go hB)
            have FY := Lib.hid (FB.out.below hB)
            obtain ⟨y0, y1, y2, y3⟩ := FY.out.facts
            simp only at y0 y1 y2 y3
            obtain ⟨c0, c1⟩ := SY.out.bx
            have hbx := FY.out.lt
            clear hB HC SB FB SX1 FX1
            cases fa with
            | some i =>
              have hs6 : fldsTo l (k + 1) = fs := HS5.out.trans (if_neg (by simp))
              have HS6 := Lib.hid hs6
              clear hs6
              have HI : (some i : Option Nat).isSome = true := rfl
              clear HS5
              go_wp2_with fail
              exact ⟨⟨k + 1, fs, vp, vc, by omega, by omega, by go_num, HS6.out.symm, SY.out⟩, by simp [intOf]; omega⟩
            | none =>
              have hs6 : fldsTo l (k + 1) = fs ++ [⟨fn, kd, od, false⟩] := HS5.out.trans (if_pos rfl)
              have HS6 := Lib.hid hs6
              clear hs6
              have HI : (none : Option Nat).isSome = false := rfl
              clear HS5
              have S7 := Lib.hid (SY.out.alloc (.cells #[.string fn, .int .i64 kd, .int .i64 od, .bool false] 53))
              have hown := SY.out.own
              have HOWN := Lib.hid hown
              have hlt7 := SY.out.lt
              clear hown
              go_wp2_with (at_builtin; refine wpList_append_lies _ rfl _ _ _ rfl (w.heap.size + 5) 53 i0 _ 4 40 Tryd.underlying25 hi hz0 hz1 hz2 rfl (by omega) _ fs.length _ rfl (HOWN.out.alloc _) ⟨Y.heap.size, 0, none⟩ 1 1 [.string fn, .int .i64 kd, .int .i64 od, .bool false] rfl rfl (World.news_of_block (cs := #[.string fn, .int .i64 kd, .int .i64 od, .bool false]) (t := 53) (fr := (0, 0)) (World.alloc_heap_new Y _)) (by simp [Value.oneCell']) (by omega) (by simp [maxLen] <;> omega) (by omega) (by simp <;> omega) (Y.heap.size + 1) (by simp) ?_; intro gg cap w2 hown1 hgrow hat hlt2; have hgo := S7.out.own.lt; have hB2 := OfSt.bx2 S7.out hgrow; obtain ⟨c4, c5⟩ := hB2.facts; obtain ⟨c6, c7⟩ := hB2.free)
              exact ⟨⟨k + 1, fs ++ [⟨fn, kd, od, false⟩], some ⟨gg, 0, none⟩, cap, by omega, by omega, by go_num, HS6.out.symm, S7.out.more hgrow (by rw [flCells_append]; exact hown1)⟩, by simp [intOf]; omega⟩
          | false =>
            have SB := Lib.hid (SX1.out.set bf 3 (.bool false) (by omega) (fun g hg => by have := HOB.out g hg; omega))
            have FB := Lib.hid (FX1.out.set3 false)
            obtain ⟨y0, y1, y2, y3⟩ := FB.out.facts
            simp only at y0 y1 y2 y3
            obtain ⟨c0, c1⟩ := SB.out.bx
            have hlies : FLies ((wc.setCell ⟨bf, 2, none⟩ (.int .i64 od)).setCell ⟨bf, 3, none⟩ (.bool false)) vp fs.length vc fs := ⟨rfl, Lies.own SB.out.own⟩
            have hcall := rfield_any nm vp fs.length vc fs fn ((wc.setCell ⟨bf, 2, none⟩ (.int .i64 od)).setCell ⟨bf, 3, none⟩ (.bool false)) hlies (by omega)
            unfold fieldPost at hcall
            have HC := Lib.hid hcall
            have hadd : addF fs ⟨fn, kd, od, false⟩ = if fieldAt fs fn = none then fs ++ [⟨fn, kd, od, false⟩] else fs := rfl
            rw [hadd] at HS5
            clear hlies hcall hadd
            generalize hfa : fieldAt fs fn = fa at HC HS5
            go_wp2_with fail
            refine HC.out.mono ?_
            rintro e Y ⟨rfl, hB⟩
            have SY := Lib.hid (SB.out.go hB)
            have FY := Lib.hid (FB.out.below hB)
            obtain ⟨y0, y1, y2, y3⟩ := FY.out.facts
            simp only at y0 y1 y2 y3
            obtain ⟨c0, c1⟩ := SY.out.bx
            have hbx := FY.out.lt
            clear hB HC SB FB SX1 FX1
            cases fa with
            | some i =>
              have hs6 : fldsTo l (k + 1) = fs := HS5.out.trans (if_neg (by simp))
              have HS6 := Lib.hid hs6
              clear hs6
              have HI : (some i : Option Nat).isSome = true := rfl
              clear HS5
              go_wp2_with fail
              exact ⟨⟨k + 1, fs, vp, vc, by omega, by omega, by go_num, HS6.out.symm, SY.out⟩, by simp [intOf]; omega⟩
            | none =>
              have hs6 : fldsTo l (k + 1) = fs ++ [⟨fn, kd, od, false⟩] := HS5.out.trans (if_pos rfl)
              have HS6 := Lib.hid hs6
              clear hs6
              have HI : (none : Option Nat).isSome = false := rfl
              clear HS5
              have S7 := Lib.hid (SY.out.alloc (.cells #[.string fn, .int .i64 kd, .int .i64 od, .bool false] 53))
              have hown := SY.out.own
              have HOWN := Lib.hid hown
              have hlt7 := SY.out.lt
              clear hown
              go_wp2_with (at_builtin; refine wpList_append_lies _ rfl _ _ _ rfl (w.heap.size + 5) 53 i0 _ 4 40 Tryd.underlying25 hi hz0 hz1 hz2 rfl (by omega) _ fs.length _ rfl (HOWN.out.alloc _) ⟨Y.heap.size, 0, none⟩ 1 1 [.string fn, .int .i64 kd, .int .i64 od, .bool false] rfl rfl (World.news_of_block (cs := #[.string fn, .int .i64 kd, .int .i64 od, .bool false]) (t := 53) (fr := (0, 0)) (World.alloc_heap_new Y _)) (by simp [Value.oneCell']) (by omega) (by simp [maxLen] <;> omega) (by omega) (by simp <;> omega) (Y.heap.size + 1) (by simp) ?_; intro gg cap w2 hown1 hgrow hat hlt2; have hgo := S7.out.own.lt; have hB2 := OfSt.bx2 S7.out hgrow; obtain ⟨c4, c5⟩ := hB2.facts; obtain ⟨c6, c7⟩ := hB2.free)
              exact ⟨⟨k + 1, fs ++ [⟨fn, kd, od, false⟩], some ⟨gg, 0, none⟩, cap, by omega, by omega, by go_num, HS6.out.symm, S7.out.more hgrow (by rw [flCells_append]; exact hown1)⟩, by simp [intOf]; omega⟩
        · have q5 : (kd == 5) = false := by rw [beq_eq_false_iff_ne]; exact h5
          have SX1 := SX
          have FX1 := FX
          have gf3 := FX1.out.free
          cases rx with
          | true =>
            by_cases h3 : kd ≤ 3
            · have d3 : decide (kd ≤ 3) = true := decide_eq_true h3
              have hs5 : fldsTo l (k + 1) = addF fs ⟨fn, kd, 0, true⟩ := by rw [HSUC.out, if_neg h5, d3, Bool.and_true]
              have HS5 := Lib.hid hs5
              clear hs5 HSUC
              have SB := Lib.hid (SX1.out.set bf 3 (.bool true) (by omega) (fun g hg => by have := HOB.out g hg; omega))
              have FB := Lib.hid (FX1.out.set3 true)
              obtain ⟨y0, y1, y2, y3⟩ := FB.out.facts
              simp only at y0 y1 y2 y3
              obtain ⟨c0, c1⟩ := SB.out.bx
              have hlies : FLies (wc.setCell ⟨bf, 3, none⟩ (.bool true)) vp fs.length vc fs := ⟨rfl, Lies.own SB.out.own⟩
              have hcall := rfield_any nm vp fs.length vc fs fn (wc.setCell ⟨bf, 3, none⟩ (.bool true)) hlies (by omega)
              unfold fieldPost at hcall
              have HC := Lib.hid hcall
              have hadd : addF fs ⟨fn, kd, 0, true⟩ = if fieldAt fs fn = none then fs ++ [⟨fn, kd, 0, true⟩] else fs := rfl
              rw [hadd] at HS5
              clear hlies hcall hadd
              generalize hfa : fieldAt fs fn = fa at HC HS5
              go_wp2_with fail
              refine HC.out.mono ?_
              rintro e Y ⟨rfl, hB⟩
              have SY := Lib.hid (SB.out.go hB)
              have FY := Lib.hid (FB.out.below hB)
              obtain ⟨y0, y1, y2, y3⟩ := FY.out.facts
              simp only at y0 y1 y2 y3
              obtain ⟨c0, c1⟩ := SY.out.bx
              have hbx := FY.out.lt
              clear hB HC SB FB SX1 FX1
              cases fa with
              | some i =>
                have hs6 : fldsTo l (k + 1) = fs := HS5.out.trans (if_neg (by simp))
                have HS6 := Lib.hid hs6
                clear hs6
                have HI : (some i : Option Nat).isSome = true := rfl
                clear HS5
                go_wp2_with fail
                exact ⟨⟨k + 1, fs, vp, vc, by omega, by omega, by go_num, HS6.out.symm, SY.out⟩, by simp [intOf]; omega⟩
              | none =>
                have hs6 : fldsTo l (k + 1) = fs ++ [⟨fn, kd, 0, true⟩] := HS5.out.trans (if_pos rfl)
                have HS6 := Lib.hid hs6
                clear hs6
                have HI : (none : Option Nat).isSome = false := rfl
                clear HS5
                have S7 := Lib.hid (SY.out.alloc (.cells #[.string fn, .int .i64 kd, .int .i64 0, .bool true] 53))
                have hown := SY.out.own
                have HOWN := Lib.hid hown
                have hlt7 := SY.out.lt
                clear hown
                go_wp2_with (at_builtin; refine wpList_append_lies _ rfl _ _ _ rfl (w.heap.size + 5) 53 i0 _ 4 40 Tryd.underlying25 hi hz0 hz1 hz2 rfl (by omega) _ fs.length _ rfl (HOWN.out.alloc _) ⟨Y.heap.size, 0, none⟩ 1 1 [.string fn, .int .i64 kd, .int .i64 0, .bool true] rfl rfl (World.news_of_block (cs := #[.string fn, .int .i64 kd, .int .i64 0, .bool true]) (t := 53) (fr := (0, 0)) (World.alloc_heap_new Y _)) (by simp [Value.oneCell']) (by omega) (by simp [maxLen] <;> omega) (by omega) (by simp <;> omega) (Y.heap.size + 1) (by simp) ?_; intro gg cap w2 hown1 hgrow hat hlt2; have hgo := S7.out.own.lt; have hB2 := OfSt.bx2 S7.out hgrow; obtain ⟨c4, c5⟩ := hB2.facts; obtain ⟨c6, c7⟩ := hB2.free)
                exact ⟨⟨k + 1, fs ++ [⟨fn, kd, 0, true⟩], some ⟨gg, 0, none⟩, cap, by omega, by omega, by go_num, HS6.out.symm, S7.out.more hgrow (by rw [flCells_append]; exact hown1)⟩, by simp [intOf]; omega⟩
            · have d3 : decide (kd ≤ 3) = false := decide_eq_false h3
              have hs5 : fldsTo l (k + 1) = addF fs ⟨fn, kd, 0, false⟩ := by rw [HSUC.out, if_neg h5, d3, Bool.and_false]
              have HS5 := Lib.hid hs5
              clear hs5 HSUC
              have SB := Lib.hid (SX1.out.set bf 3 (.bool false) (by omega) (fun g hg => by have := HOB.out g hg; omega))
              have FB := Lib.hid (FX1.out.set3 false)
              obtain ⟨y0, y1, y2, y3⟩ := FB.out.facts
              simp only at y0 y1 y2 y3
              obtain ⟨c0, c1⟩ := SB.out.bx
              have hlies : FLies (wc.setCell ⟨bf, 3, none⟩ (.bool false)) vp fs.length vc fs := ⟨rfl, Lies.own SB.out.own⟩
              have hcall := rfield_any nm vp fs.length vc fs fn (wc.setCell ⟨bf, 3, none⟩ (.bool false)) hlies (by omega)
              unfold fieldPost at hcall
              have HC := Lib.hid hcall
              have hadd : addF fs ⟨fn, kd, 0, false⟩ = if fieldAt fs fn = none then fs ++ [⟨fn, kd, 0, false⟩] else fs := rfl
              rw [hadd] at HS5
              clear hlies hcall hadd
              generalize hfa : fieldAt fs fn = fa at HC HS5
              go_wp2_with fail
              refine HC.out.mono ?_
              rintro e Y ⟨rfl, hB⟩
              have SY := Lib.hid (SB.out.go hB)
              have FY := Lib.hid (FB.out.below hB)
              obtain ⟨y0, y1, y2, y3⟩ := FY.out.facts
              simp only at y0 y1 y2 y3
              obtain ⟨c0, c1⟩ := SY.out.bx
              have hbx := FY.out.lt
              clear hB HC SB FB SX1 FX1
              cases fa with
              | some i =>
                have hs6 : fldsTo l (k + 1) = fs := HS5.out.trans (if_neg (by simp))
                have HS6 := Lib.hid hs6
                clear hs6
                have HI : (some i : Option Nat).isSome = true := rfl
                clear HS5
                go_wp2_with fail
                exact ⟨⟨k + 1, fs, vp, vc, by omega, by omega, by go_num, HS6.out.symm, SY.out⟩, by simp [intOf]; omega⟩
              | none =>
                have hs6 : fldsTo l (k + 1) = fs ++ [⟨fn, kd, 0, false⟩] := HS5.out.trans (if_pos rfl)
                have HS6 := Lib.hid hs6
                clear hs6
                have HI : (none : Option Nat).isSome = false := rfl
                clear HS5
                have S7 := Lib.hid (SY.out.alloc (.cells #[.string fn, .int .i64 kd, .int .i64 0, .bool false] 53))
                have hown := SY.out.own
                have HOWN := Lib.hid hown
                have hlt7 := SY.out.lt
                clear hown
                go_wp2_with (at_builtin; refine wpList_append_lies _ rfl _ _ _ rfl (w.heap.size + 5) 53 i0 _ 4 40 Tryd.underlying25 hi hz0 hz1 hz2 rfl (by omega) _ fs.length _ rfl (HOWN.out.alloc _) ⟨Y.heap.size, 0, none⟩ 1 1 [.string fn, .int .i64 kd, .int .i64 0, .bool false] rfl rfl (World.news_of_block (cs := #[.string fn, .int .i64 kd, .int .i64 0, .bool false]) (t := 53) (fr := (0, 0)) (World.alloc_heap_new Y _)) (by simp [Value.oneCell']) (by omega) (by simp [maxLen] <;> omega) (by omega) (by simp <;> omega) (Y.heap.size + 1) (by simp) ?_; intro gg cap w2 hown1 hgrow hat hlt2; have hgo := S7.out.own.lt; have hB2 := OfSt.bx2 S7.out hgrow; obtain ⟨c4, c5⟩ := hB2.facts; obtain ⟨c6, c7⟩ := hB2.free)
                exact ⟨⟨k + 1, fs ++ [⟨fn, kd, 0, false⟩], some ⟨gg, 0, none⟩, cap, by omega, by omega, by go_num, HS6.out.symm, S7.out.more hgrow (by rw [flCells_append]; exact hown1)⟩, by simp [intOf]; omega⟩
          | false =>
            have hs5 : fldsTo l (k + 1) = addF fs ⟨fn, kd, 0, false⟩ := by rw [HSUC.out, if_neg h5, Bool.false_and]
            have HS5 := Lib.hid hs5
            clear hs5 HSUC
            have SB := Lib.hid (SX1.out.set bf 3 (.bool false) (by omega) (fun g hg => by have := HOB.out g hg; omega))
            have FB := Lib.hid (FX1.out.set3 false)
            obtain ⟨y0, y1, y2, y3⟩ := FB.out.facts
            simp only at y0 y1 y2 y3
            obtain ⟨c0, c1⟩ := SB.out.bx
            have hlies : FLies (wc.setCell ⟨bf, 3, none⟩ (.bool false)) vp fs.length vc fs := ⟨rfl, Lies.own SB.out.own⟩
            have hcall := rfield_any nm vp fs.length vc fs fn (wc.setCell ⟨bf, 3, none⟩ (.bool false)) hlies (by omega)
            unfold fieldPost at hcall
            have HC := Lib.hid hcall
            have hadd : addF fs ⟨fn, kd, 0, false⟩ = if fieldAt fs fn = none then fs ++ [⟨fn, kd, 0, false⟩] else fs := rfl
            rw [hadd] at HS5
            clear hlies hcall hadd
            generalize hfa : fieldAt fs fn = fa at HC HS5
            go_wp2_with fail
            refine HC.out.mono ?_
            rintro e Y ⟨rfl, hB⟩
            have SY := Lib.hid (SB.out.go hB)
            have FY := Lib.hid (FB.out.below hB)
            obtain ⟨y0, y1, y2, y3⟩ := FY.out.facts
            simp only at y0 y1 y2 y3
            obtain ⟨c0, c1⟩ := SY.out.bx
            have hbx := FY.out.lt
            clear hB HC SB FB SX1 FX1
            cases fa with
            | some i =>
              have hs6 : fldsTo l (k + 1) = fs := HS5.out.trans (if_neg (by simp))
              have HS6 := Lib.hid hs6
              clear hs6
              have HI : (some i : Option Nat).isSome = true := rfl
              clear HS5
              go_wp2_with fail
              exact ⟨⟨k + 1, fs, vp, vc, by omega, by omega, by go_num, HS6.out.symm, SY.out⟩, by simp [intOf]; omega⟩
            | none =>
              have hs6 : fldsTo l (k + 1) = fs ++ [⟨fn, kd, 0, false⟩] := HS5.out.trans (if_pos rfl)
              have HS6 := Lib.hid hs6
              clear hs6
              have HI : (none : Option Nat).isSome = false := rfl
              clear HS5
              have S7 := Lib.hid (SY.out.alloc (.cells #[.string fn, .int .i64 kd, .int .i64 0, .bool false] 53))
              have hown := SY.out.own
              have HOWN := Lib.hid hown
              have hlt7 := SY.out.lt
              clear hown
              go_wp2_with (at_builtin; refine wpList_append_lies _ rfl _ _ _ rfl (w.heap.size + 5) 53 i0 _ 4 40 Tryd.underlying25 hi hz0 hz1 hz2 rfl (by omega) _ fs.length _ rfl (HOWN.out.alloc _) ⟨Y.heap.size, 0, none⟩ 1 1 [.string fn, .int .i64 kd, .int .i64 0, .bool false] rfl rfl (World.news_of_block (cs := #[.string fn, .int .i64 kd, .int .i64 0, .bool false]) (t := 53) (fr := (0, 0)) (World.alloc_heap_new Y _)) (by simp [Value.oneCell']) (by omega) (by simp [maxLen] <;> omega) (by omega) (by simp <;> omega) (Y.heap.size + 1) (by simp) ?_; intro gg cap w2 hown1 hgrow hat hlt2; have hgo := S7.out.own.lt; have hB2 := OfSt.bx2 S7.out hgrow; obtain ⟨c4, c5⟩ := hB2.facts; obtain ⟨c6, c7⟩ := hB2.free)
              exact ⟨⟨k + 1, fs ++ [⟨fn, kd, 0, false⟩], some ⟨gg, 0, none⟩, cap, by omega, by omega, by go_num, HS6.out.symm, S7.out.more hgrow (by rw [flCells_append]; exact hown1)⟩, by simp [intOf]; omega⟩
    · have hres : fs = fldsTo l 6 := by
        rcases Nat.lt_or_ge k l.length with h | h
        · have e : k = 6 := by omega
          rw [hfs, e]
        · rw [hfs]; exact HEND.out k h hk6
      have HRES := Lib.hid hres
      have hfin := ST.out.fin
      have HFIN := Lib.hid hfin
      obtain ⟨c0, c1⟩ := ST.out.bx
      obtain ⟨g0, g1⟩ := ST.out.out.facts
      obtain ⟨g2, g3⟩ := ST.out.out.free
      clear hres hfin hfs HSUCC HEND HL HFINE
      rcases Nat.lt_or_ge k l.length with h | h
      · obtain rfl : k = 6 := by omega
        have e1 : decide (((6 : Nat) : Int) < (l.length : Int)) = true := decide_eq_true (by omega)
        have e1' : ((6 : Nat) : Int) < (l.length : Int) := by omega
        have e1'' : (6 : Int) < (l.length : Int) := by omega
        go_wp2_with fail
        have hf := HFIN.out
        generalize ((wr.setCell ⟨w.heap.size + 1, 0, none⟩ (.string nm)).setCell ⟨w.heap.size + 1, 1, none⟩ (.slice vp fs.length vc)) = W9 at hf ⊢
        obtain ⟨x0, x1⟩ := hf.1.facts
        exact bodyPost_ret (v := clV nm vp fs.length vc) (by simp [results, Tryd.results8, go_sem, x0, x1]) rfl ⟨vp, vc, by rw [← HRES.out], by rw [← HRES.out]; exact hf.2.1, hf.2.2⟩
      · have e1 : decide ((k : Int) < (l.length : Int)) = false := decide_eq_false (by omega)
        have e1' : ¬ (k : Int) < (l.length : Int) := by omega
        go_wp2_with fail
        have hf := HFIN.out
        generalize ((wr.setCell ⟨w.heap.size + 1, 0, none⟩ (.string nm)).setCell ⟨w.heap.size + 1, 1, none⟩ (.slice vp fs.length vc)) = W9 at hf ⊢
        obtain ⟨x0, x1⟩ := hf.1.facts
        exact bodyPost_ret (v := clV nm vp fs.length vc) (by simp [results, Tryd.results8, go_sem, x0, x1]) rfl ⟨vp, vc, by rw [← HRES.out], by rw [← HRES.out]; exact hf.2.1, hf.2.2⟩
end Go.Proofs.YtffoklhopmhjaaaDoor
