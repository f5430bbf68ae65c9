/- Texts put together: ClsEnc, ClsSameR, ClsDec, ClsCheck, ClsExs, ClsExam, ClsVals, Phase, ClsValOf, ClsSets, ClsValOfL, DecTop, ReadTop, CopyA, ValLayE, ShelfT, ValEnc, RefSignH, RefSignC, RefSignD, RefSignB, RefSignA, RefSign, RefText, RawText, Bx, RefCmp, RefLists, RefSame, Awake, RawOne, RawOf, RawList, ValMath, FitRaw, FitVal, Flat, Copy, Odd, ValCutLaw, ValKindsLaw, ValBackLaw, ValOrderLaw, Nums. -/
import Derived.Test.YtffoklhopmhjaaaGreatDoorClsOk
import Derived.Test.YtffoklhopmhjaaaGreatDoorValLayN
import Derived.Test.YtffoklhopmhjaaaGreatDoorClsSame
import Derived.Test.YtffoklhopmhjaaaGreatDoorRowClsValuesY0
import Derived.Deep.RegionHeld3
import Derived.Test.YtffoklhopmhjaaaGreatDoorValFits
import Derived.Test.YtffoklhopmhjaaaGreatDoorClsPrs
import Derived.Test.YtffoklhopmhjaaaGreatDoorVBox
import Derived.Test.YtffoklhopmhjaaaGreatDoorClsTurn
import Derived.IntWalk
import Derived.Deep.AppendLies
import Derived.OwnWalk
import Derived.Laws.OwnMore
import Derived.Test.YtffoklhopmhjaaaGreatDoorOwned
import Derived.BigRegion
import Derived.Deep.WholeRow
import Derived.Laws.AppendOwnNone
import Derived.Test.YtffoklhopmhjaaaGreatDoorLies
import Derived.Test.YtffoklhopmhjaaaGreatDoorValLayL
import Derived.Test.YtffoklhopmhjaaaGreatDoorShelf
import Derived.Test.YtffoklhopmhjaaaGreatDoorValDef
import Derived.Test.YtffoklhopmhjaaaGreatDoorValUtf
import Derived.Test.YtffoklhopmhjaaaGreatDoorValRaw
import Derived.Test.YtffoklhopmhjaaaGreatDoorValCompare
import Derived.Deep.CutBlock
import Derived.Deep.CutRange
/- class.Encode: two closures over a builder. -/
set_option linter.unusedSimpArgs false
set_option linter.unusedVariables false
namespace Go.Proofs.YtffoklhopmhjaaaGreatDoor
open Go Go.RowKit Go.Shelf

theorem Laid.refl {b : Nat} {l : List UInt8} {w : World} {B : Nat} (h : Holds B b l w) : Laid B b l w w := ⟨h, Below.refl _ _, Lib.OthersKept.refl _ _ _⟩
theorem Laid.call {B b : Nat} {l : List UInt8} {w w0 w1 : World} (h : Laid B b l w w0) (hB : Below w0.heap.size w0 w1) (hlt : B ≤ w0.heap.size) : Laid B b l w w1 := by
  have hl : ∀ {i : Nat} {o : Obj}, w0.heap[i]? = some o → w1.heap[i]? = some o := fun {i o} hi => (hB.block i (Array.getElem?_eq_some_iff.1 hi).1).trans hi
  exact ⟨Holds.below h.1 hB, h.2.1.trans (hB.mono hlt), fun i o hi hne hc => hl (h.2.2 i o hi hne hc)⟩
theorem Laid.then {B b : Nat} {l t : List UInt8} {w w0 w1 : World} (h : Laid B b l w w0) (h1 : Laid B b t w0 w1) : Laid B b t w w1 := ⟨h1.1, h.2.1.trans h1.2.1, h.2.2.trans h1.2.2⟩
theorem Laid.fbox {B b : Nat} {l : List UInt8} {w w' : World} (h : Laid B b l w w') {q : Nat} {f : Fl} (hq : FBox w q f) (hb : q ≠ b) : FBox w' q f := h.2.2 q _ hq (by simpa using hb) (by rintro c fz ⟨⟩)
theorem Laid.cbox {B b : Nat} {l : List UInt8} {w w' : World} (h : Laid B b l w w') {q : Nat} {nm : ByteArray} {p : Option Addr} {m c : Nat} (hq : CBox w q nm p m c) (hb : q ≠ b) : CBox w' q nm p m c := h.2.2 q _ hq (by simpa using hb) (by rintro c fz ⟨⟩)

set_option maxHeartbeats 1000000 in
set_option maxRecDepth 100000 in
theorem encNum (B b : Nat) (l : List UInt8) (n : Int) (hn0 : -9223372036854775808 ≤ n) (hn1 : n ≤ 9223372036854775807) (w : World) (h : Holds B b l w) (hlen : l.length ≤ 100000) :
    Calls Tryz.prog 39 #[.int .i64 n, .pointer (some ⟨b, 0, none⟩)] w fun e w' => e = .returned (.tuple #[]) ∧ Laid B b (l ++ Wire.num n) w w' := by
  have hlt := holds_lt h
  have hnl := Wire.num_len n ⟨by omega, by omega⟩
  have h0 := Laid.refl h
  go_enter Tryz.func39, Tryz.ntmps39
  go_wp2_with fail
  refine (num_any n hn0 hn1 _).mono ?_
  rintro e w1 ⟨rfl, hB1⟩
  have h1 := h0.call hB1 (by omega)
  go_wp2_with fail
  refine (writeString_laid B b l _ _ h1.1 (by omega)).mono ?_
  rintro e w2 ⟨rfl, hL⟩
  have h2 := h1.then hL
  go_wp2_with fail
  go_end0
  exact ⟨rfl, h2⟩

set_option maxHeartbeats 1000000 in
set_option maxRecDepth 100000 in
theorem encName (B b : Nat) (l : List UInt8) (s : ByteArray) (hs : s.size ≤ 1000) (w : World) (h : Holds B b l w) (hlen : l.length ≤ 100000) :
    Calls Tryz.prog 42 #[.string s, .pointer (some ⟨b, 0, none⟩)] w fun e w' => e = .returned (.tuple #[]) ∧ Laid B b (l ++ txtB s) w w' := by
  have hlt := holds_lt h
  have hnl := Wire.num_len (s.size : Int) ⟨by omega, by omega⟩
  have h0 := Laid.refl h
  have hsl : (Wire.num s.size ++ s.data.toList).length ≤ 2000 := by rw [List.length_append, nm_size]; omega
  have HT := Lib.hid (fun W => text_any s (by omega) W)
  have htb : Wire.num s.size ++ s.data.toList = txtB s := rfl
  rw [htb] at hsl
  go_enter Tryz.func42, Tryz.ntmps42
  go_wp2_with fail
  refine (HT.out _).mono ?_
  rintro e w1 ⟨rfl, hB1⟩
  have h1 := h0.call hB1 (by omega)
  rw [htb]
  go_wp2_with fail
  refine (writeString_laid B b l _ _ h1.1 (by omega)).mono ?_
  rintro e w2 ⟨rfl, hL⟩
  have h2 := h1.then hL
  go_wp2_with fail
  go_end0
  exact ⟨rfl, h2⟩

def clsHead (cn : ByteArray) (n : Nat) : List UInt8 := txtB cn ++ Wire.num n
def clsTo (cn : ByteArray) (fs : List Fl) (k : Nat) : List UInt8 := clsHead cn fs.length ++ (fs.take k).flatMap Fl.bytes
theorem clsTo_zero (cn : ByteArray) (fs : List Fl) : clsTo cn fs 0 = clsHead cn fs.length := by unfold clsTo; simp
theorem clsTo_succ (cn : ByteArray) (fs : List Fl) (k : Nat) (h : k < fs.length) : clsTo cn fs (k + 1) = clsTo cn fs k ++ txtB fs[k].nm ++ Wire.num fs[k].k ++ Wire.num fs[k].o ++ Wire.num (if fs[k].ix then 1 else 0) := by
  unfold clsTo
  rw [List.take_succ_eq_append_getElem h, List.flatMap_append]
  simp [Fl.bytes]
theorem clsTo_end (cn : ByteArray) (fs : List Fl) : clsTo cn fs fs.length = (Cl.mk cn fs).bytes := by
  unfold clsTo clsHead Cl.bytes
  rw [List.take_length]
theorem txtB_len {s : ByteArray} (h : s.size ≤ 1000) : (txtB s).length ≤ 1010 := by
  have := Wire.num_len (s.size : Int) ⟨by omega, by omega⟩
  unfold txtB
  rw [List.length_append, nm_size]; omega
theorem fl_len {f : Fl} (h : f.ok = true) : f.bytes.length ≤ 60 := by
  obtain ⟨_, h2, _, _, h3, h4⟩ := Fl.ok_parts h
  have a1 := Wire.num_len (f.nm.size : Int) ⟨by omega, by omega⟩
  have a2 := Wire.num_len f.k ⟨by omega, by omega⟩
  have a3 := Wire.num_len f.o ⟨by omega, by omega⟩
  have a4 := Wire.num_len (if f.ix then 1 else 0) (by cases f.ix <;> exact ⟨by decide, by decide⟩)
  unfold Fl.bytes txtB
  simp only [List.length_append, nm_size]
  omega
theorem fls_len : ∀ (fs : List Fl), (∀ f ∈ fs, f.ok = true) → (fs.flatMap Fl.bytes).length ≤ 60 * fs.length
  | [], _ => by simp
  | f :: fs, h => by
    have h1 := fl_len (h f List.mem_cons_self)
    have h2 := fls_len fs (fun x hx => h x (List.mem_cons_of_mem _ hx))
    rw [List.flatMap_cons, List.length_append, List.length_cons]; omega
theorem clsTo_len {cn : ByteArray} {fs : List Fl} (h : (Cl.mk cn fs).ok = true) (k : Nat) : (clsTo cn fs k).length ≤ 2000 := by
  obtain ⟨h1, h2, h3⟩ := Cl.ok_parts h
  simp only at h1 h2
  have a := fls_len (fs.take k) (fun f hf => by
    obtain ⟨i, hi, e⟩ := List.getElem_of_mem (List.mem_of_mem_take hf)
    rw [← e]; exact (h3 i hi).1)
  have a1 := Wire.num_len (cn.size : Int) ⟨by omega, by omega⟩
  have a2 := Wire.num_len (fs.length : Int) ⟨by omega, by omega⟩
  have a3 : (fs.take k).length ≤ 8 := by rw [List.length_take]; omega
  unfold clsTo clsHead txtB
  simp only [List.length_append, nm_size]
  omega

/-- what Encode answers -/
def encCPost (cl : Cl) (w : World) (e : Ending) (w' : World) : Prop :=
  e = .returned (.tuple #[.string ⟨(if cl.ok then cl.bytes else []).toArray⟩, .int .i64 (if cl.ok then 0 else 40)]) ∧ Below w.heap.size w w'

set_option maxHeartbeats 4000000 in
set_option maxRecDepth 100000 in
theorem clsEncode_any (cn : ByteArray) (p : Option Addr) (m c : Nat) (fs : List Fl) (hcn : cn.size ≤ 9223372036854775807) (hff : ∀ f ∈ fs, f.fine) (w : World) (hl : FLies w p m c fs) (hm : m ≤ 9223372036854775807) (hT : Tabs w) :
    Calls Tryz.prog 15 #[clV cn p m c] w (encCPost (Cl.mk cn fs) w) := by
  have hright := fun W (h : Below w.heap.size w W) => clsRight_any cn p m c fs hcn hff W (hl.below h) hm (hT.below h)
  obtain ⟨rfl, hL⟩ := hl
  unfold encCPost
  have hb : Below w.heap.size w (w.alloc (.cells #[.string cn, .slice p fs.length c] 29)) := (Below.refl _ _).alloc (Nat.le_refl _) _
  have hC := CBox.new w cn p fs.length c
  cases hok : (Cl.mk cn fs).ok with
  | false =>
    rw [hok] at hright
    have HR := Lib.hid hright
    have HB := Lib.hid hb
    obtain ⟨c0, c1⟩ := hC.facts
    clear hright hb hC hff hL hT hok
    go_enter Tryz.func15, Tryz.ntmps15
    go_wp2_with fail
    refine (HR.out _ HB.out).mono ?_
    rintro e W1 ⟨rfl, hB1⟩
    go_wp2_with fail
    exact bodyPost_ret (v := .tuple #[.string ⟨#[]⟩, .int .i64 40]) (by simp [results, Tryz.results15, go_sem]) rfl ⟨rfl, HB.out.trans (hB1.mono HB.out.size)⟩
  | true =>
    rw [hok] at hright
    obtain ⟨p1, p2, p3⟩ := Cl.ok_parts hok
    simp only at p1 p2 p3
    have hnl : cn.size ≤ 1000 := by omega
    have hhl : (txtB cn).length ≤ 1010 := txtB_len hnl
    have hlen := clsTo_len hok
    have hfb : ∀ k (h : k < fs.length), fs[k].nm.size ≤ 1000 ∧ (1 ≤ fs[k].k ∧ fs[k].k ≤ 5) ∧ (0 ≤ fs[k].o ∧ fs[k].o ≤ 4) := fun k h => by
      obtain ⟨_, b2, _, _, b3, b4⟩ := Fl.ok_parts (p3 k h).1
      exact ⟨by omega, b3, b4⟩
    have HSUCC := Lib.hid (clsTo_succ cn fs)
    have HZERO := Lib.hid (clsTo_zero cn fs)
    have HEND := Lib.hid (clsTo_end cn fs)
    have hhd : txtB cn ++ Wire.num fs.length = clsHead cn fs.length := rfl
    have HHD := Lib.hid hhd
    generalize hG : clsTo cn fs = G at hlen
    have HG := Lib.hid hG
    have HR := Lib.hid hright
    have HB := Lib.hid hb
    have HC := Lib.hid hC
    have HLEN := Lib.hid hlen
    have HFB := Lib.hid hfb
    have HL := Lib.hid hL
    obtain ⟨c0, c1⟩ := hC.facts
    clear hright hb hC hff hL hT hok hlen hfb p3 hhd hG
    go_enter Tryz.func15, Tryz.ntmps15
    go_wp2_with fail
    refine (HR.out _ HB.out).mono ?_
    rintro e W1 ⟨rfl, hB1⟩
    have hBw := HB.out.trans (hB1.mono HB.out.size)
    have hC1 := (HC.out.below hB1)
    have hz1 : w.heap.size < W1.heap.size := hC1.lt
    have h0 : Holds W1.heap.size W1.heap.size [] (W1.alloc (.cells #[.pointer none, .slice none 0 0] 66)) := Lib.IsBuilderF.of (Lib.fresh_isBuilder _ _ _)
    have hC2 := hC1.alloc (.cells #[.pointer none, .slice none 0 0] 66)
    have hB2 : Below W1.heap.size W1 (W1.alloc (.cells #[.pointer none, .slice none 0 0] 66)) := (Below.refl _ _).alloc (Nat.le_refl _) _
    clear c0 c1 hB1 hC1
    obtain ⟨c0, c1⟩ := hC2.facts
    have H0 := Lib.hid h0
    have HC2 := Lib.hid hC2
    have HBW := Lib.hid hBw
    have HB2 := Lib.hid hB2
    clear h0 hC2 hBw hB2 HB HC
    go_wp2_with fail
    generalize hbb : W1.heap.size = bb at *
    generalize W1.alloc (.cells #[.pointer none, .slice none 0 0] 66) = U at *
    refine (encName bb bb [] cn hnl _ H0.out (by simp)).mono ?_
    rintro e W3 ⟨rfl, hL3⟩
    rw [List.nil_append] at hL3
    have hC3 := hL3.cbox HC2.out (by omega)
    have HL3 := Lib.hid hL3
    clear c0 c1 hL3
    obtain ⟨c0, c1⟩ := hC3.facts
    have HC3 := Lib.hid hC3
    clear hC3
    go_wp2_with fail
    refine (encNum bb bb (txtB cn) (fs.length : Int) (by omega) (by omega) _ HL3.out.1 (by omega)).mono ?_
    rintro e W4 ⟨rfl, hL4⟩
    rw [HHD.out, ← HZERO.out, HG.out] at hL4
    have hC4 := hL4.cbox HC3.out (by omega)
    have HL4 := Lib.hid (HL3.out.then hL4)
    clear c0 c1 hL4
    obtain ⟨c0, c1⟩ := hC4.facts
    have HC4 := Lib.hid hC4
    clear hC4 HC3 HL3 H0 HC2
    go_wp2_with fail
    clear c0 c1
    go_loopw [26] (fun i wr => ∃ k : Nat, k ≤ fs.length ∧ i = .int .i64 (k : Int) ∧ Laid bb bb (G k) U wr ∧ CBox wr w.heap.size cn p fs.length c) (fun i _ => fs.length - (intOf i).toNat)
    case atStart => exact ⟨0, by omega, rfl, HL4.out, HC4.out⟩
    case round =>
      obtain ⟨k, hk, rfl, hLr, hCr⟩ := hrel
      clear HL4 HC4
      have hbl := holds_lt hLr.1
      have hlen := HLEN.out k
      by_cases hlt : k < fs.length
      · have e1 : decide ((k : Int) < (fs.length : Int)) = true := decide_eq_true (by omega)
        have e1' : (k : Int) < (fs.length : Int) := by omega
        have e0 : (0 : Int) ≤ (k : Int) := by omega
        obtain ⟨b, off, rfl, hbb2, hc⟩ := HL.out.at (by omega)
        have hbw2 : Below w.heap.size w wr := (HBW.out.trans (HB2.out.mono (by omega))).trans (hLr.2.1.mono (by omega))
        have hcx : ∀ (i : Nat) (u : Value), ((fs[k]'hlt).cells)[i]? = some u → wr.cell? ⟨b, off + k * 4 + i, none⟩ = some u := fun i u hu => by
          rw [hbw2.cell (p := ⟨b, off + k * 4 + i, none⟩) hbb2, Nat.add_assoc]
          exact hc _ _ (flCells_at fs k hlt i u hu)
        have hf := HFB.out k hlt
        have hsucc := HSUCC.out k hlt
        rw [HG.out] at hsucc
        have hlen1 := HLEN.out (k + 1)
        rw [hsucc] at hlen1
        generalize fs[k]'hlt = f at hcx hf hsucc hlen1
        obtain ⟨fn, fk, fo, fx⟩ := f
        simp only at hf hsucc hlen1
        simp only [List.length_append] at hlen1
        have z0 : wr.cell? ⟨b, off + k * 4, none⟩ = some (.string fn) := hcx 0 _ rfl
        have z1 : wr.cell? ⟨b, off + k * 4 + 1, none⟩ = some (.int .i64 fk) := hcx 1 _ rfl
        have z2 : wr.cell? ⟨b, off + k * 4 + 2, none⟩ = some (.int .i64 fo) := hcx 2 _ rfl
        have z3 : wr.cell? ⟨b, off + k * 4 + 3, none⟩ = some (.bool fx) := hcx 3 _ rfl
        have hal : Below wr.heap.size wr (wr.alloc (.cells #[.string fn, .int .i64 fk, .int .i64 fo, .bool fx] 48)) := (Below.refl _ _).alloc (Nat.le_refl _) _
        have M0 := Lib.hid (hLr.call hal (by omega))
        have F0 := Lib.hid (FBox.new wr ⟨fn, fk, fo, fx⟩)
        have K0 := Lib.hid (hCr.below hal)
        have HS := Lib.hid hsucc
        have hne : wr.heap.size ≠ bb := by omega
        have hne2 : w.heap.size ≠ bb := by omega
        clear hcx hc hsucc hal hLr hCr hbw2
        obtain ⟨y0, y1, y2, y3⟩ := F0.out.facts
        simp only at y0 y1 y2 y3
        go_wp2_with fail
        generalize wr.alloc (.cells #[.string fn, .int .i64 fk, .int .i64 fo, .bool fx] 48) = X at M0 F0 K0 y0 y1 y2 y3 ⊢
        generalize wr.heap.size = bf at F0 hne y0 y1 y2 y3 ⊢
        clear z0 z1 z2 z3
        go_wp2_with fail
        refine (encName bb bb (G k) fn hf.1 _ M0.out.1 (by omega)).mono ?_
        rintro e Y1 ⟨rfl, hL⟩
        have F1 := Lib.hid (hL.fbox F0.out hne)
        have K1 := Lib.hid (hL.cbox K0.out hne2)
        have M1 := Lib.hid (M0.out.then hL)
        clear hL M0 F0 K0 y0 y1 y2 y3
        obtain ⟨y0, y1, y2, y3⟩ := F1.out.facts
        simp only at y0 y1 y2 y3
        go_wp2_with fail
        refine (encNum bb bb (G k ++ txtB fn) fk (by omega) (by omega) _ M1.out.1 (by rw [List.length_append]; omega)).mono ?_
        rintro e Y2 ⟨rfl, hL⟩
        have F2 := Lib.hid (hL.fbox F1.out hne)
        have K2 := Lib.hid (hL.cbox K1.out hne2)
        have M2 := Lib.hid (M1.out.then hL)
        clear hL M1 F1 K1 y0 y1 y2 y3
        obtain ⟨y0, y1, y2, y3⟩ := F2.out.facts
        simp only at y0 y1 y2 y3
        go_wp2_with fail
        refine (encNum bb bb (G k ++ txtB fn ++ Wire.num fk) fo (by omega) (by omega) _ M2.out.1 (by rw [List.length_append, List.length_append]; omega)).mono ?_
        rintro e Y3 ⟨rfl, hL⟩
        have F3 := Lib.hid (hL.fbox F2.out hne)
        have K3 := Lib.hid (hL.cbox K2.out hne2)
        have M3 := Lib.hid (M2.out.then hL)
        clear hL M2 F2 K2 y0 y1 y2 y3
        obtain ⟨y0, y1, y2, y3⟩ := F3.out.facts
        simp only at y0 y1 y2 y3
        cases fx with
        | true =>
          go_wp2_with fail
          refine (encNum bb bb (G k ++ txtB fn ++ Wire.num fk ++ Wire.num fo) 1 (by decide) (by decide) _ M3.out.1 (by rw [List.length_append, List.length_append, List.length_append]; omega)).mono ?_
          rintro e Y4 ⟨rfl, hL⟩
          have K4 := Lib.hid (hL.cbox K3.out hne2)
          have M4 := Lib.hid (M3.out.then hL)
          clear hL M3 K3 F3 y0 y1 y2 y3
          have hgo : Laid bb bb (G (k + 1)) U Y4 := by
            have h := M4.out
            rw [HS.out]
            exact h
          have HGO := Lib.hid hgo
          clear hgo M4
          go_wp2_with fail
          exact ⟨⟨k + 1, by omega, by go_num, HGO.out, K4.out⟩, by simp [intOf]; omega⟩
        | false =>
          go_wp2_with fail
          refine (encNum bb bb (G k ++ txtB fn ++ Wire.num fk ++ Wire.num fo) 0 (by decide) (by decide) _ M3.out.1 (by rw [List.length_append, List.length_append, List.length_append]; omega)).mono ?_
          rintro e Y4 ⟨rfl, hL⟩
          have K4 := Lib.hid (hL.cbox K3.out hne2)
          have M4 := Lib.hid (M3.out.then hL)
          clear hL M3 K3 F3 y0 y1 y2 y3
          have hgo : Laid bb bb (G (k + 1)) U Y4 := by
            have h := M4.out
            rw [HS.out]
            exact h
          have HGO := Lib.hid hgo
          clear hgo M4
          go_wp2_with fail
          exact ⟨⟨k + 1, by omega, by go_num, HGO.out, K4.out⟩, by simp [intOf]; omega⟩
      · obtain rfl : k = fs.length := by omega
        have e1 : decide ((fs.length : Int) < (fs.length : Int)) = false := decide_eq_false (by omega)
        have HLR := Lib.hid hLr
        clear hLr
        go_wp2_with fail
        refine (Tryz.Builder_String_any_k _ _ (G fs.length) _ HLR.out.1 (by omega)).mono ?_
        rintro e w4 ⟨rfl, _, hB4, _⟩
        have hfin : Below w.heap.size w w4 := (HBW.out.trans (HB2.out.mono (by omega))).trans ((HLR.out.2.1.trans hB4).mono (by omega))
        have he : G fs.length = (Cl.mk cn fs).bytes := by rw [← HG.out]; exact HEND.out
        rw [he]
        go_wp2_with fail
        go_ret2
        exact ⟨rfl, hfin⟩
end Go.Proofs.YtffoklhopmhjaaaGreatDoor

/- moraineref04.Same. -/
set_option linter.unusedSimpArgs false
set_option linter.unusedVariables false
namespace Go.Proofs.YtffoklhopmhjaaaGreatDoor
open Go Go.RowKit Go.Shelf

set_option maxHeartbeats 2000000 in
set_option maxRecDepth 100000 in
theorem rsame_any (cn : ByteArray) (p : Option Addr) (m c : Nat) (fs : List Fl) (dn : ByteArray) (p' : Option Addr) (m' c' : Nat) (gs : List Fl) (w : World) (hl : FLies w p m c fs) (hl' : FLies w p' m' c' gs) (hm : m ≤ 9223372036854775807) (hm' : m' ≤ 9223372036854775807) :
    Calls Tryz.prog 18 #[clV cn p m c, clV dn p' m' c'] w fun e w' => e = .returned (.bool (sameC ⟨cn, fs⟩ ⟨dn, gs⟩)) ∧ Below w.heap.size w w' := by
  rw [sameC_split]
  simp only
  have b2 : Below w.heap.size w ((w.alloc (.cells #[.string cn, .slice p m c] 29)).alloc (.cells #[.string dn, .slice p' m' c'] 29)) := below_two _ _
  have hc1 := (CBox.new w cn p m c).alloc (.cells #[.string dn, .slice p' m' c'] 29)
  have hc2 := CBox.new (w.alloc (.cells #[.string cn, .slice p m c] 29)) dn p' m' c'
  rw [World.size_alloc] at hc2
  obtain ⟨rfl, hL⟩ := hl
  obtain ⟨rfl, hL'⟩ := hl'
  obtain ⟨s0, s1⟩ := hc1.facts
  obtain ⟨t0, t1⟩ := hc2.facts
  have HB2 := Lib.hid b2
  have HC1 := Lib.hid hc1
  have HC2 := Lib.hid hc2
  have HL := Lib.hid hL
  have HL' := Lib.hid hL'
  clear b2 hc1 hc2 hL hL'
  generalize hq : (cn.toList == dn.toList) = q
  cases q with
  | false =>
    have q0 : ¬ cn.toList = dn.toList := by simpa using hq
    go_enter Tryz.func18, Tryz.ntmps18
    go_wp2_with fail
    go_ret
    exact ⟨rfl, HB2.out⟩
  | true =>
  have q0 : cn.toList = dn.toList := by simpa using hq
  clear hq
  rw [Bool.true_and]
  by_cases hlen : fs.length = gs.length
  · have hat := fun k h h' => flsEq_at (fs := fs) (gs := gs) (k := k) h h'
    have hall := fun h => flsEq_all (fs := fs) (gs := gs) hlen h
    generalize flsEq fs gs = r at hat hall ⊢
    have HAT := Lib.hid hat
    have HALL := Lib.hid hall
    have HLEN := Lib.hid hlen
    rw [← hlen] at HB2 HC1 HC2 HL' s0 s1 t0 t1 hm' ⊢
    clear hlen
    clear hat hall
    go_enter Tryz.func18, Tryz.ntmps18
    go_wp2_with fail
    go_loopw [5] (fun i wr => ∃ k : Nat, k ≤ fs.length ∧ i = .int .i64 (k : Int) ∧ (∀ j (h : j < fs.length) (h' : j < gs.length), j < k → fs[j].eqB gs[j] = true) ∧ Below w.heap.size w wr ∧ CBox wr w.heap.size cn p fs.length c ∧ CBox wr (w.heap.size + 1) dn p' fs.length c') (fun i _ => fs.length - (intOf i).toNat)
    case atStart => exact ⟨0, by omega, rfl, fun j _ _ h => absurd h (by omega), HB2.out, HC1.out, HC2.out⟩
    case round =>
      obtain ⟨k, hk, rfl, he, hB, hX, hY⟩ := hrel
      obtain ⟨v0, v1⟩ := hX.facts
      obtain ⟨v2, v3⟩ := hY.facts
      have HX := Lib.hid hX
      have HY := Lib.hid hY
      clear hX hY
      have HE := Lib.hid he; clear he
      by_cases hlt : k < fs.length
      · have hlt' : k < gs.length := by rw [← HLEN.out]; exact hlt
        have e1 : decide ((k : Int) < (fs.length : Int)) = true := decide_eq_true (by omega)
        have e1' : (k : Int) < (fs.length : Int) := by omega
        have e0 : (0 : Int) ≤ (k : Int) := by omega
        obtain ⟨b, off, rfl, hb, hc⟩ := HL.out.at (by omega)
        obtain ⟨b', off', rfl, hb', hc'⟩ := HL'.out.at (by omega)
        have hd : Below w.heap.size w wr.drew := hB.drew
        have hXd := HX.out.below (Below.refl _ _).drew
        have hYd := HY.out.below (Below.refl _ _).drew
        have HXD := Lib.hid hXd
        have HYD := Lib.hid hYd
        obtain ⟨u0, u1⟩ := hXd.facts
        obtain ⟨u2, u3⟩ := hYd.facts
        clear hXd hYd
        have hcx : ∀ (i : Nat) (u : Value), ((fs[k]'hlt).cells)[i]? = some u → wr.drew.cell? ⟨b, off + k * 4 + i, none⟩ = some u := fun i u hu => by
          rw [hd.cell (p := ⟨b, off + k * 4 + i, none⟩) hb, Nat.add_assoc]
          exact hc _ _ (flCells_at fs k hlt i u hu)
        have hcy : ∀ (i : Nat) (u : Value), ((gs[k]'hlt').cells)[i]? = some u → wr.drew.cell? ⟨b', off' + k * 4 + i, none⟩ = some u := fun i u hu => by
          rw [hd.cell (p := ⟨b', off' + k * 4 + i, none⟩) hb', Nat.add_assoc]
          exact hc' _ _ (flCells_at gs k hlt' i u hu)
        have hat := HAT.out k hlt hlt'
        have hnx : (fs[k]'hlt).eqB (gs[k]'hlt') = true → ∀ j (h : j < fs.length) (h' : j < gs.length), j < k + 1 → fs[j].eqB gs[j] = true := fun h j hj hj' hjk => by
          rcases Nat.lt_or_ge j k with h1 | h1
          · exact HE.out j hj hj' h1
          · have e : j = k := by omega
            subst e; exact h
        generalize fs[k]'hlt = f at hcx hat hnx
        generalize gs[k]'hlt' = g at hcy hat hnx
        obtain ⟨fn, fk, fo, fx⟩ := f
        obtain ⟨gn, gk, go, gx⟩ := g
        unfold Fl.eqB at hat hnx
        simp only at hat hnx
        have z0 : wr.drew.cell? ⟨b, off + k * 4, none⟩ = some (.string fn) := hcx 0 _ rfl
        have z1 : wr.drew.cell? ⟨b, off + k * 4 + 1, none⟩ = some (.int .i64 fk) := hcx 1 _ rfl
        have z2 : wr.drew.cell? ⟨b, off + k * 4 + 2, none⟩ = some (.int .i64 fo) := hcx 2 _ rfl
        have z3 : wr.drew.cell? ⟨b, off + k * 4 + 3, none⟩ = some (.bool fx) := hcx 3 _ rfl
        have y0 : wr.drew.cell? ⟨b', off' + k * 4, none⟩ = some (.string gn) := hcy 0 _ rfl
        have y1 : wr.drew.cell? ⟨b', off' + k * 4 + 1, none⟩ = some (.int .i64 gk) := hcy 1 _ rfl
        have y2 : wr.drew.cell? ⟨b', off' + k * 4 + 2, none⟩ = some (.int .i64 go) := hcy 2 _ rfl
        have y3 : wr.drew.cell? ⟨b', off' + k * 4 + 3, none⟩ = some (.bool gx) := hcy 3 _ rfl
        have HATT := Lib.hid hat
        have HNX := Lib.hid hnx
        have HD := Lib.hid hd
        clear hcx hcy hc hc' hat hnx hd hB
        by_cases q0 : fn.toList = gn.toList
        · skip
          by_cases q1 : fk = gk
          · skip
            by_cases q2 : fo = go
            · skip
              by_cases q3 : fx = gx
              · skip
                have hnx := HNX.out (by rw [beq_iff_eq.2 q0, beq_iff_eq.2 q1, beq_iff_eq.2 q2, beq_iff_eq.2 q3]; rfl)
                have HN2 := Lib.hid hnx
                clear hnx
                go_wp2_with fail
                go_region
                go_wp2_with fail
                exact ⟨⟨k + 1, by omega, by go_num, HN2.out, HD.out, HXD.out, HYD.out⟩, by simp [intOf]; omega⟩
              · have hz := HATT.out (by rw [beq_iff_eq.2 q0, beq_iff_eq.2 q1, beq_iff_eq.2 q2, beq_eq_false_iff_ne.2 q3]; rfl)
                have HZ := Lib.hid hz
                clear hz
                go_wp2_with fail
                go_region
                go_wp2_with fail
                go_ret
                exact ⟨by rw [HZ.out] <;> rfl, HD.out⟩
            · have hz := HATT.out (by rw [beq_iff_eq.2 q0, beq_iff_eq.2 q1, beq_eq_false_iff_ne.2 q2]; rfl)
              have HZ := Lib.hid hz
              clear hz
              go_wp2_with fail
              go_region
              go_wp2_with fail
              go_ret
              exact ⟨by rw [HZ.out] <;> rfl, HD.out⟩
          · have hz := HATT.out (by rw [beq_iff_eq.2 q0, beq_eq_false_iff_ne.2 q1]; rfl)
            have HZ := Lib.hid hz
            clear hz
            go_wp2_with fail
            go_region
            go_wp2_with fail
            go_ret
            exact ⟨by rw [HZ.out] <;> rfl, HD.out⟩
        · have hz := HATT.out (by rw [beq_eq_false_iff_ne.2 q0]; rfl)
          have HZ := Lib.hid hz
          clear hz
          go_wp2_with fail
          go_region
          go_wp2_with fail
          go_ret
          exact ⟨by rw [HZ.out] <;> rfl, HD.out⟩
      · obtain rfl : k = fs.length := by omega
        have e1 : decide ((fs.length : Int) < (fs.length : Int)) = false := decide_eq_false (by omega)
        have hz := HALL.out (fun j h h' => HE.out j h h' h)
        have HZ := Lib.hid hz
        clear hz
        go_wp2_with fail
        go_ret
        exact ⟨by rw [HZ.out] <;> rfl, hB⟩
  · have dne : ((fs.length : Int) != (gs.length : Int)) = true := by simp; omega
    have dne' : ¬ (fs.length : Int) = (gs.length : Int) := by omega
    have hz := flsEq_len hlen
    have HZ := Lib.hid hz
    clear hz
    go_enter Tryz.func18, Tryz.ntmps18
    go_wp2_with fail
    go_ret
    exact ⟨by rw [HZ.out] <;> rfl, HB2.out⟩
end Go.Proofs.YtffoklhopmhjaaaGreatDoor

/- class.Decode. -/
set_option linter.unusedSimpArgs false
set_option linter.unusedVariables false
namespace Go.Proofs.YtffoklhopmhjaaaGreatDoor
open Go Go.RowKit Go.Shelf Go.Sort

theorem textP_some {l : List UInt8} {x : List UInt8 × Nat} (h : textP l = some x) : x.1.length ≤ 10000 ∧ x.2 ≤ l.length := by
  unfold textP at h
  cases hn : textL l with
  | none => rw [hn] at h; cases h
  | some v =>
    rw [hn] at h
    cases h
    have h1 := textL_some hn
    have := h1.2.length_le
    rw [List.length_append] at this
    exact ⟨h1.1, this⟩
theorem numP_some {l : List UInt8} {x : Int × Nat} (h : numP l = some x) : (-9223372036854775808 ≤ x.1 ∧ x.1 ≤ 9223372036854775807) ∧ x.2 ≤ l.length := by
  unfold numP at h
  cases hn : numL l with
  | none => rw [hn] at h; cases h
  | some v =>
    rw [hn] at h
    cases h
    have h1 := numL_some hn
    exact ⟨⟨h1.1.1, h1.1.2⟩, h1.2.length_le⟩
theorem seqP_some {α β γ : Type} {P : Prs α} {Q : α → Prs β} {f : α → β → γ} {l : List UInt8} {z : γ × Nat} (h : seqP P Q f l = some z) : ∃ x y, P l = some x ∧ Q x.1 (l.drop x.2) = some y ∧ z = (f x.1 y.1, x.2 + y.2) := by
  unfold seqP at h
  cases hp : P l with
  | none => rw [hp] at h; cases h
  | some x =>
    rw [hp] at h
    simp only at h
    cases hq : Q x.1 (l.drop x.2) with
    | none => rw [hq] at h; cases h
    | some y =>
      rw [hq] at h
      exact ⟨x, y, rfl, hq, (Option.some.inj h).symm⟩
theorem fieldP_fine {l : List UInt8} {z : Fl × Nat} (h : fieldP l = some z) : z.1.fine ∧ z.2 ≤ l.length := by
  obtain ⟨x, y, h1, h2, rfl⟩ := seqP_some h
  obtain ⟨x2, y2, h3, h4, rfl⟩ := seqP_some h2
  obtain ⟨x3, y3, h5, h6, rfl⟩ := seqP_some h4
  have a := textP_some h1
  have b := numP_some h3
  have c := numP_some h5
  have d : y3.2 ≤ ((l.drop x.2).drop x2.2 |>.drop x3.2).length := by
    unfold ixP at h6
    cases hn : numP ((l.drop x.2).drop x2.2 |>.drop x3.2) with
    | none => rw [hn] at h6; cases h6
    | some v =>
      rw [hn] at h6
      simp only at h6
      have e := (numP_some hn).2
      split at h6
      · cases h6; exact e
      · split at h6
        · cases h6; exact e
        · cases h6
  simp only [List.length_drop] at b c d
  refine ⟨⟨?_, b.1, c.1⟩, ?_⟩
  · show (⟨x.1.toArray⟩ : ByteArray).size ≤ _
    have : (⟨x.1.toArray⟩ : ByteArray).size = x.1.length := List.size_toArray
    omega
  · show x.2 + (x2.2 + (x3.2 + y3.2)) ≤ l.length
    have := a.2
    omega
theorem fieldsP_fine : ∀ (n : Nat) (l : List UInt8) (z : List Fl × Nat), fieldsP n l = some z → (∀ f ∈ z.1, f.fine) ∧ z.2 ≤ l.length
  | 0, l, z, h => by cases h; exact ⟨by simp, Nat.zero_le _⟩
  | n + 1, l, z, h => by
    obtain ⟨x, y, h1, h2, rfl⟩ := seqP_some h
    have a := fieldP_fine h1
    have b := fieldsP_fine n _ _ h2
    rw [List.length_drop] at b
    refine ⟨fun f hf => ?_, ?_⟩
    · rcases List.mem_cons.1 hf with rfl | hf
      · exact a.1
      · exact b.1 f hf
    · show x.2 + y.2 ≤ l.length
      omega
theorem clsP_fine {l : List UInt8} {z : Cl × Nat} (h : clsP l = some z) : z.1.nm.size ≤ 10000 ∧ (∀ f ∈ z.1.fs, f.fine) ∧ z.2 ≤ l.length := by
  obtain ⟨x, y, h1, h2, rfl⟩ := seqP_some h
  obtain ⟨x2, y2, h3, h4, rfl⟩ := seqP_some h2
  have a := textP_some h1
  have b := fieldsP_fine _ _ _ h4
  have c : x2.2 ≤ (l.drop x.2).length := by
    unfold sizeP at h3
    cases hn : numP (l.drop x.2) with
    | none => rw [hn] at h3; cases h3
    | some v =>
      rw [hn] at h3
      simp only at h3
      have e := (numP_some hn).2
      split at h3
      · cases h3; exact e
      · cases h3
  simp only [List.length_drop] at b c
  refine ⟨?_, b.1, ?_⟩
  · show (⟨x.1.toArray⟩ : ByteArray).size ≤ _
    have : (⟨x.1.toArray⟩ : ByteArray).size = x.1.length := List.size_toArray
    omega
  · show x.2 + (x2.2 + y2.2) ≤ l.length
    have := a.2
    omega

theorem dec_fin {w W : World} {A : Nat} {nm : ByteArray} {p : Option Addr} {m c : Nat} (h : CBox W A nm p m c) (hb : Below w.heap.size w W) (hA : w.heap.size ≤ A) (nm' : ByteArray) (q : Option Addr) (m' c' : Nat) :
    CBox ((W.setCell ⟨A, 0, none⟩ (.string nm')).setCell ⟨A, 1, none⟩ (.slice q m' c')) A nm' q m' c' ∧ Below w.heap.size w ((W.setCell ⟨A, 0, none⟩ (.string nm')).setCell ⟨A, 1, none⟩ (.slice q m' c')) :=
  ⟨(h.set0 nm').set1 q m' c', (hb.setCell (p := ⟨A, 0, none⟩) hA _).setCell (p := ⟨A, 1, none⟩) hA _⟩
theorem below_kept {w W W' : World} {R : Nat} (h : Below w.heap.size w W) (hk : Kept R W W') (hR : w.heap.size ≤ R) : Below w.heap.size w W' := below_grown h hk hR
theorem lies_apart {W : World} {p : Option Addr} {m c : Nat} {fs : List Fl} (h : FLies W p m c fs) {A : Nat} {nm' : ByteArray} {p' : Option Addr} {m' c' : Nat} (hA : CBox W A nm' p' m' c') (i : Nat) (v : Value) : FLies (W.setCell ⟨A, i, none⟩ v) p m c fs := by
  obtain ⟨rfl, h1, h2⟩ := h
  refine ⟨rfl, h1, ?_⟩
  cases fs with
  | nil => exact .inl ⟨rfl, p, c, rfl⟩
  | cons f fs =>
    rcases h2 with ⟨h0, _⟩ | ⟨b, off, d, e, hb, hc⟩
    · simp at h0
    · have hbA : b ≠ A := by
        rintro rfl
        have k0 := hc 0 (.string f.nm) rfl
        have k1 := hc 1 (.int .i64 f.k) rfl
        rw [Lib.cell_of_heap hA] at k0 k1
        match off with
        | 0 => simp at k1
        | 1 => simp at k0
        | off + 2 => simp at k0
      refine .inr ⟨b, off, d, e, by simpa using hb, fun j u hu => ?_⟩
      have hh : (W.setCell ⟨A, i, none⟩ v).heap[b]? = W.heap[b]? := Below.heap_setCell W ⟨A, i, none⟩ v b hbA
      have := hc j u hu
      unfold World.cell? at this ⊢
      simp only at this ⊢
      rw [hh]
      exact this
theorem fieldsP_len : ∀ (n : Nat) (l : List UInt8) (z : List Fl × Nat), fieldsP n l = some z → z.1.length = n
  | 0, l, z, h => by cases h; rfl
  | n + 1, l, z, h => by
    obtain ⟨x, y, h1, h2, rfl⟩ := seqP_some h
    have := fieldsP_len n _ _ h2
    show (x.1 :: y.1).length = n + 1
    rw [List.length_cons, this]
theorem clsP_len {l : List UInt8} {z : Cl × Nat} (h : clsP l = some z) : z.1.fs.length ≤ 8 := by
  obtain ⟨x, y, h1, h2, rfl⟩ := seqP_some h
  obtain ⟨x2, y2, h3, h4, rfl⟩ := seqP_some h2
  have a := fieldsP_len _ _ _ h4
  show y2.1.length ≤ 8
  rw [a]
  unfold sizeP at h3
  cases hn : numP (l.drop x.2) with
  | none => rw [hn] at h3; cases h3
  | some v =>
    rw [hn] at h3
    simp only at h3
    split at h3
    · cases h3
      show v.1.toNat ≤ 8
      omega
    · cases h3

/-- what Decode answers -/
def decCPost (s : ByteArray) (p : Nat) (w : World) (e : Ending) (w' : World) : Prop :=
  Below w.heap.size w w' ∧ match decC (s.data.toList.drop p) with
    | none => e = .returned (.tuple #[clV ⟨#[]⟩ none 0 0, .int .i64 0, .int .i64 10])
    | some y => ∃ (q : Option Addr) (m c : Nat), e = .returned (.tuple #[clV y.1.nm q m c, .int .i64 ((p + y.2 : Nat) : Int), .int .i64 0]) ∧ FLies w' q m c y.1.fs ∧ m ≤ 8

set_option maxHeartbeats 8000000 in
set_option maxRecDepth 100000 in
theorem clsDecode_any (s : ByteArray) (hs : s.size ≤ 9223372036854775807) (p : Nat) (hp : p ≤ s.size) (ea : Addr) (w : World) (hT : Tabs w) (hE : errLies ea w) :
    Calls Tryz.prog 16 #[.string s, .int .i64 (p : Int)] w (decCPost s p w) := by
  have b2 : Below w.heap.size w ((w.alloc (.cells #[.string ⟨#[]⟩, .slice none 0 0] 29)).alloc (.cells #[.string s, .int .i64 (p : Int), .bool false] 130)) := below_two _ _
  have hA := (CBox.new w ⟨#[]⟩ none 0 0).alloc (.cells #[.string s, .int .i64 (p : Int), .bool false] 130)
  have hR : RrO w ea s (w.heap.size + 1) (some p) ((w.alloc (.cells #[.string ⟨#[]⟩, .slice none 0 0] 29)).alloc (.cells #[.string s, .int .i64 (p : Int), .bool false] 130)) := by
    refine ⟨hs, hE, b2, by omega, ?_, hp⟩
    have h := World.alloc_heap_new (w.alloc (.cells #[.string ⟨#[]⟩, .slice none 0 0] 29)) (.cells #[.string s, .int .i64 (p : Int), .bool false] 130)
    rw [World.size_alloc] at h
    exact h
  have hread := clsRead_any w ea s (w.heap.size + 1) (some p) _ hR (by omega)
  have hrun := clsRun_is s p
  unfold readCPost at hread
  generalize clsRun s (some p) = res at hread hrun
  generalize (⟨(textS s (some p)).1.toArray⟩ : ByteArray) = nm0 at hread hrun
  unfold decCPost
  have hdec : decC (s.data.toList.drop p) = match clsP (s.data.toList.drop p) with
    | none => none
    | some x => if x.1.ok = true then some x else none := rfl
  rw [hdec]
  clear hdec
  have HREAD := Lib.hid hread
  have HA := Lib.hid hA
  have HB2 := Lib.hid b2
  have HTT := Lib.hid (show ∀ W, Below w.heap.size w W → Tabs W from fun W h => hT.below h)
  have hnew := rdNew s (p : Int) (w.alloc (.cells #[.string ⟨#[]⟩, .slice none 0 0] 29))
  rw [World.size_alloc] at hnew
  have HNEW := Lib.hid hnew
  clear hread hA b2 hT hR hnew hE
  cases hcp : clsP (s.data.toList.drop p) with
  | none =>
    rw [hcp] at hrun
    simp only at hrun ⊢
    have HRUN := Lib.hid hrun
    clear hrun hcp
    go_enter Tryz.func16, Tryz.ntmps16
    go_wp2_with fail
    refine HNEW.out.mono ?_
    rintro e W2 ⟨rfl, rfl⟩
    go_wp2_with fail
    refine HREAD.out.mono ?_
    rintro e W3 ⟨hk, hr, cn, q, m, c, rfl, hok⟩
    have hB3 := below_kept HB2.out hk (by omega)
    have hA3 := HA.out.grown hk (fun e => by have := Option.some.inj e; omega)
    have hal : Below W3.heap.size W3 (W3.alloc (.cells #[.string cn, .slice q m c] 29)) := (Below.refl _ _).alloc (Nat.le_refl _) _
    have HA4 := Lib.hid (hA3.below hal)
    have HB4 := Lib.hid (hB3.trans (hal.mono hB3.size))
    have hr4 := hr.below hal
    obtain ⟨p', bad, hr5, hbad⟩ : ∃ p' bad, Rr w ea s (w.heap.size + 1) p' bad (W3.alloc (.cells #[.string cn, .slice q m c] 29)) ∧ (res.1 = false ∨ bad = true) := by
      obtain ⟨r1, r2, r3⟩ := res
      simp only at hr4 HRUN
      cases r3 with
      | none =>
        obtain ⟨p', h⟩ := hr4
        exact ⟨p', true, h, .inr rfl⟩
      | some p' => exact ⟨p', false, hr4, .inl (HRUN.out.resolve_right (by simp))⟩
    have hend := rdEnd w ea s (w.heap.size + 1) p' bad _ hr5
    have HEND := Lib.hid hend
    generalize res.1 = ok at hbad ⊢
    clear hk hr hok hB3 hA3 hal hr4 hr5 hend
    go_wp2_with fail
    generalize W3.alloc (.cells #[.string cn, .slice q m c] 29) = W4 at HA4 HB4 HEND ⊢
    refine HEND.out.mono ?_
    rintro e W5 ⟨rfl, hB5⟩
    have HA9 := Lib.hid (HA4.out.below hB5)
    have HB9 := Lib.hid (HB4.out.trans (hB5.mono HB4.out.size))
    clear hB5 HA4 HB4 HEND
    cases ok with
    | false =>
      have hf := dec_fin HA9.out HB9.out (Nat.le_refl _) ⟨#[]⟩ none 0 0
      have HF := Lib.hid hf
      obtain ⟨g0, g1⟩ := HA9.out.facts
      obtain ⟨g2, g3⟩ := HA9.out.free
      clear hf
      go_wp2_with fail
      have hf := HF.out
      generalize ((W5.setCell ⟨w.heap.size, 0, none⟩ (.string ⟨#[]⟩)).setCell ⟨w.heap.size, 1, none⟩ (.slice none 0 0)) = W9 at hf ⊢
      obtain ⟨x0, x1⟩ := hf.1.facts
      exact bodyPost_ret (v := .tuple #[clV ⟨#[]⟩ none 0 0, .int .i64 0, .int .i64 10]) (by simp [results, Tryz.results16, go_sem, x0, x1]) rfl (⟨hf.2, rfl⟩)
    | true =>
      obtain rfl : bad = true := hbad.resolve_left (by simp)
      have hf := dec_fin HA9.out HB9.out (Nat.le_refl _) ⟨#[]⟩ none 0 0
      have HF := Lib.hid hf
      obtain ⟨g0, g1⟩ := HA9.out.facts
      obtain ⟨g2, g3⟩ := HA9.out.free
      clear hf
      go_wp2_with fail
      have hf := HF.out
      generalize ((W5.setCell ⟨w.heap.size, 0, none⟩ (.string ⟨#[]⟩)).setCell ⟨w.heap.size, 1, none⟩ (.slice none 0 0)) = W9 at hf ⊢
      obtain ⟨x0, x1⟩ := hf.1.facts
      exact bodyPost_ret (v := .tuple #[clV ⟨#[]⟩ none 0 0, .int .i64 0, .int .i64 10]) (by simp [results, Tryz.results16, go_sem, x0, x1]) rfl (⟨hf.2, rfl⟩)
  | some y =>
    rw [hcp] at hrun
    simp only at hrun ⊢
    obtain ⟨hres, hnm⟩ := hrun
    obtain ⟨yf1, yf2, yf3⟩ := clsP_fine hcp
    have yf4 := clsP_len hcp
    subst hres
    subst hnm
    clear hcp
    obtain ⟨⟨cn, fs⟩, n⟩ := y
    simp only at yf1 yf2 yf3 yf4 HREAD ⊢
    have hrt := fun q c W (h : FLies W q fs.length c fs) (hT : Tabs W) => clsRight_any cn q fs.length c fs (by omega) yf2 W h (by omega) hT
    generalize (Cl.mk cn fs).ok = okk at hrt ⊢
    have HRT := Lib.hid hrt
    clear hrt yf2
    cases okk with
    | false =>
      rw [if_neg (by decide)]
      simp only
      go_enter Tryz.func16, Tryz.ntmps16
      go_wp2_with fail
      refine HNEW.out.mono ?_
      rintro e W2 ⟨rfl, rfl⟩
      go_wp2_with fail
      refine HREAD.out.mono ?_
      rintro e W3 ⟨hk, hr, cn', q, m, c, rfl, hok⟩
      obtain ⟨rfl, hfl⟩ := hok (by trivial)
      have hml := hfl.1
      subst hml
      have hB3 := below_kept HB2.out hk (by omega)
      have hA3 := HA.out.grown hk (fun e => by have := Option.some.inj e; omega)
      have hal : Below W3.heap.size W3 (W3.alloc (.cells #[.string cn', .slice q fs.length c] 29)) := (Below.refl _ _).alloc (Nat.le_refl _) _
      have HA4 := Lib.hid (hA3.below hal)
      have HB4 := Lib.hid (hB3.trans (hal.mono hB3.size))
      have hr4 : Rr w ea s (w.heap.size + 1) (p + n) false _ := hr.below hal
      have hend := rdEnd w ea s (w.heap.size + 1) (p + n) false _ hr4
      have HC4 := Lib.hid (CBox.new W3 cn' q fs.length c)
      have HL4 := Lib.hid (hfl.below hal)
      have HEND := Lib.hid hend
      clear hk hr hok hB3 hA3 hal hr4 hend hfl
      go_wp2_with fail
      generalize W3.alloc (.cells #[.string cn', .slice q fs.length c] 29) = W4 at HA4 HB4 HC4 HL4 HEND ⊢
      generalize W3.heap.size = b8 at HC4 ⊢
      refine HEND.out.mono ?_
      rintro e W5 ⟨rfl, hB5⟩
      have HA5 := Lib.hid (HA4.out.below hB5)
      have HB5 := Lib.hid (HB4.out.trans (hB5.mono HB4.out.size))
      have HC5 := Lib.hid (HC4.out.below hB5)
      have HL5 := Lib.hid (HL4.out.below hB5)
      clear hB5 HA4 HB4 HEND HC4 HL4
      obtain ⟨k0, k1⟩ := HC5.out.facts
      go_wp2_with fail
      refine (HRT.out _ _ _ HL5.out (HTT.out _ HB5.out)).mono ?_
      rintro e W6 ⟨rfl, hB6⟩
      have HA9 := Lib.hid (HA5.out.below hB6)
      have HB9 := Lib.hid (HB5.out.trans (hB6.mono HB5.out.size))
      have HC9 := Lib.hid (HC5.out.below hB6)
      have HL9 := Lib.hid (HL5.out.below hB6)
      clear hB6 HA5 HB5 HC5 HL5 k0 k1
      have hf := dec_fin HA9.out HB9.out (Nat.le_refl _) ⟨#[]⟩ none 0 0
      have HF := Lib.hid hf
      obtain ⟨g0, g1⟩ := HA9.out.facts
      obtain ⟨g2, g3⟩ := HA9.out.free
      clear hf
      go_wp2_with fail
      have hf := HF.out
      generalize ((W6.setCell ⟨w.heap.size, 0, none⟩ (.string ⟨#[]⟩)).setCell ⟨w.heap.size, 1, none⟩ (.slice none 0 0)) = W9 at hf ⊢
      obtain ⟨x0, x1⟩ := hf.1.facts
      exact bodyPost_ret (v := .tuple #[clV ⟨#[]⟩ none 0 0, .int .i64 0, .int .i64 10]) (by simp [results, Tryz.results16, go_sem, x0, x1]) rfl (⟨hf.2, rfl⟩)
    | true =>
      rw [if_pos rfl]
      simp only
      go_enter Tryz.func16, Tryz.ntmps16
      go_wp2_with fail
      refine HNEW.out.mono ?_
      rintro e W2 ⟨rfl, rfl⟩
      go_wp2_with fail
      refine HREAD.out.mono ?_
      rintro e W3 ⟨hk, hr, cn', q, m, c, rfl, hok⟩
      obtain ⟨rfl, hfl⟩ := hok (by trivial)
      have hml := hfl.1
      subst hml
      have hB3 := below_kept HB2.out hk (by omega)
      have hA3 := HA.out.grown hk (fun e => by have := Option.some.inj e; omega)
      have hal : Below W3.heap.size W3 (W3.alloc (.cells #[.string cn', .slice q fs.length c] 29)) := (Below.refl _ _).alloc (Nat.le_refl _) _
      have HA4 := Lib.hid (hA3.below hal)
      have HB4 := Lib.hid (hB3.trans (hal.mono hB3.size))
      have hr4 : Rr w ea s (w.heap.size + 1) (p + n) false _ := hr.below hal
      have hend := rdEnd w ea s (w.heap.size + 1) (p + n) false _ hr4
      have HC4 := Lib.hid (CBox.new W3 cn' q fs.length c)
      have HL4 := Lib.hid (hfl.below hal)
      have HEND := Lib.hid hend
      clear hk hr hok hB3 hA3 hal hr4 hend hfl
      go_wp2_with fail
      generalize W3.alloc (.cells #[.string cn', .slice q fs.length c] 29) = W4 at HA4 HB4 HC4 HL4 HEND ⊢
      generalize W3.heap.size = b8 at HC4 ⊢
      refine HEND.out.mono ?_
      rintro e W5 ⟨rfl, hB5⟩
      have HA5 := Lib.hid (HA4.out.below hB5)
      have HB5 := Lib.hid (HB4.out.trans (hB5.mono HB4.out.size))
      have HC5 := Lib.hid (HC4.out.below hB5)
      have HL5 := Lib.hid (HL4.out.below hB5)
      clear hB5 HA4 HB4 HEND HC4 HL4
      obtain ⟨k0, k1⟩ := HC5.out.facts
      go_wp2_with fail
      refine (HRT.out _ _ _ HL5.out (HTT.out _ HB5.out)).mono ?_
      rintro e W6 ⟨rfl, hB6⟩
      have HA9 := Lib.hid (HA5.out.below hB6)
      have HB9 := Lib.hid (HB5.out.trans (hB6.mono HB5.out.size))
      have HC9 := Lib.hid (HC5.out.below hB6)
      have HL9 := Lib.hid (HL5.out.below hB6)
      clear hB6 HA5 HB5 HC5 HL5 k0 k1
      obtain ⟨k0, k1⟩ := HC9.out.facts
      have hf := dec_fin HA9.out HB9.out (Nat.le_refl _) cn' q fs.length c
      have HF := Lib.hid hf
      have hf2 := lies_apart (lies_apart HL9.out HA9.out 0 (.string cn')) (HA9.out.set0 cn') 1 (.slice q fs.length c)
      have HF2 := Lib.hid hf2
      obtain ⟨g0, g1⟩ := HA9.out.facts
      obtain ⟨g2, g3⟩ := HA9.out.free
      clear hf hf2
      go_wp2_with fail
      have hf := HF.out
      have hf2 := HF2.out
      generalize ((W6.setCell ⟨w.heap.size, 0, none⟩ (.string cn')).setCell ⟨w.heap.size, 1, none⟩ (.slice q fs.length c)) = W9 at hf hf2 ⊢
      obtain ⟨x0, x1⟩ := hf.1.facts
      exact bodyPost_ret (v := .tuple #[clV cn' q fs.length c, .int .i64 ((p + n : Nat) : Int), .int .i64 0]) (by simp [results, Tryz.results16, go_sem, x0, x1]) rfl (⟨hf.2, q, fs.length, c, rfl, hf2, yf4⟩)
end Go.Proofs.YtffoklhopmhjaaaGreatDoor

/- class.Check. -/
set_option linter.unusedSimpArgs false
set_option linter.unusedVariables false
namespace Go.Proofs.YtffoklhopmhjaaaGreatDoor
open Go Go.RowKit Go.Shelf

/-- the k-th value fits the k-th field -/
def fitAt (fs : List Fl) (vs : List V) (k : Nat) : Bool := ((fs[k]?).bind (fun f => (vs[k]?).map (fun v => fitsB v f.k f.o))).getD true
theorem fitAt_of {fs : List Fl} {vs : List V} {k : Nat} (h : k < fs.length) (h' : k < vs.length) : fitAt fs vs k = fitsB vs[k] fs[k].k fs[k].o := by
  unfold fitAt
  rw [List.getElem?_eq_getElem h, List.getElem?_eq_getElem h']; rfl
/-- the first value that doesn't fit -/
def misfit (fs : List Fl) (vs : List V) : Option Nat := (List.range fs.length).find? (fun k => !fitAt fs vs k)
theorem misfit_at {fs : List Fl} {vs : List V} {k : Nat} (h : k < fs.length) (hb : ∀ j, j < k → fitAt fs vs j = true) (hk : fitAt fs vs k = false) : misfit fs vs = some k := by
  unfold misfit
  rw [List.find?_range_eq_some]
  exact ⟨by rw [hk]; rfl, List.mem_range.2 h, fun j hj => by rw [hb j hj]; rfl⟩
theorem misfit_none {fs : List Fl} {vs : List V} (hb : ∀ j, j < fs.length → fitAt fs vs j = true) : misfit fs vs = none := by
  unfold misfit
  rw [List.find?_eq_none]
  intro j hj
  rw [hb j (List.mem_range.1 hj)]; decide
/-- what Check answers -/
def checkC (cl : Cl) (vs : List V) : Int × Int :=
  if cl.ok = false then (0, 40) else if vs.length ≠ cl.fs.length then (min (vs.length : Int) (cl.fs.length : Int), 42) else match misfit cl.fs vs with
  | some k => ((k : Int), 42)
  | none => (0, 0)
/-- values lie in a slice -/
def VsAt (d : Nat) (W : World) (vs : List V) (p : Option Addr) (m c : Nat) : Prop := ∃ ys : List It, m = ys.length ∧ ys.length = vs.length ∧ Lies W (.slice p ys.length c) ys.length 4 (itsCells ys) ∧ ∀ (i : Nat) (h : i < ys.length) (h' : i < vs.length), VAt d W vs[i] ys[i]
theorem VsAt.below {d : Nat} {W W' : World} {vs : List V} {p : Option Addr} {m c : Nat} (h : VsAt d W vs p m c) (hb : Below W.heap.size W W') : VsAt d W' vs p m c := by
  obtain ⟨ys, h1, h2, h3, h4⟩ := h
  exact ⟨ys, h1, h2, h3.below hb, fun i a b => (h4 i a b).below hb⟩

set_option maxHeartbeats 4000000 in
set_option maxRecDepth 100000 in
theorem clsCheck_any (d : Nat) (cn : ByteArray) (p : Option Addr) (m c : Nat) (fs : List Fl) (hcn : cn.size ≤ 9223372036854775807) (hff : ∀ f ∈ fs, f.fine) (vs : List V) (q : Option Addr) (m2 c2 : Nat) (w : World) (hl : FLies w p m c fs) (hm : m ≤ 9223372036854775807) (hv : VsAt d w vs q m2 c2) (hm2 : m2 ≤ 9223372036854775807) (hT : Tabs w) :
    Calls Tryz.prog 12 #[clV cn p m c, .slice q m2 c2] w fun e w' => e = .returned (.tuple #[.int .i64 (checkC ⟨cn, fs⟩ vs).1, .int .i64 (checkC ⟨cn, fs⟩ vs).2]) ∧ Below w.heap.size w w' := by
  have hb : Below w.heap.size w (w.alloc (.cells #[.string cn, .slice p m c] 29)) := (Below.refl _ _).alloc (Nat.le_refl _) _
  have hright := clsRight_any cn p m c fs hcn hff _ (hl.below hb) hm (hT.below hb)
  obtain ⟨rfl, hL⟩ := hl
  obtain ⟨ys, rfl, hlen, hvl, hvi⟩ := hv
  have hC := CBox.new w cn p fs.length c
  have hbad1 : (Cl.mk cn fs).ok = false → checkC ⟨cn, fs⟩ vs = (0, 40) := fun h => by unfold checkC; rw [if_pos h]
  have hbad2 : (Cl.mk cn fs).ok = true → vs.length ≠ fs.length → checkC ⟨cn, fs⟩ vs = (min (vs.length : Int) (fs.length : Int), 42) := fun h h2 => by unfold checkC; rw [if_neg (by rw [h]; decide), if_pos h2]
  have hbad3 : (Cl.mk cn fs).ok = true → vs.length = fs.length → ∀ k, k < fs.length → (∀ j, j < k → fitAt fs vs j = true) → fitAt fs vs k = false → checkC ⟨cn, fs⟩ vs = ((k : Int), 42) := fun h h2 k hk hj hk2 => by unfold checkC; rw [if_neg (by rw [h]; decide), if_neg (fun e => e h2), show (Cl.mk cn fs).fs = fs from rfl, misfit_at hk hj hk2]
  have hgood : (Cl.mk cn fs).ok = true → vs.length = fs.length → (∀ j, j < fs.length → fitAt fs vs j = true) → checkC ⟨cn, fs⟩ vs = (0, 0) := fun h h2 hj => by unfold checkC; rw [if_neg (by rw [h]; decide), if_neg (fun e => e h2), show (Cl.mk cn fs).fs = fs from rfl, misfit_none hj]
  generalize checkC ⟨cn, fs⟩ vs = r at hbad1 hbad2 hbad3 hgood ⊢
  obtain ⟨r1, r2⟩ := r
  simp only
  generalize (Cl.mk cn fs).ok = ok at hright hbad1 hbad2 hbad3 hgood
  have HL := Lib.hid hL
  have HB := Lib.hid hb
  have HC := Lib.hid hC
  have HR := Lib.hid hright
  have HBAD1 := Lib.hid hbad1
  have HBAD2 := Lib.hid hbad2
  have HBAD3 := Lib.hid hbad3
  have HGOOD := Lib.hid hgood
  have HVL := Lib.hid hvl
  have HVI := Lib.hid hvi
  have HLEN := Lib.hid hlen
  have HTT := Lib.hid (show ∀ W, Below w.heap.size w W → Tabs W from fun W h => hT.below h)
  clear hL hb hC hright hbad1 hbad2 hbad3 hgood hvl hvi hlen hT
  go_enter Tryz.func12, Tryz.ntmps12
  go_wp2_with fail
  refine HR.out.mono ?_
  rintro e W1 ⟨rfl, hB1⟩
  have hC1 := HC.out.below hB1
  have hBw := HB.out.trans (hB1.mono HB.out.size)
  have HC1 := Lib.hid hC1
  have HBW := Lib.hid hBw
  obtain ⟨c0, c1⟩ := hC1.facts
  clear hB1 hC1 hBw HB HC HR
  cases ok with
  | false =>
    have hz := HBAD1.out rfl
    have HZ1 := Lib.hid (congrArg Prod.fst hz)
    have HZ2 := Lib.hid (congrArg Prod.snd hz)
    clear hz
    go_wp2_with fail
    go_ret2
    exact ⟨by rw [HZ1.out, HZ2.out] <;> rfl, HBW.out⟩
  | true =>
    by_cases hn : ys.length = fs.length
    · have n1 : ((ys.length : Int) != (fs.length : Int)) = false := by rw [bne_eq_false_iff_eq]; omega
      have HN := Lib.hid hn
      clear hn
      go_wp2_with fail
      go_loopw [25] (fun i wr => ∃ k : Nat, k ≤ fs.length ∧ i = .int .i64 (k : Int) ∧ (∀ j, j < k → fitAt fs vs j = true) ∧ Below w.heap.size w wr ∧ CBox wr w.heap.size cn p fs.length c) (fun i _ => fs.length - (intOf i).toNat)
      case atStart => exact ⟨0, by omega, rfl, fun j h => absurd h (by omega), HBW.out, HC1.out⟩
      case round =>
        obtain ⟨k, hk, rfl, he, hB, hCr⟩ := hrel
        have HE := Lib.hid he; clear he
        by_cases hlt : k < fs.length
        · have hlt2 : k < ys.length := by rw [HN.out]; exact hlt
          have hlt3 : k < vs.length := by rw [← HLEN.out]; exact hlt2
          have e1 : decide ((k : Int) < (ys.length : Int)) = true := decide_eq_true (by omega)
          have e1' : (k : Int) < (ys.length : Int) := by omega
          have e1'' : (k : Int) < (fs.length : Int) := by omega
          have e0 : (0 : Int) ≤ (k : Int) := by omega
          obtain ⟨b, off, rfl, hbb, hc⟩ := HL.out.at (by omega)
          obtain ⟨b', off', rfl, hbb', hc'⟩ := HVL.out.at (by omega)
          have hcx : ∀ (i : Nat) (u : Value), ((fs[k]'hlt).cells)[i]? = some u → wr.cell? ⟨b, off + k * 4 + i, none⟩ = some u := fun i u hu => by
            rw [hB.cell (p := ⟨b, off + k * 4 + i, none⟩) hbb, Nat.add_assoc]
            exact hc _ _ (flCells_at fs k hlt i u hu)
          have hcy : ∀ (i : Nat) (u : Value), ((ys[k]'hlt2).cells)[i]? = some u → wr.cell? ⟨b', off' + k * 4 + i, none⟩ = some u := fun i u hu => by
            rw [hB.cell (p := ⟨b', off' + k * 4 + i, none⟩) hbb', Nat.add_assoc]
            exact hc' _ _ (itsCells_at ys k hlt2 i u hu)
          have hfa := fitAt_of hlt hlt3
          have hva := HVI.out k hlt2 hlt3
          have hbad := fun h1 => HBAD3.out (by simp) (by rw [← HLEN.out]; exact HN.out) k hlt HE.out h1
          have hnx : fitAt fs vs k = true → ∀ j, j < k + 1 → fitAt fs vs j = true := fun h j hj => by
            rcases Nat.lt_or_ge j k with h1 | h1
            · exact HE.out j h1
            · have e : j = k := by omega
              subst e; exact h
          generalize fitAt fs vs k = ft at hfa hbad hnx
          have hfit := fun W (h : Below wr.heap.size wr W) => fits_V d vs[k] ys[k] fs[k].k fs[k].o W ((hva.below hB).below h) ((HTT.out wr hB).below h)
          rw [← hfa] at hfit
          generalize fs[k]'hlt = f at hcx hfit hfa
          generalize ys[k]'hlt2 = y at hcy hfit hva
          obtain ⟨fn, fk, fo, fx⟩ := f
          obtain ⟨yk, yn, yz, yp, ym, yc⟩ := y
          have hfit2 : ∀ W, Below wr.heap.size wr W → Calls Tryz.prog 37 #[.agg #[.int .i64 yk, .int .i64 yn, .string yz, .slice yp ym yc], .agg #[.int .i64 fk, .int .i64 fo]] W fun e w' => e = .returned (.bool ft) ∧ Below W.heap.size W w' := hfit
          have z1 : wr.cell? ⟨b, off + k * 4 + 1, none⟩ = some (.int .i64 fk) := hcx 1 _ rfl
          have z2 : wr.cell? ⟨b, off + k * 4 + 2, none⟩ = some (.int .i64 fo) := hcx 2 _ rfl
          have y0 : wr.cell? ⟨b', off' + k * 4, none⟩ = some (.int .i64 yk) := hcy 0 _ rfl
          have y1 : wr.cell? ⟨b', off' + k * 4 + 1, none⟩ = some (.int .i64 yn) := hcy 1 _ rfl
          have y2 : wr.cell? ⟨b', off' + k * 4 + 2, none⟩ = some (.string yz) := hcy 2 _ rfl
          have y3 : wr.cell? ⟨b', off' + k * 4 + 3, none⟩ = some (.slice yp ym yc) := hcy 3 _ rfl
          have hal : Below wr.heap.size wr (wr.alloc (.cells #[.int .i64 yk, .int .i64 yn, .string yz, .slice yp ym yc] 37)).drew := ((Below.refl _ _).alloc (Nat.le_refl _) _).drew
          have hbz : b < wr.heap.size := Nat.lt_of_lt_of_le hbb hB.size
          have hS0 : (wr.alloc (.cells #[.int .i64 yk, .int .i64 yn, .string yz, .slice yp ym yc] 37)).drew.cell? ⟨b, off + k * 4 + 1, none⟩ = some (.int .i64 fk) ∧ (wr.alloc (.cells #[.int .i64 yk, .int .i64 yn, .string yz, .slice yp ym yc] 37)).drew.cell? ⟨b, off + k * 4 + 2, none⟩ = some (.int .i64 fo) ∧ (wr.alloc (.cells #[.int .i64 yk, .int .i64 yn, .string yz, .slice yp ym yc] 37)).drew.cell? ⟨w.heap.size, 1, none⟩ = some (.slice (some ⟨b, off, none⟩) fs.length c) ∧ (wr.alloc (.cells #[.int .i64 yk, .int .i64 yn, .string yz, .slice yp ym yc] 37)).drew.cell? ⟨wr.heap.size, 0, none⟩ = some (.int .i64 yk) ∧ (wr.alloc (.cells #[.int .i64 yk, .int .i64 yn, .string yz, .slice yp ym yc] 37)).drew.cell? ⟨wr.heap.size, 1, none⟩ = some (.int .i64 yn) ∧ (wr.alloc (.cells #[.int .i64 yk, .int .i64 yn, .string yz, .slice yp ym yc] 37)).drew.cell? ⟨wr.heap.size, 2, none⟩ = some (.string yz) ∧ (wr.alloc (.cells #[.int .i64 yk, .int .i64 yn, .string yz, .slice yp ym yc] 37)).drew.cell? ⟨wr.heap.size, 3, none⟩ = some (.slice yp ym yc) := by
            have hbx : (wr.alloc (.cells #[.int .i64 yk, .int .i64 yn, .string yz, .slice yp ym yc] 37)).drew.heap[wr.heap.size]? = some (.cells #[.int .i64 yk, .int .i64 yn, .string yz, .slice yp ym yc] 37 (0, 0)) := World.alloc_heap_new _ _
            refine ⟨(hal.cell (p := ⟨b, off + k * 4 + 1, none⟩) hbz).trans z1, (hal.cell (p := ⟨b, off + k * 4 + 2, none⟩) hbz).trans z2, (hCr.below hal).facts.2, ?_, ?_, ?_, ?_⟩ <;> (rw [Lib.cell_of_heap hbx]; rfl)
          have hzz : b < (wr.alloc (.cells #[.int .i64 yk, .int .i64 yn, .string yz, .slice yp ym yc] 37)).drew.heap.size ∧ w.heap.size < (wr.alloc (.cells #[.int .i64 yk, .int .i64 yn, .string yz, .slice yp ym yc] 37)).drew.heap.size ∧ wr.heap.size < (wr.alloc (.cells #[.int .i64 yk, .int .i64 yn, .string yz, .slice yp ym yc] 37)).drew.heap.size := by
            have h1 := hal.size
            have h2 := hCr.lt
            refine ⟨by omega, by omega, ?_⟩
            show wr.heap.size < (wr.heap.push _).size
            simp
          have hsw : ∀ W', Below (wr.alloc (.cells #[.int .i64 yk, .int .i64 yn, .string yz, .slice yp ym yc] 37)).drew.heap.size (wr.alloc (.cells #[.int .i64 yk, .int .i64 yn, .string yz, .slice yp ym yc] 37)).drew W' → W'.cell? ⟨b, off + k * 4 + 1, none⟩ = some (.int .i64 fk) ∧ W'.cell? ⟨b, off + k * 4 + 2, none⟩ = some (.int .i64 fo) ∧ W'.cell? ⟨w.heap.size, 1, none⟩ = some (.slice (some ⟨b, off, none⟩) fs.length c) ∧ W'.cell? ⟨wr.heap.size, 0, none⟩ = some (.int .i64 yk) ∧ W'.cell? ⟨wr.heap.size, 1, none⟩ = some (.int .i64 yn) ∧ W'.cell? ⟨wr.heap.size, 2, none⟩ = some (.string yz) ∧ W'.cell? ⟨wr.heap.size, 3, none⟩ = some (.slice yp ym yc) := fun W' h => by
            obtain ⟨a1, a2, a3, a4, a5, a6, a7⟩ := hS0
            obtain ⟨d1, d2, d3⟩ := hzz
            exact ⟨(h.cell (p := ⟨b, off + k * 4 + 1, none⟩) d1).trans a1, (h.cell (p := ⟨b, off + k * 4 + 2, none⟩) d1).trans a2, (h.cell (p := ⟨w.heap.size, 1, none⟩) d2).trans a3, (h.cell (p := ⟨wr.heap.size, 0, none⟩) d3).trans a4, (h.cell (p := ⟨wr.heap.size, 1, none⟩) d3).trans a5, (h.cell (p := ⟨wr.heap.size, 2, none⟩) d3).trans a6, (h.cell (p := ⟨wr.heap.size, 3, none⟩) d3).trans a7⟩
          have HSW := Lib.hid hsw
          clear hsw hzz
          have hw9 := hB.trans (hal.mono hB.size)
          have hc9 := hCr.below hal
          have hf9 := hfit2 _ hal
          have HW9 := Lib.hid hw9
          have HC9 := Lib.hid hc9
          have HF9 := Lib.hid hf9
          have HBAD := Lib.hid hbad
          have HNX := Lib.hid hnx
          obtain ⟨g0, g1⟩ := hCr.facts
          clear hcx hcy hc hc' hfa hva hbad hnx hfit hfit2 hw9 hc9 hf9 hal hCr hB z1 z2
          go_wp2_with fail
          go_region_held3 (fun W : World => W.cell? ⟨b, off + k * 4 + 1, none⟩ = some (.int .i64 fk) ∧ W.cell? ⟨b, off + k * 4 + 2, none⟩ = some (.int .i64 fo) ∧ W.cell? ⟨w.heap.size, 1, none⟩ = some (.slice (some ⟨b, off, none⟩) fs.length c) ∧ W.cell? ⟨wr.heap.size, 0, none⟩ = some (.int .i64 yk) ∧ W.cell? ⟨wr.heap.size, 1, none⟩ = some (.int .i64 yn) ∧ W.cell? ⟨wr.heap.size, 2, none⟩ = some (.string yz) ∧ W.cell? ⟨wr.heap.size, 3, none⟩ = some (.slice yp ym yc))
            (first | assumption)
            (first | (go_at_call 37; (with_reducible refine HF9.out.mono ?_); rintro e Y1 ⟨rfl, hBY⟩; have hS1 := HSW.out _ hBY))
          have hBz := HW9.out.trans (hBY.mono HW9.out.size)
          have hCz := HC9.out.below hBY
          have HBZ := Lib.hid hBz
          have HCZ := Lib.hid hCz
          obtain ⟨g2, g3⟩ := hCz.facts
          clear hBz hCz
          cases ft with
          | true =>
            have hnx := HNX.out (by simp)
            have HN2 := Lib.hid hnx
            clear hnx
            go_wp2_with fail
            exact ⟨⟨k + 1, by omega, by go_num, HN2.out, HBZ.out, HCZ.out⟩, by simp [intOf]; have := HN.out; omega⟩
          | false =>
            have hz := HBAD.out (by simp)
            have HZ1 := Lib.hid (congrArg Prod.fst hz)
            have HZ2 := Lib.hid (congrArg Prod.snd hz)
            clear hz
            go_wp2_with fail
            go_ret2
            exact ⟨by rw [HZ1.out, HZ2.out] <;> rfl, HBZ.out⟩
        · obtain rfl : k = fs.length := by omega
          have e1 : decide ((fs.length : Int) < (ys.length : Int)) = false := decide_eq_false (by have := HN.out; omega)
          have e1' : ¬ (fs.length : Int) < (ys.length : Int) := by have := HN.out; omega
          have hz := HGOOD.out (by simp) (by rw [← HLEN.out]; exact HN.out) HE.out
          have HZ1 := Lib.hid (congrArg Prod.fst hz)
          have HZ2 := Lib.hid (congrArg Prod.snd hz)
          clear hz
          go_wp2_with fail
          go_ret2
          exact ⟨by rw [HZ1.out, HZ2.out] <;> rfl, hB⟩
    · have n1 : ((ys.length : Int) != (fs.length : Int)) = true := by rw [bne_iff_ne]; omega
      have hz := HBAD2.out (by simp) (by rw [← HLEN.out]; exact hn)
      rw [← HLEN.out] at hz
      have HZ1 := Lib.hid (congrArg Prod.fst hz)
      have HZ2 := Lib.hid (congrArg Prod.snd hz)
      clear hz
      go_wp2_with fail
      go_ret2
      exact ⟨by rw [HZ1.out, HZ2.out] <;> rfl, HBW.out⟩
end Go.Proofs.YtffoklhopmhjaaaGreatDoor

/- The examples of classes: what they come to. -/
set_option linter.unusedSimpArgs false
set_option linter.unusedVariables false
namespace Go.Proofs.YtffoklhopmhjaaaGreatDoor
open Go Go.RowKit Go.Shelf

def exF : List Fl := [⟨⟨#[97]⟩, 1, 0, true⟩, ⟨⟨#[98]⟩, 3, 0, false⟩]
def exCl : Cl := ⟨⟨#[110]⟩, exF⟩
def ex15 : V := .mk 1 5 ⟨#[]⟩ []
def ex33 : V := .mk 3 3 ⟨#[]⟩ []
def ex0 : V := .mk 0 0 ⟨#[]⟩ []
theorem ex_ok : exCl.ok = true := by kernel_rfl
theorem ex_bad : (Cl.mk ⟨#[]⟩ []).ok = false := by kernel_rfl
theorem ex_c1 : checkC exCl [ex15, ex33] = (0, 0) := by kernel_rfl
theorem ex_c2 : checkC exCl [ex15, ex0] = (0, 0) := by kernel_rfl
theorem ex_c3 : checkC exCl [ex15] = (1, 42) := by kernel_rfl
theorem ex_c4 : checkC exCl [ex15, ex15] = (1, 42) := by kernel_rfl
theorem ex_fb : fieldAt exF ⟨#[98]⟩ = some 1 := by kernel_rfl
theorem ex_fc : fieldAt exF ⟨#[99]⟩ = none := by kernel_rfl
theorem ex_ne : sameC exCl ⟨⟨#[]⟩, []⟩ = false := by
  rw [sameC_split, show (exCl.nm.toList == (⟨#[]⟩ : ByteArray).toList) = false from by kernel_rfl]; rfl
theorem ex_rt : rtB 5 4 = true := by decide
theorem ex_rf : rtB 5 0 = false := by decide
theorem ex_bytes : exCl.bytes = [2, 110] ++ ([4] ++ ([2, 97, 2, 0, 2] ++ [2, 98, 6, 0, 0])) := by
  kernel_rfl
theorem ex_len : exCl.bytes.length = 13 := by kernel_rfl
theorem ex_cut : decC (exCl.bytes.drop 1) = none := by
  have ht : textL (exCl.bytes.drop 1) = none := by
    unfold textL
    rw [dif_neg]
    rintro ⟨t, ht, hp⟩
    rw [ex_bytes] at hp
    have n55 : Wire.num 55 = [110] := by kernel_rfl
    have e : (t.length : Int) = 55 := Wire.num_inj ⟨by omega, by omega⟩ ⟨by decide, by decide⟩ ((List.prefix_append _ _).trans hp) (by rw [n55]; exact ⟨_, rfl⟩)
    have := hp.length_le
    simp at this
    omega
  unfold decC clsP seqP textP
  rw [ht]; rfl
theorem ex_dec (r : List UInt8) : decC (([120] ++ exCl.bytes ++ r).drop 1) = some (exCl, 13) := by
  rw [List.append_assoc]
  show decC (exCl.bytes ++ r) = _
  rw [(undo_dec exCl ex_ok).app, ex_len]

/-- a block that is known whole, as a slice -/
theorem blk_lies {W : World} {b n size cap : Nat} {xs : List Value} {t : TypeId} (h : W.heap[b]? = some (.cells xs.toArray t (0, 0))) (hl : xs.length = n * size) : Lies W (.slice (some ⟨b, 0, none⟩) n cap) n size xs :=
  ⟨hl, .inr ⟨b, 0, cap, rfl, (Array.getElem?_eq_some_iff.1 h).1, fun j u hu => by
    rw [Nat.zero_add, Lib.cell_of_heap h]; simpa using hu⟩⟩
/-- what is carried along there -/
structure ExS (w W : World) : Prop where
  arr : FLies W (some ⟨w.heap.size, 0, none⟩) 2 2 exF
  box : CBox W (w.heap.size + 1) ⟨#[110]⟩ (some ⟨w.heap.size, 0, none⟩) 2 2
  vb : VBox W (w.heap.size + 1 + 1) 1 5 ⟨#[]⟩ (.slice none 0 0)
  below : Below w.heap.size w W
theorem ExS.go {w W W' : World} (h : ExS w W) (hb : Below W.heap.size W W') : ExS w W' :=
  ⟨h.arr.below hb, h.box.below hb, h.vb.below hb, h.below.trans (hb.mono h.below.size)⟩
theorem ex_fine : ∀ f ∈ exF, f.fine := by
  intro f hf
  simp only [exF, List.mem_cons, List.mem_nil_iff, or_false] at hf
  rcases hf with rfl | rfl <;> exact ⟨by decide, ⟨by decide, by decide⟩, ⟨by decide, by decide⟩⟩
abbrev exV (w : World) : Value := .agg #[.string ⟨#[110]⟩, .slice (some ⟨w.heap.size, 0, none⟩) 2 2]
theorem vat_none (d : Nat) (W : World) {u : V} (hf : u.fine) (hl : u.l = []) : VAt d W u ⟨u.k, u.n, u.s, none, 0, 0⟩ := by
  have ht : ∀ J, VTop W u ⟨u.k, u.n, u.s, none, 0, 0⟩ J := fun J => ⟨hf, rfl, rfl, rfl, [], by rw [hl]; rfl, ⟨rfl, .inl ⟨rfl, none, 0, rfl⟩⟩, fun i h => absurd h (by simp)⟩
  cases d with
  | zero => exact ht _
  | succ d => exact ht _
theorem ex_vs {W : World} {b : Nat} {vs : List V} (hf : ∀ u ∈ vs, u.fine ∧ u.l = []) (h : W.heap[b]? = some (.cells (itsCells (vs.map itOf)).toArray 37 (0, 0))) : VsAt 0 W vs (some ⟨b, 0, none⟩) vs.length vs.length :=
  ⟨vs.map itOf, by simp, by simp, by
    rw [List.length_map]
    exact blk_lies h (by rw [itsCells_length, List.length_map]), fun i h1 h2 => by
    rw [List.getElem_map]
    exact vat_none 0 W (hf _ (List.getElem_mem h2)).1 (hf _ (List.getElem_mem h2)).2⟩
theorem ex_check {w X : World} (hS : ExS w X) (hT : Tabs w) (vs : List V) (hf : ∀ u ∈ vs, u.fine ∧ u.l = []) (hn : vs.length ≤ 9) :
    Calls Tryz.prog 12 #[exV w, .slice (some ⟨X.heap.size, 0, none⟩) vs.length vs.length] (X.alloc (.cells (itsCells (vs.map itOf)).toArray 37)) fun e w' => e = .returned (.tuple #[.int .i64 (checkC exCl vs).1, .int .i64 (checkC exCl vs).2]) ∧ Below X.heap.size X w' := by
  have hb : Below X.heap.size X (X.alloc (.cells (itsCells (vs.map itOf)).toArray 37)) := (Below.refl _ _).alloc (Nat.le_refl _) _
  have hc := clsCheck_any 0 ⟨#[110]⟩ (some ⟨w.heap.size, 0, none⟩) 2 2 exF (by decide) ex_fine vs (some ⟨X.heap.size, 0, none⟩) vs.length vs.length _ (hS.arr.below hb) (by decide) (ex_vs hf (World.alloc_heap_new X _)) (by omega) ((hT.below hS.below).below hb)
  refine hc.mono ?_
  rintro e w' ⟨h1, h2⟩
  exact ⟨h1, hb.trans (h2.mono hb.size)⟩
end Go.Proofs.YtffoklhopmhjaaaGreatDoor

/- morainelaw04.examples. -/
set_option linter.unusedSimpArgs false
set_option linter.unusedVariables false
namespace Go.Proofs.YtffoklhopmhjaaaGreatDoor
open Go Go.RowKit Go.Shelf

set_option maxHeartbeats 8000000 in
set_option maxRecDepth 100000 in
theorem clsEx_any (ea : Addr) (w : World) (hT : Tabs w) (hE : errLies ea w) :
    Calls Tryz.prog 4 #[] w fun e w' => e = .returned (.bool true) ∧ Below w.heap.size w w' := by
  have hb1 : Below w.heap.size w (w.alloc (.cells #[.string ⟨#[97]⟩, .int .i64 1, .int .i64 0, .bool true, .string ⟨#[98]⟩, .int .i64 3, .int .i64 0, .bool false] 48)) := (Below.refl _ _).alloc (Nat.le_refl _) _
  have hb2 := hb1.alloc hb1.size (.cells #[.string ⟨#[110]⟩, .slice (some ⟨w.heap.size, 0, none⟩) 2 2] 29)
  have hb3 := hb2.alloc hb2.size (.cells #[.int .i64 1, .int .i64 5, .string ⟨#[]⟩, .slice none 0 0] 37)
  have hfl : FLies (w.alloc (.cells #[.string ⟨#[97]⟩, .int .i64 1, .int .i64 0, .bool true, .string ⟨#[98]⟩, .int .i64 3, .int .i64 0, .bool false] 48)) (some ⟨w.heap.size, 0, none⟩) 2 2 exF := ⟨rfl, blk_lies (xs := flCells exF) (World.alloc_heap_new w _) rfl⟩
  have hS : ExS w (((w.alloc (.cells #[.string ⟨#[97]⟩, .int .i64 1, .int .i64 0, .bool true, .string ⟨#[98]⟩, .int .i64 3, .int .i64 0, .bool false] 48)).alloc (.cells #[.string ⟨#[110]⟩, .slice (some ⟨w.heap.size, 0, none⟩) 2 2] 29)).alloc (.cells #[.int .i64 1, .int .i64 5, .string ⟨#[]⟩, .slice none 0 0] 37)) := by
    refine ⟨(hfl.below ((Below.refl _ _).alloc (Nat.le_refl _) _)).below ((Below.refl _ _).alloc (Nat.le_refl _) _), ?_, ?_, hb3⟩
    · have h := (CBox.new (w.alloc (.cells #[.string ⟨#[97]⟩, .int .i64 1, .int .i64 0, .bool true, .string ⟨#[98]⟩, .int .i64 3, .int .i64 0, .bool false] 48)) ⟨#[110]⟩ (some ⟨w.heap.size, 0, none⟩) 2 2).alloc (.cells #[.int .i64 1, .int .i64 5, .string ⟨#[]⟩, .slice none 0 0] 37)
      rwa [World.size_alloc] at h
    · have h := VBox.new ((w.alloc (.cells #[.string ⟨#[97]⟩, .int .i64 1, .int .i64 0, .bool true, .string ⟨#[98]⟩, .int .i64 3, .int .i64 0, .bool false] 48)).alloc (.cells #[.string ⟨#[110]⟩, .slice (some ⟨w.heap.size, 0, none⟩) 2 2] 29)) 1 5 ⟨#[]⟩ (.slice none 0 0)
      rwa [World.size_alloc, World.size_alloc] at h
  have f1 : ex15.fine ∧ ex15.l = [] := ⟨⟨by decide, by decide, by decide, by decide⟩, rfl⟩
  have f3 : ex33.fine ∧ ex33.l = [] := ⟨⟨by decide, by decide, by decide, by decide⟩, rfl⟩
  have f0 : ex0.fine ∧ ex0.l = [] := ⟨⟨by decide, by decide, by decide, by decide⟩, rfl⟩
  have k1 : ∀ X, ExS w X → Calls Tryz.prog 12 #[exV w, .slice (some ⟨X.heap.size, 0, none⟩) 2 2] (X.alloc (.cells #[.int .i64 1, .int .i64 5, .string ⟨#[]⟩, .slice none 0 0, .int .i64 3, .int .i64 3, .string ⟨#[]⟩, .slice none 0 0] 37)) fun e w' => e = .returned (.tuple #[.int .i64 0, .int .i64 0]) ∧ ExS w w' := fun X h => by
    have := ex_check h hT [ex15, ex33] (by intro u hu; simp only [List.mem_cons, List.mem_nil_iff, or_false] at hu; rcases hu with rfl | rfl; exact f1; exact f3) (by decide)
    rw [ex_c1] at this
    exact this.mono (fun e w' hx => ⟨hx.1, h.go hx.2⟩)
  have k2 : ∀ X, ExS w X → Calls Tryz.prog 12 #[exV w, .slice (some ⟨X.heap.size, 0, none⟩) 2 2] (X.alloc (.cells #[.int .i64 1, .int .i64 5, .string ⟨#[]⟩, .slice none 0 0, .int .i64 0, .int .i64 0, .string ⟨#[]⟩, .slice none 0 0] 37)) fun e w' => e = .returned (.tuple #[.int .i64 0, .int .i64 0]) ∧ ExS w w' := fun X h => by
    have := ex_check h hT [ex15, ex0] (by intro u hu; simp only [List.mem_cons, List.mem_nil_iff, or_false] at hu; rcases hu with rfl | rfl; exact f1; exact f0) (by decide)
    rw [ex_c2] at this
    exact this.mono (fun e w' hx => ⟨hx.1, h.go hx.2⟩)
  have k3 : ∀ X, ExS w X → Calls Tryz.prog 12 #[exV w, .slice (some ⟨X.heap.size, 0, none⟩) 1 1] (X.alloc (.cells #[.int .i64 1, .int .i64 5, .string ⟨#[]⟩, .slice none 0 0] 37)) fun e w' => e = .returned (.tuple #[.int .i64 1, .int .i64 42]) ∧ ExS w w' := fun X h => by
    have := ex_check h hT [ex15] (by intro u hu; simp only [List.mem_cons, List.mem_nil_iff, or_false] at hu; rcases hu with rfl; exact f1) (by decide)
    rw [ex_c3] at this
    exact this.mono (fun e w' hx => ⟨hx.1, h.go hx.2⟩)
  have k4 : ∀ X, ExS w X → Calls Tryz.prog 12 #[exV w, .slice (some ⟨X.heap.size, 0, none⟩) 2 2] (X.alloc (.cells #[.int .i64 1, .int .i64 5, .string ⟨#[]⟩, .slice none 0 0, .int .i64 1, .int .i64 5, .string ⟨#[]⟩, .slice none 0 0] 37)) fun e w' => e = .returned (.tuple #[.int .i64 1, .int .i64 42]) ∧ ExS w w' := fun X h => by
    have := ex_check h hT [ex15, ex15] (by intro u hu; simp only [List.mem_cons, List.mem_nil_iff, or_false] at hu; rcases hu with rfl | rfl <;> exact f1) (by decide)
    rw [ex_c4] at this
    exact this.mono (fun e w' hx => ⟨hx.1, h.go hx.2⟩)
  obtain ⟨E, hEd⟩ : ∃ E : ByteArray, (⟨exCl.bytes.toArray⟩ : ByteArray) = E := ⟨_, rfl⟩
  have hE13 : E.size = 13 := by rw [← hEd]; exact ex_len
  have ken : ∀ X, ExS w X → Calls Tryz.prog 15 #[exV w] X fun e w' => e = .returned (.tuple #[.string E, .int .i64 0]) ∧ ExS w w' := fun X h => by
    have := clsEncode_any ⟨#[110]⟩ (some ⟨w.heap.size, 0, none⟩) 2 2 exF (by decide) ex_fine X h.arr (by decide) (hT.below h.below)
    unfold encCPost at this
    rw [show (Cl.mk ⟨#[110]⟩ exF).ok = true from ex_ok] at this
    rw [← hEd]
    exact this.mono (fun e w' hx => ⟨hx.1, h.go hx.2⟩)
  have kfb : ∀ X, ExS w X → Calls Tryz.prog 17 #[exV w, .string ⟨#[98]⟩] X fun e w' => e = .returned (.tuple #[.int .i64 1, .bool true]) ∧ Below X.heap.size X w' := fun X h => by
    have := field_any ⟨#[110]⟩ (some ⟨w.heap.size, 0, none⟩) 2 2 exF ⟨#[98]⟩ X h.arr (by decide)
    unfold fieldPost at this
    rw [ex_fb] at this
    exact this
  have kfc : ∀ X, ExS w X → Calls Tryz.prog 17 #[exV w, .string ⟨#[99]⟩] X fun e w' => e = .returned (.tuple #[.int .i64 0, .bool false]) ∧ Below X.heap.size X w' := fun X h => by
    have := field_any ⟨#[110]⟩ (some ⟨w.heap.size, 0, none⟩) 2 2 exF ⟨#[99]⟩ X h.arr (by decide)
    unfold fieldPost at this
    rw [ex_fc] at this
    exact this
  have hdl : E.data.toList = exCl.bytes := by rw [← hEd]
  have kd1 : ∀ X, ExS w X → Calls Tryz.prog 16 #[.string ((⟨#[120]⟩ : ByteArray) ++ E ++ (⟨#[121]⟩ : ByteArray)), .int .i64 1] X fun e w' => (∃ (q : Option Addr) (m c : Nat), e = .returned (.tuple #[clV ⟨#[110]⟩ q m c, .int .i64 14, .int .i64 0]) ∧ FLies w' q m c exF ∧ m ≤ 8) ∧ ExS w w' := fun X h => by
    have := clsDecode_any ((⟨#[120]⟩ : ByteArray) ++ E ++ (⟨#[121]⟩ : ByteArray)) (by rw [ByteArray.size_append, ByteArray.size_append, hE13]; decide) 1 (by rw [ByteArray.size_append, ByteArray.size_append, hE13]; decide) ea X (hT.below h.below) (hE.below h.below)
    refine this.mono ?_
    rintro e w' ⟨hb, hd⟩
    rw [show ((⟨#[120]⟩ : ByteArray) ++ E ++ (⟨#[121]⟩ : ByteArray)).data.toList = [120] ++ exCl.bytes ++ [121] from by rw [← hdl]; simp, ex_dec] at hd
    exact ⟨hd, h.go hb⟩
  have kd2 : ∀ X, ExS w X → Calls Tryz.prog 16 #[.string E, .int .i64 1] X fun e w' => e = .returned (.tuple #[clV ⟨#[]⟩ none 0 0, .int .i64 0, .int .i64 10]) ∧ Below X.heap.size X w' := fun X h => by
    have := clsDecode_any E (by rw [hE13]; decide) 1 (by rw [hE13]; decide) ea X (hT.below h.below) (hE.below h.below)
    refine this.mono ?_
    rintro e w' ⟨hb, hd⟩
    rw [hdl, ex_cut] at hd
    exact ⟨hd, hb⟩
  have ksm : ∀ X q m c, ExS w X ∧ FLies X q m c exF ∧ m ≤ 8 → Calls Tryz.prog 18 #[exV w, clV ⟨#[110]⟩ q m c] X fun e w' => e = .returned (.bool true) ∧ Below X.heap.size X w' := fun X q m c h => by
    have := rsame_any ⟨#[110]⟩ (some ⟨w.heap.size, 0, none⟩) 2 2 exF ⟨#[110]⟩ q m c exF X h.1.arr h.2.1 (by decide) (by have := h.2.2; omega)
    rw [show sameC ⟨⟨#[110]⟩, exF⟩ ⟨⟨#[110]⟩, exF⟩ = true from sameC_self _] at this
    exact this
  have kr1 : ∀ X, ExS w X → Calls Tryz.prog 19 #[exV w] X fun e w' => e = .returned (.bool true) ∧ Below X.heap.size X w' := fun X h => by
    have := clsRight_any ⟨#[110]⟩ (some ⟨w.heap.size, 0, none⟩) 2 2 exF (by decide) ex_fine X h.arr (by decide) (hT.below h.below)
    rw [show (Cl.mk ⟨#[110]⟩ exF).ok = true from ex_ok] at this
    exact this
  have hfl0 : ∀ X : World, FLies X none 0 0 [] := fun X => ⟨rfl, rfl, .inl ⟨rfl, none, 0, rfl⟩⟩
  have kr2 : ∀ X, ExS w X → Calls Tryz.prog 19 #[clV ⟨#[]⟩ none 0 0] X fun e w' => e = .returned (.bool false) ∧ Below X.heap.size X w' := fun X h => by
    have := clsRight_any ⟨#[]⟩ none 0 0 [] (by decide) (fun f hf => absurd hf (by simp)) X (hfl0 X) (by decide) (hT.below h.below)
    rw [ex_bad] at this
    exact this
  have kt1 : ∀ X, ExS w X → Calls Tryz.prog 20 #[.agg #[.int .i64 5, .int .i64 4]] X fun e w' => e = .returned (.bool true) ∧ Below X.heap.size X w' := fun X h => by
    have := clsRightType_any 5 4 (by decide) X (hT.below h.below)
    rw [ex_rt] at this
    exact this
  have kt2 : ∀ X, ExS w X → Calls Tryz.prog 20 #[.agg #[.int .i64 5, .int .i64 0]] X fun e w' => e = .returned (.bool false) ∧ Below X.heap.size X w' := fun X h => by
    have := clsRightType_any 5 0 (by decide) X (hT.below h.below)
    rw [ex_rf] at this
    exact this
  have ks1 : ∀ X, ExS w X → Calls Tryz.prog 21 #[exV w, exV w] X fun e w' => e = .returned (.bool true) ∧ Below X.heap.size X w' := fun X h => by
    have := clsSame_any ⟨#[110]⟩ (some ⟨w.heap.size, 0, none⟩) 2 2 exF ⟨#[110]⟩ (some ⟨w.heap.size, 0, none⟩) 2 2 exF X h.arr h.arr (by decide) (by decide)
    rw [show sameC ⟨⟨#[110]⟩, exF⟩ ⟨⟨#[110]⟩, exF⟩ = true from sameC_self _] at this
    exact this
  have ks2 : ∀ X, ExS w X → Calls Tryz.prog 21 #[exV w, clV ⟨#[]⟩ none 0 0] X fun e w' => e = .returned (.bool false) ∧ Below X.heap.size X w' := fun X h => by
    have := clsSame_any ⟨#[110]⟩ (some ⟨w.heap.size, 0, none⟩) 2 2 exF ⟨#[]⟩ none 0 0 [] X h.arr (hfl0 X) (by decide) (by decide)
    rw [show sameC ⟨⟨#[110]⟩, exF⟩ ⟨⟨#[]⟩, []⟩ = false from ex_ne] at this
    exact this
  have KSM := Lib.hid ksm
  have KR1 := Lib.hid kr1
  have KR2 := Lib.hid kr2
  have KT1 := Lib.hid kt1
  have KT2 := Lib.hid kt2
  have KS1 := Lib.hid ks1
  have KS2 := Lib.hid ks2
  clear ksm kr1 kr2 kt1 kt2 ks1 ks2 hfl0
  have KD1 := Lib.hid kd1
  have KD2 := Lib.hid kd2
  clear kd1 kd2 hEd hdl
  have k1w := k1 _ hS
  rw [World.size_alloc, World.size_alloc, World.size_alloc] at k1w
  have K1W := Lib.hid k1w
  have K2 := Lib.hid k2
  have K3 := Lib.hid k3
  have K4 := Lib.hid k4
  have KEN := Lib.hid ken
  have KFB := Lib.hid kfb
  have KFC := Lib.hid kfc
  have HT := Lib.hid hT
  have HE := Lib.hid hE
  clear hb1 hb2 hb3 hfl hS f1 f3 f0 k1 k1w k2 k3 k4 ken kfb kfc hT hE
  go_enter Tryz.func4, Tryz.ntmps4
  go_wp2_with fail
  refine (K1W.out).mono ?_
  rintro e X1 ⟨rfl, hX⟩
  have S1 := Lib.hid hX
  obtain ⟨c0, c1⟩ := hX.box.facts
  obtain ⟨v0, v1, v2, v3⟩ := hX.vb.facts.1
  clear hX
  go_wp2_with fail
  refine (K2.out _ S1.out).mono ?_
  rintro e X2 ⟨rfl, hX⟩
  have S2 := Lib.hid hX
  clear c0 c1 v0 v1 v2 v3
  obtain ⟨c0, c1⟩ := hX.box.facts
  obtain ⟨v0, v1, v2, v3⟩ := hX.vb.facts.1
  clear hX S1
  go_wp2_with fail
  refine (K3.out _ S2.out).mono ?_
  rintro e X3 ⟨rfl, hX⟩
  have S3 := Lib.hid hX
  clear c0 c1 v0 v1 v2 v3
  obtain ⟨c0, c1⟩ := hX.box.facts
  obtain ⟨v0, v1, v2, v3⟩ := hX.vb.facts.1
  clear hX S2
  go_wp2_with fail
  refine (K4.out _ S3.out).mono ?_
  rintro e X4 ⟨rfl, hX⟩
  have S4 := Lib.hid hX
  clear c0 c1 v0 v1 v2 v3
  obtain ⟨c0, c1⟩ := hX.box.facts
  obtain ⟨v0, v1, v2, v3⟩ := hX.vb.facts.1
  clear hX S3
  go_wp2_with fail
  refine (KEN.out _ S4.out).mono ?_
  rintro e X5 ⟨rfl, hX⟩
  have S5 := Lib.hid hX
  clear c0 c1 v0 v1 v2 v3
  obtain ⟨c0, c1⟩ := hX.box.facts
  obtain ⟨v0, v1, v2, v3⟩ := hX.vb.facts.1
  clear hX S4
  go_wp2_with fail
  refine (KD1.out _ S5.out).mono ?_
  rintro e X6 ⟨⟨q, m, c, rfl, hfl6, hm8⟩, hX⟩
  have S6 := Lib.hid hX
  have FL6 := Lib.hid hfl6
  clear c0 c1 v0 v1 v2 v3 S5 hX hfl6
  go_wp2_with fail
  have S7 := Lib.hid (S6.out.go ((Below.refl _ _).alloc (Nat.le_refl _) (.cells #[.string ⟨#[110]⟩, .slice q m c] 29)))
  have D7 := Lib.hid (CBox.new X6 ⟨#[110]⟩ q m c)
  have L7 := Lib.hid (FL6.out.below ((Below.refl _ _).alloc (Nat.le_refl _) (.cells #[.string ⟨#[110]⟩, .slice q m c] 29)))
  clear S6 FL6
  generalize X6.alloc (.cells #[.string ⟨#[110]⟩, .slice q m c] 29) = U7 at S7 D7 L7 ⊢
  generalize X6.heap.size = bd at D7 ⊢
  refine (KD2.out _ S7.out).mono ?_
  rintro e X8 ⟨rfl, hX⟩
  have S8 := Lib.hid (S7.out.go hX)
  have D8 := Lib.hid (D7.out.below hX)
  have L8 := Lib.hid (L7.out.below hX)
  clear S7 D7 L7 hX
  have hal : Below X8.heap.size X8 (X8.alloc (.cells #[.string ⟨#[]⟩, .slice none 0 0] 29)) := (Below.refl _ _).alloc (Nat.le_refl _) _
  have S9 := Lib.hid (S8.out.go hal)
  have D9 := Lib.hid (D8.out.below hal)
  have L9 := Lib.hid (L8.out.below hal)
  clear S8 D8 L8 hal
  obtain ⟨c0, c1⟩ := S9.out.box.facts
  go_wp2_with fail
  clear c0 c1
  generalize X8.alloc (.cells #[.string ⟨#[]⟩, .slice none 0 0] 29) = U9 at S9 D9 L9 ⊢
  refine (KFB.out _ S9.out).mono ?_
  rintro e X10 ⟨rfl, hX⟩
  have S10 := Lib.hid (S9.out.go hX)
  have D10 := Lib.hid (D9.out.below hX)
  have L10 := Lib.hid (L9.out.below hX)
  clear S9 D9 L9 hX
  obtain ⟨c0, c1⟩ := S10.out.box.facts
  go_wp2_with fail
  clear c0 c1
  refine (KFC.out _ S10.out).mono ?_
  rintro e X11 ⟨rfl, hX⟩
  have hS := S10.out.go hX
  obtain ⟨c0, c1⟩ := hS.box.facts
  obtain ⟨d0, d1⟩ := (D10.out.below hX).facts
  have ks := KSM.out X11 q m c ⟨hS, L10.out.below hX, hm8⟩
  have SA := Lib.hid hS
  have KS := Lib.hid ks
  clear S10 D10 L10 hX hS ks
  go_wp2_with fail
  refine KS.out.mono ?_
  rintro e Y0 ⟨rfl, hB⟩
  have S0 := Lib.hid (SA.out.go hB)
  clear c0 c1 d0 d1 SA hB KS
  obtain ⟨c0, c1⟩ := S0.out.box.facts
  go_wp2_with fail
  refine (KR1.out _ S0.out).mono ?_
  rintro e Y1 ⟨rfl, hB⟩
  have S1 := Lib.hid (S0.out.go hB)
  clear c0 c1 S0 hB
  obtain ⟨c0, c1⟩ := S1.out.box.facts
  go_wp2_with fail
  refine (KR2.out _ S1.out).mono ?_
  rintro e Y2 ⟨rfl, hB⟩
  have S2 := Lib.hid (S1.out.go hB)
  clear c0 c1 S1 hB
  obtain ⟨c0, c1⟩ := S2.out.box.facts
  go_wp2_with fail
  refine (KT1.out _ S2.out).mono ?_
  rintro e Y3 ⟨rfl, hB⟩
  have S3 := Lib.hid (S2.out.go hB)
  clear c0 c1 S2 hB
  obtain ⟨c0, c1⟩ := S3.out.box.facts
  go_wp2_with fail
  refine (KT2.out _ S3.out).mono ?_
  rintro e Y4 ⟨rfl, hB⟩
  have S4 := Lib.hid (S3.out.go hB)
  clear c0 c1 S3 hB
  obtain ⟨c0, c1⟩ := S4.out.box.facts
  go_wp2_with fail
  refine (KS1.out _ S4.out).mono ?_
  rintro e Y5 ⟨rfl, hB⟩
  have S5 := Lib.hid (S4.out.go hB)
  clear c0 c1 S4 hB
  obtain ⟨c0, c1⟩ := S5.out.box.facts
  go_wp2_with fail
  refine (KS2.out _ S5.out).mono ?_
  rintro e Y6 ⟨rfl, hB⟩
  have S6 := Lib.hid (S5.out.go hB)
  clear c0 c1 S5 hB
  have hfin := S6.out.below
  have HFIN := Lib.hid hfin
  clear hfin
  go_wp2_with fail
  go_ret
  exact ⟨rfl, HFIN.out⟩
end Go.Proofs.YtffoklhopmhjaaaGreatDoor

/- Values of a class, of raw numbers: what they are, that they fit, and what fits with one of them turned. -/
set_option linter.unusedSimpArgs false
set_option linter.unusedVariables false
namespace Go.Proofs.YtffoklhopmhjaaaGreatDoor
open Go Go.RowKit Go.Shelf

def vTexts : List (List UInt8) := [[], [97], [98, 99], [195, 169, 116, 195, 169], [97, 32, 98], [122, 122, 32, 116, 111, 112], [48], [45, 55]]
/-- of a raw number, a value that is no list -/
def vFlat (k n many : Int) : V :=
  if k = 1 then .mk 1 (pickI n 41 - 20) ⟨#[]⟩ []
  else if k = 2 then .mk 2 0 (nameIn vTexts (pickI n 8)) []
  else if pickI n 5 = 4 then .mk 0 0 ⟨#[]⟩ []
  else .mk k (1 + pickI n many) ⟨#[]⟩ []
/-- the first of a list -/
def vItems (o n many : Int) (m : Nat) : List V := (List.range m).map (fun i : Nat => vFlat o (n.tdiv 4 + (i : Int)) many)
/-- of a raw number, a value of a type -/
def vOf (k o n many : Int) : V := if k = 5 then .mk 5 0 ⟨#[]⟩ (vItems o n many (pickI n 4).toNat) else vFlat k n many
theorem vItems_len (o n many : Int) (m : Nat) : (vItems o n many m).length = m := by simp [vItems]
theorem vItems_succ (o n many : Int) (m : Nat) : vItems o n many (m + 1) = vItems o n many m ++ [vFlat o (n.tdiv 4 + (m : Int)) many] := by
  unfold vItems
  rw [List.range_succ, List.map_append]; rfl

def textGood (l : List UInt8) : Bool := decide (l.length ≤ 60) && textOk l
theorem vTexts_ok : vTexts.all textGood = true := by decide +kernel
theorem vText_at (i : Int) (h0 : 0 ≤ i) (h1 : i < 8) : (nameIn vTexts i).size ≤ 60 ∧ textOk (nameIn vTexts i).data.toList = true := by
  have hi : i.toNat < vTexts.length := by simp [vTexts]; omega
  have e : vTexts.getD i.toNat [] = vTexts[i.toNat] := by rw [List.getD_eq_getElem?_getD, List.getElem?_eq_getElem hi]; rfl
  have hx := List.all_eq_true.1 vTexts_ok _ (List.getElem_mem hi)
  unfold textGood at hx
  rw [Bool.and_eq_true] at hx
  unfold nameIn
  rw [e]
  refine ⟨?_, hx.2⟩
  have h2 := of_decide_eq_true hx.1
  rw [ba_size]
  exact h2
theorem vFlat_l (k n many : Int) : (vFlat k n many).l = [] := by
  unfold vFlat
  split
  · rfl
  · split
    · rfl
    · split <;> rfl
theorem vFlat_fits {k : Int} (hk : 1 ≤ k ∧ k ≤ 4) (n : Int) {many : Int} (hm : 1 ≤ many ∧ many ≤ 1000) : (vFlat k n many).flatOk = true ∧ fkB (vFlat k n many).k k = true ∧ (vFlat k n many).k ≠ 5 := by
  have hp1 := pickI_bd n 41 (by decide)
  have hp2 := pickI_bd n 8 (by decide)
  have hp3 := pickI_bd n many (by omega)
  unfold vFlat
  by_cases h1 : k = 1
  · subst h1
    rw [if_pos rfl]
    refine ⟨?_, rfl, by show (1 : Int) ≠ 5; decide⟩
    show flatOk 1 (pickI n 41 - 20) ⟨#[]⟩ 0 = true
    unfold flatOk
    rw [if_neg (by decide), if_pos rfl]
    exact decide_eq_true ⟨by omega, rfl, rfl⟩
  · rw [if_neg h1]
    by_cases h2 : k = 2
    · subst h2
      rw [if_pos rfl]
      refine ⟨?_, rfl, by show (2 : Int) ≠ 5; decide⟩
      show flatOk 2 0 (nameIn vTexts (pickI n 8)) 0 = true
      unfold flatOk
      rw [if_neg (by decide), if_neg (by decide), if_pos rfl]
      exact decide_eq_true ⟨rfl, vText_at _ hp2.1 hp2.2, rfl⟩
    · rw [if_neg h2]
      have h34 : k = 3 ∨ k = 4 := by omega
      split
      · refine ⟨rfl, ?_, by show (0 : Int) ≠ 5; decide⟩
        exact decide_eq_true (Or.inr ⟨rfl, h34⟩)
      · refine ⟨?_, decide_eq_true (Or.inl rfl), by show k ≠ 5; omega⟩
        show flatOk k (1 + pickI n many) ⟨#[]⟩ 0 = true
        unfold flatOk
        rw [if_neg (by omega), if_neg (by omega), if_neg (by omega), if_pos h34]
        exact decide_eq_true ⟨.inl ⟨by omega, by omega⟩, rfl, rfl⟩
theorem vFlat_fine {k : Int} (hk : 1 ≤ k ∧ k ≤ 4) (n : Int) {many : Int} (hm : 1 ≤ many ∧ many ≤ 1000) : (vFlat k n many).fine := by
  have h := (vFlat_fits hk n hm).1
  have hok : (vFlat k n many).ok = true := by unfold V.ok; rw [if_neg (vFlat_fits hk n hm).2.2]; exact h
  exact ok_fine hok
theorem vItems_okIn {o : Int} (ho : 1 ≤ o ∧ o ≤ 4) (n : Int) {many : Int} (hm : 1 ≤ many ∧ many ≤ 1000) (m : Nat) : ∀ u ∈ vItems o n many m, u.flatOk = true ∧ fkB u.k o = true ∧ u.okIn = true := by
  intro u hu
  unfold vItems at hu
  obtain ⟨i, _, rfl⟩ := List.mem_map.1 hu
  obtain ⟨h1, h2, h3⟩ := vFlat_fits ho (n.tdiv 4 + (i : Int)) hm
  refine ⟨h1, h2, ?_⟩
  unfold V.okIn
  rw [h1, Bool.and_true, Bool.not_eq_true', beq_eq_false_iff_ne]
  exact h3
theorem vOf_fits {k o : Int} (hr : rtB k o = true) (n : Int) {many : Int} (hm : 1 ≤ many ∧ many ≤ 1000) : fitsB (vOf k o n many) k o = true := by
  unfold fitsB vOf
  rw [hr, Bool.true_and]
  unfold rtB at hr
  by_cases h5 : k = 5
  · rw [if_pos h5] at hr
    have ho := of_decide_eq_true hr
    have hp := pickI_bd n 4 (by decide)
    have hin := vItems_okIn ho n hm (pickI n 4).toNat
    rw [if_pos h5, if_pos h5, Bool.and_eq_true, Bool.and_eq_true]
    refine ⟨?_, List.all_eq_true.2 (fun u hu => (hin u hu).2.1), rfl⟩
    show V.ok (.mk 5 0 ⟨#[]⟩ _) = true
    unfold V.ok
    rw [if_pos (show (V.mk 5 0 ⟨#[]⟩ (vItems o n many (pickI n 4).toNat)).k = 5 from rfl), Bool.and_eq_true, Bool.and_eq_true]
    refine ⟨decide_eq_true ⟨rfl, rfl⟩, decide_eq_true ?_, List.all_eq_true.2 (fun u hu => (hin u hu).2.2)⟩
    show (vItems o n many (pickI n 4).toNat).length ≤ 12
    rw [vItems_len]; omega
  · rw [if_neg h5] at hr
    have hk := (of_decide_eq_true hr).1
    rw [if_neg h5, if_neg h5]
    obtain ⟨h1, h2, h3⟩ := vFlat_fits hk n hm
    rw [h2, Bool.and_true]
    unfold V.ok
    rw [if_neg h3]
    exact h1
theorem fits_ok {v : V} {k o : Int} (h : fitsB v k o = true) : v.ok = true := by
  unfold fitsB at h
  rw [Bool.and_eq_true, Bool.and_eq_true] at h
  exact h.1.2

/-- the raw number of the i-th field -/
def numAt (l : List Int) (i : Nat) : Int := if l.length = 0 then (i : Int) else IntKind.i64.wrap (l.getD (i % l.length) 0 + (i : Int))
/-- values of the first fields of a class -/
def vsTo (fs : List Fl) (l : List Int) (many : Int) (n : Nat) : List V := (List.range n).map (fun i => vOf (fs.getD i ⟨⟨#[]⟩, 0, 0, false⟩).k (fs.getD i ⟨⟨#[]⟩, 0, 0, false⟩).o (numAt l i) many)
theorem vsTo_len (fs : List Fl) (l : List Int) (many : Int) (n : Nat) : (vsTo fs l many n).length = n := by simp [vsTo]
theorem vsTo_succ (fs : List Fl) (l : List Int) (many : Int) (n : Nat) (h : n < fs.length) : vsTo fs l many (n + 1) = vsTo fs l many n ++ [vOf fs[n].k fs[n].o (numAt l n) many] := by
  unfold vsTo
  rw [List.range_succ, List.map_append]
  have e : fs.getD n ⟨⟨#[]⟩, 0, 0, false⟩ = fs[n] := by rw [List.getD_eq_getElem?_getD, List.getElem?_eq_getElem h]; rfl
  rw [List.map_singleton, e]
theorem vsTo_at (fs : List Fl) (l : List Int) (many : Int) (n i : Nat) (h : i < (vsTo fs l many n).length) (hi : i < fs.length) : (vsTo fs l many n)[i] = vOf fs[i].k fs[i].o (numAt l i) many := by
  have e : fs.getD i ⟨⟨#[]⟩, 0, 0, false⟩ = fs[i] := by rw [List.getD_eq_getElem?_getD, List.getElem?_eq_getElem hi]; rfl
  simp only [vsTo, List.getElem_map, List.getElem_range, e]
/-- all values fit all fields -/
def AllFit (fs : List Fl) (vs : List V) : Prop := vs.length = fs.length ∧ ∀ i (h : i < vs.length) (h' : i < fs.length), fitsB vs[i] fs[i].k fs[i].o = true
theorem vsTo_fit {nm : ByteArray} {fs : List Fl} (hok : (Cl.mk nm fs).ok = true) (l : List Int) {many : Int} (hm : 1 ≤ many ∧ many ≤ 1000) : AllFit fs (vsTo fs l many fs.length) := by
  refine ⟨vsTo_len _ _ _ _, fun i h h' => ?_⟩
  rw [vsTo_at fs l many _ i h h']
  exact vOf_fits (Fl.ok_parts ((Cl.ok_parts hok).2.2 i h').1).2.2.2.1 _ hm
theorem AllFit.check {nm : ByteArray} {fs : List Fl} {vs : List V} (hok : (Cl.mk nm fs).ok = true) (h : AllFit fs vs) : checkC ⟨nm, fs⟩ vs = (0, 0) := by
  unfold checkC
  rw [if_neg (by rw [hok]; decide), if_neg (fun e => e h.1), show (Cl.mk nm fs).fs = fs from rfl, misfit_none (fun j hj => by rw [fitAt_of hj (by rw [h.1]; exact hj)]; exact h.2 j _ _)]
theorem AllFit.set {fs : List Fl} {vs : List V} (h : AllFit fs vs) {a : Nat} (ha : a < fs.length) {v : V} (hv : fitsB v fs[a].k fs[a].o = true) : AllFit fs (vs.set a v) := by
  refine ⟨by rw [List.length_set]; exact h.1, fun i h1 h2 => ?_⟩
  rw [List.getElem_set]
  split
  · rename_i e; subst e; exact hv
  · exact h.2 i _ _
theorem AllFit.miss {nm : ByteArray} {fs : List Fl} {vs : List V} (hok : (Cl.mk nm fs).ok = true) (h : AllFit fs vs) {a : Nat} (ha : a < fs.length) {v : V} (hv : fitsB v fs[a].k fs[a].o = false) : checkC ⟨nm, fs⟩ (vs.set a v) = ((a : Int), 42) := by
  have hl : (vs.set a v).length = fs.length := by rw [List.length_set]; exact h.1
  have e1 : ∀ j, j < a → fitAt fs (vs.set a v) j = true := fun j hj => by
    rw [fitAt_of (by omega) (by omega), List.getElem_set_ne (by omega)]
    exact h.2 j (by have := h.1; omega) (by omega)
  have e2 : fitAt fs (vs.set a v) a = false := by
    rw [fitAt_of ha (by omega), List.getElem_set_self]
    exact hv
  unfold checkC
  rw [if_neg (by rw [hok]; decide), if_neg (fun e => e hl), show (Cl.mk nm fs).fs = fs from rfl, misfit_at ha e1 e2]
/-- nothing fits references alone -/
theorem fits_nil {k o : Int} (hr : rtB k o = true) : fitsB (.mk 0 0 ⟨#[]⟩ []) k o = decide (k = 3 ∨ k = 4) := by
  unfold fitsB
  rw [hr]
  have hk : 1 ≤ k ∧ k ≤ 5 := by
    unfold rtB at hr
    split at hr
    · omega
    · have := of_decide_eq_true hr; omega
  have hc : k = 1 ∨ k = 2 ∨ k = 3 ∨ k = 4 ∨ k = 5 := by omega
  rcases hc with rfl | rfl | rfl | rfl | rfl <;> rfl
/-- fields' least values -/
def zerosTo (fs : List Fl) (n : Nat) : List V := (List.range n).map (fun i => .mk (zeroK (fs.getD i ⟨⟨#[]⟩, 0, 0, false⟩).k (fs.getD i ⟨⟨#[]⟩, 0, 0, false⟩).o) 0 ⟨#[]⟩ [])
theorem zerosTo_len (fs : List Fl) (n : Nat) : (zerosTo fs n).length = n := by simp [zerosTo]
theorem zerosTo_succ (fs : List Fl) (n : Nat) (h : n < fs.length) : zerosTo fs (n + 1) = zerosTo fs n ++ [.mk (zeroK fs[n].k fs[n].o) 0 ⟨#[]⟩ []] := by
  unfold zerosTo
  rw [List.range_succ, List.map_append]
  have e : fs.getD n ⟨⟨#[]⟩, 0, 0, false⟩ = fs[n] := by rw [List.getD_eq_getElem?_getD, List.getElem?_eq_getElem h]; rfl
  rw [List.map_singleton, e]
theorem zerosTo_fit {nm : ByteArray} {fs : List Fl} (hok : (Cl.mk nm fs).ok = true) : AllFit fs (zerosTo fs fs.length) := by
  refine ⟨zerosTo_len _ _, fun i h h' => ?_⟩
  have e : fs.getD i ⟨⟨#[]⟩, 0, 0, false⟩ = fs[i] := by rw [List.getD_eq_getElem?_getD, List.getElem?_eq_getElem h']; rfl
  have ev : (zerosTo fs fs.length)[i] = .mk (zeroK fs[i].k fs[i].o) 0 ⟨#[]⟩ [] := by
    simp only [zerosTo, List.getElem_map, List.getElem_range, e]
  rw [ev, fits_zero]
  exact (Fl.ok_parts ((Cl.ok_parts hok).2.2 i h').1).2.2.2.1
/-- fields of the same types -/
theorem AllFit.types {fs gs : List Fl} {vs : List V} (h : AllFit fs vs) (hl : gs.length = fs.length) (ht : ∀ i (h1 : i < gs.length) (h2 : i < fs.length), gs[i].k = fs[i].k ∧ gs[i].o = fs[i].o) : AllFit gs vs := by
  refine ⟨by rw [hl]; exact h.1, fun i h1 h2 => ?_⟩
  obtain ⟨e1, e2⟩ := ht i h2 (by omega)
  rw [e1, e2]
  exact h.2 i h1 _
def quiteNew : ByteArray := ⟨#[113, 117, 105, 116, 101, 95, 110, 101, 119]⟩
theorem quiteNew_size : quiteNew.size = 9 := rfl
theorem quiteNew_ok : nmOk quiteNew.data.toList = true := by decide
/-- a field named anew -/
theorem renamed_ok {nm : ByteArray} (hn : nmOk nm.data.toList = true) {fs : List Fl} (h : GoodL fs) (hl : fs.length ≤ 8) (hs : ∀ f ∈ fs, f.nm.size ≤ 8) (a : Nat) (ha : a < fs.length) : (Cl.mk nm (fs.set a { fs[a] with nm := quiteNew })).ok = true := by
  have hno : ∀ f ∈ fs, f.nm ≠ quiteNew := fun f hf e => by have := hs f hf; rw [e, quiteNew_size] at this; omega
  rw [other_name hn h hl a ha _ (fun e => hno _ (List.getElem_mem ha) e.symm)]
  have h1 : Fl.ok { fs[a] with nm := quiteNew } = true := by
    have h2 := (h a ha).1
    unfold Fl.ok at h2 ⊢
    rw [Bool.and_eq_true, Bool.and_eq_true] at h2
    rw [show ({ fs[a] with nm := quiteNew } : Fl).nm = quiteNew from rfl, quiteNew_ok, h2.1.2, h2.2]; rfl
  have h2 : fieldAt fs ({ fs[a] with nm := quiteNew } : Fl).nm = none := fieldAt_none (fun i hi e => hno _ (List.getElem_mem hi) (ba_eq_of e))
  rw [h1, h2]; rfl
theorem renamed_types (fs : List Fl) (a : Nat) (ha : a < fs.length) (nm : ByteArray) : (fs.set a { fs[a] with nm := nm }).length = fs.length ∧ ∀ i (h1 : i < (fs.set a { fs[a] with nm := nm }).length) (h2 : i < fs.length), (fs.set a { fs[a] with nm := nm })[i].k = fs[i].k ∧ (fs.set a { fs[a] with nm := nm })[i].o = fs[i].o := by
  refine ⟨List.length_set, fun i h1 h2 => ?_⟩
  rw [set_at ha _ i h1]
  split
  · rename_i e; subst e; exact ⟨rfl, rfl⟩
  · exact ⟨rfl, rfl⟩
end Go.Proofs.YtffoklhopmhjaaaGreatDoor

/- A region that draws its order: loads are taken first though a last store hits their cells, if what is asked of the world ends with operations that wait for all of them. -/
set_option linter.unusedSimpArgs false
set_option linter.unusedVariables false
namespace Go.Proofs.YtffoklhopmhjaaaGreatDoor
open Go

section
variable {P : Program} {ops : Array Oper} {Q : Exit → Act → World → Prop} {md : Region.Mode} {S : World → Prop} {T : Nat → Bool}

/-- whatever comes up next; behind an operation that is not among T the world meets S -/
def wpAnyT (P : Program) (md : Region.Mode) (ops : Array Oper) (Q : Exit → Act → World → Prop) (S : World → Prop) (T : Nat → Bool) : Nat → Array Bool → Act → World → Prop
  | 0, listed, a, w => Region.ready md ops listed = [] ∧ Q .normal a w
  | n + 1, listed, a, w => (Region.ready md ops listed = [] → Q .normal a w) ∧
      ∀ i ∈ Region.ready md ops listed, wpOp P ops Q i (fun b v => (T i = false → S v) ∧ wpAnyT P md ops Q S T n (listed.setIfInBounds i true) b v) a w

theorem wpAny_of_T : ∀ (n : Nat) (listed : Array Bool) (a : Act) (w : World), wpAnyT P md ops Q S T n listed a w → wpAny P md ops Q n listed a w
  | 0, _, _, _, h => h
  | n + 1, _, _, _, h => ⟨h.1, fun i hi => wpOp_mono (fun b v k => wpAny_of_T n _ b v k.2) (h.2 i hi)⟩

/-- does j wait for i, at once or through others? -/
def leadsB (md : Region.Mode) (ops : Array Oper) : Nat → Nat → Nat → Bool
  | 0, _, _ => false
  | f + 1, j, i => match ops[j]? with
    | none => false
    | some o => o.after.any fun e => Region.binds md e && (e.on == i || leadsB md ops f e.on i)
/-- whatever is listed has all that it waits for listed -/
def Closed (md : Region.Mode) (ops : Array Oper) (listed : Array Bool) : Prop :=
  ∀ (j : Nat) (o : Oper), ops[j]? = some o → listed.getD j false = true → ∀ e ∈ o.after, Region.binds md e = true → listed.getD e.on false = true
def closedB (md : Region.Mode) (ops : Array Oper) (listed : Array Bool) : Bool :=
  (List.range ops.size).all fun j => !listed.getD j false || match ops[j]? with
    | none => true
    | some o => o.after.all fun e => !Region.binds md e || listed.getD e.on false
theorem closed_of {listed : Array Bool} (h : closedB md ops listed = true) : Closed md ops listed := by
  intro j o ho hj e he hb
  unfold closedB at h
  rw [List.all_eq_true] at h
  have h1 := h j (List.mem_range.2 (Array.getElem?_eq_some_iff.1 ho).1)
  rw [ho, hj] at h1
  simp only [Bool.not_true, Bool.false_or, Array.all_eq_true_iff_forall_mem] at h1
  have h2 := h1 e he
  rw [hb] at h2
  simpa using h2
theorem leads_listed {listed : Array Bool} (hc : Closed md ops listed) : ∀ (f j i : Nat) (o : Oper), ops[j]? = some o → (∀ e ∈ o.after, Region.binds md e = true → listed.getD e.on false = true) → leadsB md ops f j i = true → listed.getD i false = true
  | 0, _, _, _, _, _, h => by cases h
  | f + 1, j, i, o, ho, hd, h => by
    unfold leadsB at h
    rw [ho] at h
    simp only [Array.any_eq_true] at h
    obtain ⟨k, hk, h⟩ := h
    rw [Bool.and_eq_true, Bool.or_eq_true] at h
    have hm := Array.getElem_mem hk
    have hl := hd _ hm h.1
    rcases h.2 with h2 | h2
    · rwa [beq_iff_eq.1 h2] at hl
    · cases ho2 : ops[(o.after[k]).on]? with
      | none =>
        cases f with
        | zero => cases h2
        | succ f => unfold leadsB at h2; rw [ho2] at h2; cases h2
      | some o2 => exact leads_listed hc f _ i o2 ho2 (fun e he hb => hc _ o2 ho2 hl e he hb) h2
theorem closed_set {listed : Array Bool} {j : Nat} (hc : Closed md ops listed) (hj : j ∈ Region.ready md ops listed) : Closed md ops (listed.setIfInBounds j true) := by
  intro k o ho hk e he hb
  refine getD_set_true ?_
  by_cases hjk : j = k
  · subst hjk
    obtain ⟨_, o', ho', hall⟩ := mem_ready.1 hj
    rw [ho] at ho'
    cases ho'
    exact hall e he hb
  · rw [getD_set_ne false hjk] at hk
    exact hc k o ho hk e he hb
theorem not_listed {listed : Array Bool} {i : Nat} (h : listed.getD i true = false) : listed.getD i false = false := by
  rcases Nat.lt_or_ge i listed.size with h' | h'
  · simpa [h'] using h
  · simp [Array.getElem?_eq_none h']

theorem wpAnyT_first {i : Nat} {oi : Oper} {v : Value} (hi : ops[i]? = some oi) (hsel : ∀ (j : Nat) (o : Oper) cs b, ops[j]? = some o → o.op ≠ .select cs b)
    (hT : ∀ j o, ops[j]? = some o → T j = true → leadsB md ops 64 j i = true) (hTi : T i = false)
    (hQ : ∀ c a w, Q (.panic c) (a.put oi.dst v) w → Q (.panic c) a w) :
    ∀ (n : Nat) (listed : Array Bool) (a : Act) (w : World), Closed md ops listed →
      (∀ j oj, ops[j]? = some oj → j ≠ i → listed.getD j true = false → (∀ e ∈ oj.after, Region.binds md e = true → e.on ≠ i) → oi.apart ops oj = true) →
      i ∈ Region.ready md ops listed → YieldsIf P ops S oi v a → S w →
      wpAnyT P md ops Q S T n (listed.setIfInBounds i true) (a.put oi.dst v) w → wpAnyT P md ops Q S T (n + 1) listed a w := by
  intro n
  induction n with
  | zero =>
    intro listed a w _ _ hr hy hS H
    refine ⟨fun h => absurd (h ▸ hr) (by simp), fun j hj => ?_⟩
    by_cases hji : j = i
    · subst hji; exact hy.wpOp hi hS ⟨fun _ => hS, H⟩
    · have h1 := ready_mono hj hji
      rw [H.1] at h1
      cases h1
  | succ n ih =>
    intro listed a w hcl hfree hr hy hS H
    refine ⟨fun h => absurd (h ▸ hr) (by simp), fun j hj => ?_⟩
    by_cases hji : j = i
    · subst hji; exact hy.wpOp hi hS ⟨fun _ => hS, H⟩
    · obtain ⟨hun, oj, hoj, hall⟩ := mem_ready.1 hj
      have hir := (mem_ready.1 hr).1
      have hTj : T j = false := by
        cases hTj : T j with
        | false => rfl
        | true =>
          have h1 := leads_listed hcl 64 j i oj hoj hall (hT j oj hoj hTj)
          rw [not_listed hir] at h1
          cases h1
      have hno : ∀ e ∈ oj.after, Region.binds md e = true → e.on ≠ i := fun e he hb heq => by
        have h1 := hall e he hb
        rw [heq, not_listed hir] at h1
        cases h1
      have h2 := wpOp_putIf hoj (hfree j oj hoj hji hun hno) (fun cs b => hsel i oi cs b hi) (fun cs b => hsel j oj cs b hoj) hQ hy (H.2 j (ready_mono hj hji))
      refine wpOp_mono (fun b u h3 => ⟨h3.2.1, ih (listed.setIfInBounds j true) b u (closed_set hcl hj) (fun k ok hk hki hkun hkno => ?_) (ready_mono hr (Ne.symm hji)) h3.1 (h3.2.1 hTj) ?_⟩) h2
      · refine hfree k ok hk hki ?_ hkno
        by_cases hjk : j = k
        · subst hjk; exact hun
        · rwa [getD_set_ne true hjk] at hkun
      · rw [Array.setIfInBounds_comm _ _ hji]
        exact h3.2.2

/-- what yields in whatever world is taken first, though S may be gone by then, if it is among T -/
theorem wpAnyT_pure' {i : Nat} {oi : Oper} {v : Value} (hi : ops[i]? = some oi) (hsel : ∀ (j : Nat) (o : Oper) cs b, ops[j]? = some o → o.op ≠ .select cs b) (hTi : T i = true)
    (hQ : ∀ c a w, Q (.panic c) (a.put oi.dst v) w → Q (.panic c) a w) :
    ∀ (n : Nat) (listed : Array Bool) (a : Act) (w : World),
      (∀ j oj, ops[j]? = some oj → j ≠ i → listed.getD j true = false → (∀ e ∈ oj.after, Region.binds md e = true → e.on ≠ i) → oi.apart ops oj = true) →
      i ∈ Region.ready md ops listed → YieldsIf P ops (fun _ => True) oi v a →
      wpAnyT P md ops Q S T n (listed.setIfInBounds i true) (a.put oi.dst v) w → wpAnyT P md ops Q S T (n + 1) listed a w := by
  intro n
  induction n with
  | zero =>
    intro listed a w _ hr hy H
    refine ⟨fun h => absurd (h ▸ hr) (by simp), fun j hj => ?_⟩
    by_cases hji : j = i
    · subst hji; exact hy.wpOp hi trivial ⟨(fun h => absurd (hTi.symm.trans h) (by decide)), H⟩
    · have h1 := ready_mono hj hji
      rw [H.1] at h1
      cases h1
  | succ n ih =>
    intro listed a w hfree hr hy H
    refine ⟨fun h => absurd (h ▸ hr) (by simp), fun j hj => ?_⟩
    by_cases hji : j = i
    · subst hji; exact hy.wpOp hi trivial ⟨(fun h => absurd (hTi.symm.trans h) (by decide)), H⟩
    · obtain ⟨hun, oj, hoj, hall⟩ := mem_ready.1 hj
      have hir := (mem_ready.1 hr).1
      have hno : ∀ e ∈ oj.after, Region.binds md e = true → e.on ≠ i := fun e he hb heq => by
        have h1 := hall e he hb
        rw [heq, not_listed hir] at h1
        cases h1
      have h2 := wpOp_putIf hoj (hfree j oj hoj hji hun hno) (fun cs b => hsel i oi cs b hi) (fun cs b => hsel j oj cs b hoj) hQ hy (H.2 j (ready_mono hj hji))
      refine wpOp_mono (fun b u h3 => ⟨h3.2.1, ih (listed.setIfInBounds j true) b u (fun k ok hk hki hkun hkno => ?_) (ready_mono hr (Ne.symm hji)) h3.1 ?_⟩) h2
      · refine hfree k ok hk hki ?_ hkno
        by_cases hjk : j = k
        · subst hjk; exact hun
        · rwa [getD_set_ne true hjk] at hkun
      · rw [Array.setIfInBounds_comm _ _ hji]
        exact h3.2.2
theorem wpAnyT_pure {i : Nat} {oi : Oper} {v : Value} {n : Nat} {listed : Array Bool} {a : Act} {w : World} (hi : ops[i]? = some oi)
    (hs : Region.noSelect ops = true) (hT : T i = true) (hf : Region.free md ops listed i = true) (hr : (Region.ready md ops listed).contains i = true)
    (hQ : ∀ c a w, Q (.panic c) (a.put oi.dst v) w → Q (.panic c) a w) (hy : YieldsIf P ops (fun _ => True) oi v a)
    (h : wpAnyT P md ops Q S T n (listed.setIfInBounds i true) (a.put oi.dst v) w) : wpAnyT P md ops Q S T (n + 1) listed a w :=
  wpAnyT_pure' hi (Region.noSelect_spec hs) hT hQ n listed a w (Region.free_spec hi hf) (by simpa using hr) hy h

def tailB (md : Region.Mode) (ops : Array Oper) (T : Nat → Bool) (i : Nat) : Bool := !T i && (List.range ops.size).all fun j => !T j || leadsB md ops 64 j i
/-- number i is taken first: in every world that meets S it yields v -/
theorem wpAnyT_take {i : Nat} {oi : Oper} {v : Value} {n : Nat} {listed : Array Bool} {a : Act} {w : World} (hi : ops[i]? = some oi)
    (hs : Region.noSelect ops = true) (hT : tailB md ops T i = true) (hc : closedB md ops listed = true) (hf : Region.free md ops listed i = true) (hr : (Region.ready md ops listed).contains i = true)
    (hQ : ∀ c a w, Q (.panic c) (a.put oi.dst v) w → Q (.panic c) a w) (hy : YieldsIf P ops S oi v a) (hS : S w)
    (h : wpAnyT P md ops Q S T n (listed.setIfInBounds i true) (a.put oi.dst v) w) : wpAnyT P md ops Q S T (n + 1) listed a w := by
  unfold tailB at hT
  rw [Bool.and_eq_true, List.all_eq_true] at hT
  refine wpAnyT_first hi (Region.noSelect_spec hs) (fun j o ho hj => ?_) (by simpa using hT.1) hQ n listed a w (closed_of hc) (Region.free_spec hi hf) (by simpa using hr) hy hS h
  have h1 := hT.2 j (List.mem_range.2 (Array.getElem?_eq_some_iff.1 ho).1)
  rw [hj] at h1
  simpa using h1
/-- number i takes no look at the world, whatever T says -/
theorem wpAnyT_run {i : Nat} {o : Oper} {n : Nat} {listed : Array Bool} {a : Act} {w : World} (hr : Region.ready md ops listed = [i]) (ho : ops[i]? = some o)
    (h : ∀ K : Act → World → Prop, Shut (∀ b u, (T i = false → S u) → wpAnyT P md ops Q S T n (listed.setIfInBounds i true) b u → K b u) → if Region.wanted o (yielded ops a.tmps) = true then Oper.wp P o a w K Q else K (a.put o.dst undef) w) :
    wpAnyT P md ops Q S T (n + 1) listed a w := by
  refine ⟨fun h0 => absurd (hr ▸ h0) (by simp), fun j hj => ?_⟩
  rw [hr] at hj
  obtain rfl : j = i := by simpa using hj
  exact wpOp_step ho (fun K hK => h K (fun b u hS hW => hK b u ⟨hS, hW⟩))
/-- one of two comes up -/
theorem wpAnyT_two {i j : Nat} {o o' : Oper} {n : Nat} {listed : Array Bool} {a : Act} {w : World} (hr : Region.ready md ops listed = [i, j]) (ho : ops[i]? = some o) (ho' : ops[j]? = some o')
    (h : ∀ K : Act → World → Prop, Shut (∀ b u, (T i = false → S u) → wpAnyT P md ops Q S T n (listed.setIfInBounds i true) b u → K b u) → if Region.wanted o (yielded ops a.tmps) = true then Oper.wp P o a w K Q else K (a.put o.dst undef) w)
    (h' : ∀ K : Act → World → Prop, Shut (∀ b u, (T j = false → S u) → wpAnyT P md ops Q S T n (listed.setIfInBounds j true) b u → K b u) → if Region.wanted o' (yielded ops a.tmps) = true then Oper.wp P o' a w K Q else K (a.put o'.dst undef) w) :
    wpAnyT P md ops Q S T (n + 1) listed a w := by
  refine ⟨fun h0 => absurd (hr ▸ h0) (by simp), fun k hk => ?_⟩
  rw [hr] at hk
  rcases List.mem_cons.1 hk with rfl | hk
  · exact wpOp_step ho (fun K hK => h K (fun b u hS hW => hK b u ⟨hS, hW⟩))
  · obtain rfl : k = j := by simpa using hk
    exact wpOp_step ho' (fun K hK => h' K (fun b u hS hW => hK b u ⟨hS, hW⟩))
theorem wpAnyT_done {listed : Array Bool} {a : Act} {w : World} (hr : Region.ready md ops listed = []) (h : Q .normal a w) : ∀ n, wpAnyT P md ops Q S T n listed a w
  | 0 => ⟨hr, h⟩
  | _ + 1 => ⟨fun _ => h, by rw [hr]; simp⟩
/-- the beginning -/
theorem wp_region_T {id : Nat} {a : Act} {w : World} (S : World → Prop) (T : Nat → Bool) (hm : P.follows .mixedOrders = true)
    (h : wpAnyT P .any ops Q S T ops.size (Array.replicate ops.size false) a w.drew) : (Code.region id ops true).wp P Q a w :=
  wp_region_any hm (wpAny_of_T _ _ _ _ h)
end
end Go.Proofs.YtffoklhopmhjaaaGreatDoor

/- morainelaw04.ValOf: values that are no lists. -/
set_option linter.unusedSimpArgs false
set_option linter.unusedVariables false
namespace Go.Proofs.YtffoklhopmhjaaaGreatDoor
open Go Go.RowKit Go.Shelf

def vtexts8 : Array Value := #[.string ⟨#[]⟩, .string ⟨#[97]⟩, .string ⟨#[98, 99]⟩, .string ⟨#[195, 169, 116, 195, 169]⟩, .string ⟨#[97, 32, 98]⟩, .string ⟨#[122, 122, 32, 116, 111, 112]⟩, .string ⟨#[48]⟩, .string ⟨#[45, 55]⟩]
theorem vtexts8_at (q : Nat) (h : q < 8) : vtexts8[q]? = some (.string (nameIn vTexts (q : Int))) := by
  match q, h with
  | 0, _ => rfl
  | 1, _ => rfl
  | 2, _ => rfl
  | 3, _ => rfl
  | 4, _ => rfl
  | 5, _ => rfl
  | 6, _ => rfl
  | 7, _ => rfl
/-- the boxes at ValOf's entry -/
structure VoSt (w : World) (k o : Int) (W : World) : Prop where
  tb : TBox W w.heap.size k o
  out : VBox W (w.heap.size + 1) 0 0 ⟨#[]⟩ (.slice none 0 0)
  txt : W.heap[w.heap.size + 2]? = some (.cells vtexts8 9 (0, 0))
  below : Below w.heap.size w W
theorem VoSt.new (w : World) (k o : Int) : VoSt w k o (((w.alloc (.cells #[.int .i64 k, .int .i64 o] 46)).alloc (.cells #[.int .i64 0, .int .i64 0, .string ⟨#[]⟩, .slice none 0 0] 37)).alloc (.cells vtexts8 9)) := by
  refine ⟨((TBox.new w k o).alloc _).alloc _, ?_, ?_, (below_two _ _).alloc (by simp; omega) _⟩
  · have h := (VBox.new (w.alloc (.cells #[.int .i64 k, .int .i64 o] 46)) 0 0 ⟨#[]⟩ (.slice none 0 0)).alloc (.cells vtexts8 9)
    rwa [World.size_alloc] at h
  · have h := World.alloc_heap_new ((w.alloc (.cells #[.int .i64 k, .int .i64 o] 46)).alloc (.cells #[.int .i64 0, .int .i64 0, .string ⟨#[]⟩, .slice none 0 0] 37)) (.cells vtexts8 9)
    rwa [World.size_alloc, World.size_alloc] at h
theorem VoSt.text {w : World} {k o : Int} {W : World} (h : VoSt w k o W) (q : Nat) (hq : q < 8) : W.cell? ⟨w.heap.size + 1 + 1, q, none⟩ = some (.string (nameIn vTexts (q : Int))) := by
  have h2 := h.txt
  rw [show w.heap.size + 2 = w.heap.size + 1 + 1 from rfl] at h2
  rw [Lib.cell_of_heap h2]
  exact vtexts8_at q hq
theorem VoSt.fin {w : World} {k o : Int} {W : World} (h : VoSt w k o W) (k' n' : Int) (s' : ByteArray) : VBox (putBox W (w.heap.size + 1) k' n' s' (.slice none 0 0)) (w.heap.size + 1) k' n' s' (.slice none 0 0) ∧ Below w.heap.size w (putBox W (w.heap.size + 1) k' n' s' (.slice none 0 0)) :=
  ⟨h.out.put _ _ _ _, below_put h.below (by omega) _ _ _ _⟩

set_option maxHeartbeats 2000000 in
set_option maxRecDepth 100000 in
theorem valOf4_num (o n many : Int) (hn : -9223372036854775808 ≤ n ∧ n ≤ 9223372036854775807) (w : World) :
    Calls Tryz.prog 24 #[.agg #[.int .i64 1, .int .i64 o], .int .i64 n, .int .i64 many] w fun e w' => e = .returned (valV 1 (pickI n 41 - 20) ⟨#[]⟩ (.slice none 0 0)) ∧ Below w.heap.size w w' := by
  have hp := fun W => pick4_any n 41 hn.1 hn.2 (by decide) (by decide) W
  have hb := pickI_bd n 41 (by decide)
  have hS := VoSt.new w 1 o
  generalize pickI n 41 = q at hp hb ⊢
  obtain ⟨hb1, hb2⟩ := hb
  have hw : IntKind.i64.wrap (q - 20) = q - 20 := IntWalk.i64_in _ (by omega)
  have HP := Lib.hid hp
  have HS := Lib.hid hS
  clear hp hS hn
  unfold vtexts8 at HS
  go_enter Tryz.func24, Tryz.ntmps24
  go_wp2_with fail
  generalize ((w.alloc (.cells #[.int .i64 1, .int .i64 o] 46)).alloc (.cells #[.int .i64 0, .int .i64 0, .string ⟨#[]⟩, .slice none 0 0] 37)).alloc (.cells #[.string ⟨#[]⟩, .string ⟨#[97]⟩, .string ⟨#[98, 99]⟩, .string ⟨#[195, 169, 116, 195, 169]⟩, .string ⟨#[97, 32, 98]⟩, .string ⟨#[122, 122, 32, 116, 111, 112]⟩, .string ⟨#[48]⟩, .string ⟨#[45, 55]⟩] 9) = W3 at HS ⊢
  refine (HP.out _).mono ?_
  rintro e W4 ⟨rfl, rfl⟩
  obtain ⟨⟨e0, e1, e2, e3⟩, g0, g1, g2, g3⟩ := HS.out.out.facts
  go_wp2_with fail
  obtain ⟨hV, hB⟩ := HS.out.fin 1 (q - 20) ⟨#[]⟩
  unfold putBox at hV hB
  generalize (((W3.setCell ⟨w.heap.size + 1, 0, none⟩ (.int .i64 1)).setCell ⟨w.heap.size + 1, 1, none⟩ (.int .i64 (q - 20))).setCell ⟨w.heap.size + 1, 2, none⟩ (.string ⟨#[]⟩)).setCell ⟨w.heap.size + 1, 3, none⟩ (.slice none 0 0) = W9 at hV hB ⊢
  obtain ⟨⟨x0, x1, x2, x3⟩, _⟩ := hV.facts
  exact bodyPost_ret (v := valV 1 (q - 20) ⟨#[]⟩ (.slice none 0 0)) (by simp [results, Tryz.results24, go_sem, x0, x1, x2, x3]) rfl ⟨rfl, hB⟩

set_option maxHeartbeats 2000000 in
set_option maxRecDepth 100000 in
theorem valOf4_text (o n many : Int) (hn : -9223372036854775808 ≤ n ∧ n ≤ 9223372036854775807) (w : World) :
    Calls Tryz.prog 24 #[.agg #[.int .i64 2, .int .i64 o], .int .i64 n, .int .i64 many] w fun e w' => e = .returned (valV 2 0 (nameIn vTexts (pickI n 8)) (.slice none 0 0)) ∧ Below w.heap.size w w' := by
  have hp := fun W => pick4_any n 8 hn.1 hn.2 (by decide) (by decide) W
  have hb := pickI_bd n 8 (by decide)
  have hS := VoSt.new w 2 o
  obtain ⟨q, hq⟩ : ∃ q : Nat, pickI n 8 = (q : Int) := ⟨(pickI n 8).toNat, by omega⟩
  rw [hq] at hp hb ⊢
  have hq8 : q < 8 := by omega
  have htx := hS.text q hq8
  clear hq hb hn
  generalize nameIn vTexts (q : Int) = tx at htx ⊢
  have hqi : (q : Int) < 8 := by omega
  have hq0 : (0 : Int) ≤ (q : Int) := by omega
  have HP := Lib.hid hp
  have HS := Lib.hid hS
  clear hp hS
  unfold vtexts8 at HS htx
  go_enter Tryz.func24, Tryz.ntmps24
  go_wp2_with fail
  generalize ((w.alloc (.cells #[.int .i64 2, .int .i64 o] 46)).alloc (.cells #[.int .i64 0, .int .i64 0, .string ⟨#[]⟩, .slice none 0 0] 37)).alloc (.cells #[.string ⟨#[]⟩, .string ⟨#[97]⟩, .string ⟨#[98, 99]⟩, .string ⟨#[195, 169, 116, 195, 169]⟩, .string ⟨#[97, 32, 98]⟩, .string ⟨#[122, 122, 32, 116, 111, 112]⟩, .string ⟨#[48]⟩, .string ⟨#[45, 55]⟩] 9) = W3 at HS htx ⊢
  refine (HP.out _).mono ?_
  rintro e W4 ⟨rfl, rfl⟩
  obtain ⟨⟨e0, e1, e2, e3⟩, g0, g1, g2, g3⟩ := HS.out.out.facts
  go_wp2_with fail
  obtain ⟨hV, hB⟩ := HS.out.fin 2 0 tx
  unfold putBox at hV hB
  generalize (((W3.setCell ⟨w.heap.size + 1, 0, none⟩ (.int .i64 2)).setCell ⟨w.heap.size + 1, 1, none⟩ (.int .i64 0)).setCell ⟨w.heap.size + 1, 2, none⟩ (.string tx)).setCell ⟨w.heap.size + 1, 3, none⟩ (.slice none 0 0) = W9 at hV hB ⊢
  obtain ⟨⟨x0, x1, x2, x3⟩, _⟩ := hV.facts
  exact bodyPost_ret (v := valV 2 0 tx (.slice none 0 0)) (by simp [results, Tryz.results24, go_sem, x0, x1, x2, x3]) rfl ⟨rfl, hB⟩

set_option maxHeartbeats 4000000 in
set_option maxRecDepth 100000 in
theorem valOf4_ref (o n many : Int) (hn : -9223372036854775808 ≤ n ∧ n ≤ 9223372036854775807) (hm : 1 ≤ many ∧ many ≤ 1000) (w : World) :
    Calls Tryz.prog 24 #[.agg #[.int .i64 3, .int .i64 o], .int .i64 n, .int .i64 many] w fun e w' => e = .returned (if pickI n 5 = 4 then valV 0 0 ⟨#[]⟩ (.slice none 0 0) else valV 3 (1 + pickI n many) ⟨#[]⟩ (.slice none 0 0)) ∧ Below w.heap.size w w' := by
  have hp := fun W => pick4_any n 5 hn.1 hn.2 (by decide) (by decide) W
  have hq := fun W => pick4_any n many hn.1 hn.2 (by omega) (by omega) W
  have hb := pickI_bd n many (by omega)
  have hS := VoSt.new w 3 o
  generalize pickI n 5 = r at hp ⊢
  generalize pickI n many = q at hq hb ⊢
  obtain ⟨hb1, hb2⟩ := hb
  have hw : IntKind.i64.wrap (1 + q) = 1 + q := IntWalk.i64_in _ (by omega)
  have hm1 : decide (many < 1) = false := decide_eq_false (by omega)
  have hm1' : ¬ many < 1 := by omega
  have HP := Lib.hid hp
  have HQ := Lib.hid hq
  have HS := Lib.hid hS
  clear hp hq hS hn
  unfold vtexts8 at HS
  by_cases h4 : r = 4
  · have d4 : (r == 4) = true := by rw [beq_iff_eq]; exact h4
    refine (show Calls Tryz.prog 24 #[.agg #[.int .i64 3, .int .i64 o], .int .i64 n, .int .i64 many] w (fun e w' => e = .returned (valV 0 0 ⟨#[]⟩ (.slice none 0 0)) ∧ Below w.heap.size w w') from ?_).mono (fun e w' h => ⟨by rw [if_pos h4]; exact h.1, h.2⟩)
    clear h4
    go_enter Tryz.func24, Tryz.ntmps24
    go_wp2_with fail
    generalize ((w.alloc (.cells #[.int .i64 3, .int .i64 o] 46)).alloc (.cells #[.int .i64 0, .int .i64 0, .string ⟨#[]⟩, .slice none 0 0] 37)).alloc (.cells #[.string ⟨#[]⟩, .string ⟨#[97]⟩, .string ⟨#[98, 99]⟩, .string ⟨#[195, 169, 116, 195, 169]⟩, .string ⟨#[97, 32, 98]⟩, .string ⟨#[122, 122, 32, 116, 111, 112]⟩, .string ⟨#[48]⟩, .string ⟨#[45, 55]⟩] 9) = W3 at HS ⊢
    refine (HP.out _).mono ?_
    rintro e W4 ⟨rfl, rfl⟩
    obtain ⟨⟨e0, e1, e2, e3⟩, g0, g1, g2, g3⟩ := HS.out.out.facts
    go_wp2_with fail
    obtain ⟨hV, hB⟩ := HS.out.fin 0 0 ⟨#[]⟩
    unfold putBox at hV hB
    generalize (((W3.setCell ⟨w.heap.size + 1, 0, none⟩ (.int .i64 0)).setCell ⟨w.heap.size + 1, 1, none⟩ (.int .i64 0)).setCell ⟨w.heap.size + 1, 2, none⟩ (.string ⟨#[]⟩)).setCell ⟨w.heap.size + 1, 3, none⟩ (.slice none 0 0) = W9 at hV hB ⊢
    obtain ⟨⟨x0, x1, x2, x3⟩, _⟩ := hV.facts
    exact bodyPost_ret (v := valV 0 0 ⟨#[]⟩ (.slice none 0 0)) (by simp [results, Tryz.results24, go_sem, x0, x1, x2, x3]) rfl ⟨rfl, hB⟩
  · have d4 : (r == 4) = false := by rw [beq_eq_false_iff_ne]; exact h4
    refine (show Calls Tryz.prog 24 #[.agg #[.int .i64 3, .int .i64 o], .int .i64 n, .int .i64 many] w (fun e w' => e = .returned (valV 3 (1 + q) ⟨#[]⟩ (.slice none 0 0)) ∧ Below w.heap.size w w') from ?_).mono (fun e w' h => ⟨by rw [if_neg h4]; exact h.1, h.2⟩)
    clear h4
    go_enter Tryz.func24, Tryz.ntmps24
    go_wp2_with fail
    generalize ((w.alloc (.cells #[.int .i64 3, .int .i64 o] 46)).alloc (.cells #[.int .i64 0, .int .i64 0, .string ⟨#[]⟩, .slice none 0 0] 37)).alloc (.cells #[.string ⟨#[]⟩, .string ⟨#[97]⟩, .string ⟨#[98, 99]⟩, .string ⟨#[195, 169, 116, 195, 169]⟩, .string ⟨#[97, 32, 98]⟩, .string ⟨#[122, 122, 32, 116, 111, 112]⟩, .string ⟨#[48]⟩, .string ⟨#[45, 55]⟩] 9) = W3 at HS ⊢
    refine (HP.out _).mono ?_
    rintro e W4 ⟨rfl, rfl⟩
    obtain ⟨⟨e0, e1, e2, e3⟩, g0, g1, g2, g3⟩ := HS.out.out.facts
    obtain ⟨t0, t1⟩ := HS.out.tb.facts
    have t2 : W3.drew.cell? ⟨w.heap.size, 0, none⟩ = some (.int .i64 3) := t0
    go_wp2_with fail
    refine wp_region_T (fun W : World => W.cell? ⟨w.heap.size, 0, none⟩ = some (.int .i64 3)) (fun j => j == 7) (by kernel_rfl) ?_
    refine wpAnyT_take (i := 0) (v := ?v0) rfl (by kernel_rfl) (by kernel_rfl) (by kernel_rfl) (by kernel_rfl) (by kernel_rfl) (fun _ _ _ h => h) (Or.inl ⟨by rfl, ?y0⟩) (t2) ?r0
    case y0 => (intro w hSw; (try dsimp only at hSw); go_simp; try with_reducible rfl)
    try simp only [Act.put, List.setIfInBounds_toArray, List.set_cons_zero, List.set_cons_succ, List.getElem_toArray, List.getElem_cons_succ, List.getElem_cons_zero]
    refine wpAnyT_take (i := 1) (v := ?v1) rfl (by kernel_rfl) (by kernel_rfl) (by kernel_rfl) (by kernel_rfl) (by kernel_rfl) (fun _ _ _ h => h) (Or.inl ⟨by rfl, ?y1⟩) (t2) ?r1
    case y1 => (intro w hSw; (try dsimp only at hSw); go_simp; try with_reducible rfl)
    try simp only [Act.put, List.setIfInBounds_toArray, List.set_cons_zero, List.set_cons_succ, List.getElem_toArray, List.getElem_cons_succ, List.getElem_cons_zero]
    refine wpAnyT_take (i := 2) (v := ?v2) rfl (by kernel_rfl) (by kernel_rfl) (by kernel_rfl) (by kernel_rfl) (by kernel_rfl) (fun _ _ _ h => h) (Or.inl ⟨by rfl, ?y2⟩) (t2) ?r2
    case y2 => (intro w hSw; (try dsimp only at hSw); go_simp; try with_reducible rfl)
    try simp only [Act.put, List.setIfInBounds_toArray, List.set_cons_zero, List.set_cons_succ, List.getElem_toArray, List.getElem_cons_succ, List.getElem_cons_zero]
    refine wpAnyT_take (i := 3) (v := ?v3) rfl (by kernel_rfl) (by kernel_rfl) (by kernel_rfl) (by kernel_rfl) (by kernel_rfl) (fun _ _ _ h => h) (Or.inl ⟨by rfl, ?y3⟩) (t2) ?r3
    case y3 => (intro w hSw; (try dsimp only at hSw); go_simp; try with_reducible rfl)
    try simp only [Act.put, List.setIfInBounds_toArray, List.set_cons_zero, List.set_cons_succ, List.getElem_toArray, List.getElem_cons_succ, List.getElem_cons_zero]
    refine wpAnyT_run (i := 4) (by kernel_rfl) rfl (fun K hK => ?_)
    go_simp
    (refine (HQ.out _).mono ?_; rintro e Y1 ⟨rfl, rfl⟩)
    go_wp2_with fail
    refine hK.out _ _ (fun _ => t2) ?_
    clear hK K
    try simp only [Act.put, List.setIfInBounds_toArray, List.set_cons_zero, List.set_cons_succ, List.getElem_toArray, List.getElem_cons_succ, List.getElem_cons_zero]
    refine wpAnyT_run (i := 5) (by kernel_rfl) rfl (fun K hK => ?_)
    go_simp
    refine hK.out _ _ (fun _ => t2) ?_
    clear hK K
    try simp only [Act.put, List.setIfInBounds_toArray, List.set_cons_zero, List.set_cons_succ, List.getElem_toArray, List.getElem_cons_succ, List.getElem_cons_zero]
    refine wpAnyT_run (i := 6) (by kernel_rfl) rfl (fun K hK => ?_)
    go_simp
    refine hK.out _ _ (fun _ => t2) ?_
    clear hK K
    try simp only [Act.put, List.setIfInBounds_toArray, List.set_cons_zero, List.set_cons_succ, List.getElem_toArray, List.getElem_cons_succ, List.getElem_cons_zero]
    refine wpAnyT_run (i := 7) (by kernel_rfl) rfl (fun K hK => ?_)
    go_simp
    refine hK.out _ _ (fun h => absurd h (by decide)) ?_
    clear hK K
    try simp only [Act.put, List.setIfInBounds_toArray, List.set_cons_zero, List.set_cons_succ, List.getElem_toArray, List.getElem_cons_succ, List.getElem_cons_zero]
    refine wpAnyT_done (by kernel_rfl) ?_ _
    obtain ⟨hV, hB⟩ := HS.out.fin 3 (1 + q) ⟨#[]⟩
    have hV' := hV.below (Below.refl _ _).drew
    have hB' := hB.drew
    unfold putBox at hV' hB'
    go_wp2_with fail
    obtain ⟨⟨x0, x1, x2, x3⟩, _⟩ := hV'.facts
    exact bodyPost_ret (v := valV 3 (1 + q) ⟨#[]⟩ (.slice none 0 0)) (by simp [results, Tryz.results24, go_sem, x0, x1, x2, x3]) rfl ⟨rfl, hB'⟩

set_option maxHeartbeats 4000000 in
set_option maxRecDepth 100000 in
theorem valOf4_weak (o n many : Int) (hn : -9223372036854775808 ≤ n ∧ n ≤ 9223372036854775807) (hm : 1 ≤ many ∧ many ≤ 1000) (w : World) :
    Calls Tryz.prog 24 #[.agg #[.int .i64 4, .int .i64 o], .int .i64 n, .int .i64 many] w fun e w' => e = .returned (if pickI n 5 = 4 then valV 0 0 ⟨#[]⟩ (.slice none 0 0) else valV 4 (1 + pickI n many) ⟨#[]⟩ (.slice none 0 0)) ∧ Below w.heap.size w w' := by
  have hp := fun W => pick4_any n 5 hn.1 hn.2 (by decide) (by decide) W
  have hq := fun W => pick4_any n many hn.1 hn.2 (by omega) (by omega) W
  have hb := pickI_bd n many (by omega)
  have hS := VoSt.new w 4 o
  generalize pickI n 5 = r at hp ⊢
  generalize pickI n many = q at hq hb ⊢
  obtain ⟨hb1, hb2⟩ := hb
  have hw : IntKind.i64.wrap (1 + q) = 1 + q := IntWalk.i64_in _ (by omega)
  have hm1 : decide (many < 1) = false := decide_eq_false (by omega)
  have hm1' : ¬ many < 1 := by omega
  have HP := Lib.hid hp
  have HQ := Lib.hid hq
  have HS := Lib.hid hS
  clear hp hq hS hn
  unfold vtexts8 at HS
  by_cases h4 : r = 4
  · have d4 : (r == 4) = true := by rw [beq_iff_eq]; exact h4
    refine (show Calls Tryz.prog 24 #[.agg #[.int .i64 4, .int .i64 o], .int .i64 n, .int .i64 many] w (fun e w' => e = .returned (valV 0 0 ⟨#[]⟩ (.slice none 0 0)) ∧ Below w.heap.size w w') from ?_).mono (fun e w' h => ⟨by rw [if_pos h4]; exact h.1, h.2⟩)
    clear h4
    go_enter Tryz.func24, Tryz.ntmps24
    go_wp2_with fail
    generalize ((w.alloc (.cells #[.int .i64 4, .int .i64 o] 46)).alloc (.cells #[.int .i64 0, .int .i64 0, .string ⟨#[]⟩, .slice none 0 0] 37)).alloc (.cells #[.string ⟨#[]⟩, .string ⟨#[97]⟩, .string ⟨#[98, 99]⟩, .string ⟨#[195, 169, 116, 195, 169]⟩, .string ⟨#[97, 32, 98]⟩, .string ⟨#[122, 122, 32, 116, 111, 112]⟩, .string ⟨#[48]⟩, .string ⟨#[45, 55]⟩] 9) = W3 at HS ⊢
    refine (HP.out _).mono ?_
    rintro e W4 ⟨rfl, rfl⟩
    obtain ⟨⟨e0, e1, e2, e3⟩, g0, g1, g2, g3⟩ := HS.out.out.facts
    go_wp2_with fail
    obtain ⟨hV, hB⟩ := HS.out.fin 0 0 ⟨#[]⟩
    unfold putBox at hV hB
    generalize (((W3.setCell ⟨w.heap.size + 1, 0, none⟩ (.int .i64 0)).setCell ⟨w.heap.size + 1, 1, none⟩ (.int .i64 0)).setCell ⟨w.heap.size + 1, 2, none⟩ (.string ⟨#[]⟩)).setCell ⟨w.heap.size + 1, 3, none⟩ (.slice none 0 0) = W9 at hV hB ⊢
    obtain ⟨⟨x0, x1, x2, x3⟩, _⟩ := hV.facts
    exact bodyPost_ret (v := valV 0 0 ⟨#[]⟩ (.slice none 0 0)) (by simp [results, Tryz.results24, go_sem, x0, x1, x2, x3]) rfl ⟨rfl, hB⟩
  · have d4 : (r == 4) = false := by rw [beq_eq_false_iff_ne]; exact h4
    refine (show Calls Tryz.prog 24 #[.agg #[.int .i64 4, .int .i64 o], .int .i64 n, .int .i64 many] w (fun e w' => e = .returned (valV 4 (1 + q) ⟨#[]⟩ (.slice none 0 0)) ∧ Below w.heap.size w w') from ?_).mono (fun e w' h => ⟨by rw [if_neg h4]; exact h.1, h.2⟩)
    clear h4
    go_enter Tryz.func24, Tryz.ntmps24
    go_wp2_with fail
    generalize ((w.alloc (.cells #[.int .i64 4, .int .i64 o] 46)).alloc (.cells #[.int .i64 0, .int .i64 0, .string ⟨#[]⟩, .slice none 0 0] 37)).alloc (.cells #[.string ⟨#[]⟩, .string ⟨#[97]⟩, .string ⟨#[98, 99]⟩, .string ⟨#[195, 169, 116, 195, 169]⟩, .string ⟨#[97, 32, 98]⟩, .string ⟨#[122, 122, 32, 116, 111, 112]⟩, .string ⟨#[48]⟩, .string ⟨#[45, 55]⟩] 9) = W3 at HS ⊢
    refine (HP.out _).mono ?_
    rintro e W4 ⟨rfl, rfl⟩
    obtain ⟨⟨e0, e1, e2, e3⟩, g0, g1, g2, g3⟩ := HS.out.out.facts
    obtain ⟨t0, t1⟩ := HS.out.tb.facts
    have t2 : W3.drew.cell? ⟨w.heap.size, 0, none⟩ = some (.int .i64 4) := t0
    go_wp2_with fail
    refine wp_region_T (fun W : World => W.cell? ⟨w.heap.size, 0, none⟩ = some (.int .i64 4)) (fun j => j == 7) (by kernel_rfl) ?_
    refine wpAnyT_take (i := 0) (v := ?v0) rfl (by kernel_rfl) (by kernel_rfl) (by kernel_rfl) (by kernel_rfl) (by kernel_rfl) (fun _ _ _ h => h) (Or.inl ⟨by rfl, ?y0⟩) (t2) ?r0
    case y0 => (intro w hSw; (try dsimp only at hSw); go_simp; try with_reducible rfl)
    try simp only [Act.put, List.setIfInBounds_toArray, List.set_cons_zero, List.set_cons_succ, List.getElem_toArray, List.getElem_cons_succ, List.getElem_cons_zero]
    refine wpAnyT_take (i := 1) (v := ?v1) rfl (by kernel_rfl) (by kernel_rfl) (by kernel_rfl) (by kernel_rfl) (by kernel_rfl) (fun _ _ _ h => h) (Or.inl ⟨by rfl, ?y1⟩) (t2) ?r1
    case y1 => (intro w hSw; (try dsimp only at hSw); go_simp; try with_reducible rfl)
    try simp only [Act.put, List.setIfInBounds_toArray, List.set_cons_zero, List.set_cons_succ, List.getElem_toArray, List.getElem_cons_succ, List.getElem_cons_zero]
    refine wpAnyT_take (i := 2) (v := ?v2) rfl (by kernel_rfl) (by kernel_rfl) (by kernel_rfl) (by kernel_rfl) (by kernel_rfl) (fun _ _ _ h => h) (Or.inl ⟨by rfl, ?y2⟩) (t2) ?r2
    case y2 => (intro w hSw; (try dsimp only at hSw); go_simp; try with_reducible rfl)
    try simp only [Act.put, List.setIfInBounds_toArray, List.set_cons_zero, List.set_cons_succ, List.getElem_toArray, List.getElem_cons_succ, List.getElem_cons_zero]
    refine wpAnyT_take (i := 3) (v := ?v3) rfl (by kernel_rfl) (by kernel_rfl) (by kernel_rfl) (by kernel_rfl) (by kernel_rfl) (fun _ _ _ h => h) (Or.inl ⟨by rfl, ?y3⟩) (t2) ?r3
    case y3 => (intro w hSw; (try dsimp only at hSw); go_simp; try with_reducible rfl)
    try simp only [Act.put, List.setIfInBounds_toArray, List.set_cons_zero, List.set_cons_succ, List.getElem_toArray, List.getElem_cons_succ, List.getElem_cons_zero]
    refine wpAnyT_run (i := 4) (by kernel_rfl) rfl (fun K hK => ?_)
    go_simp
    (refine (HQ.out _).mono ?_; rintro e Y1 ⟨rfl, rfl⟩)
    go_wp2_with fail
    refine hK.out _ _ (fun _ => t2) ?_
    clear hK K
    try simp only [Act.put, List.setIfInBounds_toArray, List.set_cons_zero, List.set_cons_succ, List.getElem_toArray, List.getElem_cons_succ, List.getElem_cons_zero]
    refine wpAnyT_run (i := 5) (by kernel_rfl) rfl (fun K hK => ?_)
    go_simp
    refine hK.out _ _ (fun _ => t2) ?_
    clear hK K
    try simp only [Act.put, List.setIfInBounds_toArray, List.set_cons_zero, List.set_cons_succ, List.getElem_toArray, List.getElem_cons_succ, List.getElem_cons_zero]
    refine wpAnyT_run (i := 6) (by kernel_rfl) rfl (fun K hK => ?_)
    go_simp
    refine hK.out _ _ (fun _ => t2) ?_
    clear hK K
    try simp only [Act.put, List.setIfInBounds_toArray, List.set_cons_zero, List.set_cons_succ, List.getElem_toArray, List.getElem_cons_succ, List.getElem_cons_zero]
    refine wpAnyT_run (i := 7) (by kernel_rfl) rfl (fun K hK => ?_)
    go_simp
    refine hK.out _ _ (fun h => absurd h (by decide)) ?_
    clear hK K
    try simp only [Act.put, List.setIfInBounds_toArray, List.set_cons_zero, List.set_cons_succ, List.getElem_toArray, List.getElem_cons_succ, List.getElem_cons_zero]
    refine wpAnyT_done (by kernel_rfl) ?_ _
    obtain ⟨hV, hB⟩ := HS.out.fin 4 (1 + q) ⟨#[]⟩
    have hV' := hV.below (Below.refl _ _).drew
    have hB' := hB.drew
    unfold putBox at hV' hB'
    go_wp2_with fail
    obtain ⟨⟨x0, x1, x2, x3⟩, _⟩ := hV'.facts
    exact bodyPost_ret (v := valV 4 (1 + q) ⟨#[]⟩ (.slice none 0 0)) (by simp [results, Tryz.results24, go_sem, x0, x1, x2, x3]) rfl ⟨rfl, hB'⟩

/-- ValOf of a type that is no list's -/
theorem valOf4_flat (k o n many : Int) (hk : 1 ≤ k ∧ k ≤ 4) (hn : -9223372036854775808 ≤ n ∧ n ≤ 9223372036854775807) (hm : 1 ≤ many ∧ many ≤ 1000) (w : World) :
    Calls Tryz.prog 24 #[.agg #[.int .i64 k, .int .i64 o], .int .i64 n, .int .i64 many] w fun e w' => e = .returned (itOf (vFlat k n many)).v ∧ Below w.heap.size w w' := by
  have hc : k = 1 ∨ k = 2 ∨ k = 3 ∨ k = 4 := by omega
  rcases hc with rfl | rfl | rfl | rfl
  · exact valOf4_num o n many hn w
  · exact valOf4_text o n many hn w
  · refine (valOf4_ref o n many hn hm w).mono ?_
    rintro e w' ⟨rfl, h⟩
    refine ⟨?_, h⟩
    unfold vFlat
    rw [if_neg (show ¬ (3 : Int) = 1 by decide), if_neg (show ¬ (3 : Int) = 2 by decide)]
    split <;> rfl
  · refine (valOf4_weak o n many hn hm w).mono ?_
    rintro e w' ⟨rfl, h⟩
    refine ⟨?_, h⟩
    unfold vFlat
    rw [if_neg (show ¬ (4 : Int) = 1 by decide), if_neg (show ¬ (4 : Int) = 2 by decide)]
    split <;> rfl
end Go.Proofs.YtffoklhopmhjaaaGreatDoor

/- Cells of fields, and of values, one of which is turned; rows of one's own that are stored into. -/
set_option linter.unusedSimpArgs false
set_option linter.unusedVariables false
namespace Go.Proofs.YtffoklhopmhjaaaGreatDoor
open Go Go.RowKit Go.Shelf

theorem flCells_set : ∀ (fs : List Fl) (k : Nat) (h : k < fs.length) (j : Nat) (hj : j < 4) (u : Value) (f : Fl), f.cells = (fs[k].cells).set j u → (flCells fs).set (k * 4 + j) u = flCells (fs.set k f)
  | g :: fs, 0, h, j, hj, u, f, he => by
    show (g.cells ++ flCells fs).set (0 * 4 + j) u = f.cells ++ flCells fs
    rw [Nat.zero_mul, Nat.zero_add, List.set_append_left _ _ (by simpa using hj), he]; rfl
  | g :: fs, k + 1, h, j, hj, u, f, he => by
    show (g.cells ++ flCells fs).set ((k + 1) * 4 + j) u = g.cells ++ flCells (fs.set k f)
    rw [List.set_append_right _ _ (by simp; omega), show (k + 1) * 4 + j - g.cells.length = k * 4 + j from by simp; omega, flCells_set fs k (by simpa using h) j hj u f he]
theorem itsCells_set : ∀ (ys : List It) (k : Nat) (h : k < ys.length) (j : Nat) (hj : j < 4) (u : Value) (y : It), y.cells = (ys[k].cells).set j u → (itsCells ys).set (k * 4 + j) u = itsCells (ys.set k y)
  | g :: ys, 0, h, j, hj, u, y, he => by
    show (g.cells ++ itsCells ys).set (0 * 4 + j) u = y.cells ++ itsCells ys
    rw [Nat.zero_mul, Nat.zero_add, List.set_append_left _ _ (by simpa using hj), he]; rfl
  | g :: ys, k + 1, h, j, hj, u, y, he => by
    show (g.cells ++ itsCells ys).set ((k + 1) * 4 + j) u = g.cells ++ itsCells (ys.set k y)
    rw [List.set_append_right _ _ (by simp; omega), show (k + 1) * 4 + j - g.cells.length = k * 4 + j from by simp; omega, itsCells_set ys k (by simpa using h) j hj u y he]
/-- all four cells of a value in a row -/
theorem itsCells_put (ys : List It) (k : Nat) (h : k < ys.length) (y : It) : ((((itsCells ys).set (k * 4) (.int .i64 y.k)).set (k * 4 + 1) (.int .i64 y.n)).set (k * 4 + 2) (.string y.s)).set (k * 4 + 3) (.slice y.p y.m y.c) = itsCells (ys.set k y) := by
  have h0 := itsCells_set ys k h 0 (by decide) (.int .i64 y.k) ⟨y.k, ys[k].n, ys[k].s, ys[k].p, ys[k].m, ys[k].c⟩ rfl
  have h1 := itsCells_set (ys.set k ⟨y.k, ys[k].n, ys[k].s, ys[k].p, ys[k].m, ys[k].c⟩) k (by simpa using h) 1 (by decide) (.int .i64 y.n) ⟨y.k, y.n, ys[k].s, ys[k].p, ys[k].m, ys[k].c⟩ (by rw [List.getElem_set_self]; rfl)
  rw [List.set_set] at h1
  have h2 := itsCells_set (ys.set k ⟨y.k, y.n, ys[k].s, ys[k].p, ys[k].m, ys[k].c⟩) k (by simpa using h) 2 (by decide) (.string y.s) ⟨y.k, y.n, y.s, ys[k].p, ys[k].m, ys[k].c⟩ (by rw [List.getElem_set_self]; rfl)
  rw [List.set_set] at h2
  have h3 := itsCells_set (ys.set k ⟨y.k, y.n, y.s, ys[k].p, ys[k].m, ys[k].c⟩) k (by simpa using h) 3 (by decide) (.slice y.p y.m y.c) y (by rw [List.getElem_set_self]; rfl)
  rw [List.set_set] at h3
  rw [Nat.add_zero] at h0
  rw [h0, h1, h2, h3]

/-- a row of fields of one's own -/
structure FOwn (base : Nat) (W : World) (g n c : Nat) (fs : List Fl) : Prop where
  len : n = fs.length
  row : W.ownsRow base 48 4 (.slice (some ⟨g, 0, none⟩) n c) n (flCells fs)
theorem FOwn.lies {base : Nat} {W : World} {g n c : Nat} {fs : List Fl} (h : FOwn base W g n c fs) : FLies W (some ⟨g, 0, none⟩) n c fs := by
  obtain ⟨rfl, h2⟩ := h
  exact ⟨rfl, Lies.own h2⟩
theorem FOwn.lt {base : Nat} {W : World} {g n c : Nat} {fs : List Fl} (h : FOwn base W g n c fs) : base ≤ g ∧ g < W.heap.size := h.row.lt g rfl
theorem FOwn.below {base : Nat} {W W' : World} {g n c : Nat} {fs : List Fl} (h : FOwn base W g n c fs) (hb : Below W.heap.size W W') : FOwn base W' g n c fs := ⟨h.len, owned_below h.row hb⟩
theorem FOwn.cell {base : Nat} {W : World} {g n c : Nat} {fs : List Fl} (h : FOwn base W g n c fs) (k : Nat) (hk : k < fs.length) (j : Nat) (v : Value) (hv : (fs[k].cells)[j]? = some v) : W.cell? ⟨g, k * 4 + j, none⟩ = some v :=
  owned_cell h.row (k * 4 + j) v (flCells_at fs k hk j v hv)
theorem FOwn.free {base : Nat} {W : World} {g n c : Nat} {fs : List Fl} (h : FOwn base W g n c fs) (j : Nat) : W.frozen? ⟨g, j, none⟩ = false := h.row.frozenAt j
theorem FOwn.set {base : Nat} {W : World} {g n c : Nat} {fs : List Fl} (h : FOwn base W g n c fs) (k : Nat) (hk : k < fs.length) (j : Nat) (hj : j < 4) (u : Value) (f : Fl) (hf : f.cells = (fs[k].cells).set j u) :
    FOwn base (W.setCell ⟨g, k * 4 + j, none⟩ u) g n c (fs.set k f) := by
  obtain ⟨e, h2⟩ := h
  have h3 := (h2.stored (k * 4 + j) u).1
  rw [flCells_set fs k hk j hj u f hf] at h3
  exact ⟨by rw [List.length_set]; exact e, h3⟩
/-- a row of values of one's own -/
structure VOwn (base : Nat) (W : World) (g n c : Nat) (ys : List It) : Prop where
  len : n = ys.length
  row : W.ownsRow base 37 4 (.slice (some ⟨g, 0, none⟩) n c) n (itsCells ys)
theorem VOwn.lt {base : Nat} {W : World} {g n c : Nat} {ys : List It} (h : VOwn base W g n c ys) : base ≤ g ∧ g < W.heap.size := h.row.lt g rfl
theorem VOwn.below {base : Nat} {W W' : World} {g n c : Nat} {ys : List It} (h : VOwn base W g n c ys) (hb : Below W.heap.size W W') : VOwn base W' g n c ys := ⟨h.len, owned_below h.row hb⟩
theorem VOwn.free {base : Nat} {W : World} {g n c : Nat} {ys : List It} (h : VOwn base W g n c ys) (j : Nat) : W.frozen? ⟨g, j, none⟩ = false := h.row.frozenAt j
theorem VOwn.put {base : Nat} {W : World} {g n c : Nat} {ys : List It} (h : VOwn base W g n c ys) (k : Nat) (hk : k < ys.length) (y : It) :
    VOwn base ((((W.setCell ⟨g, k * 4, none⟩ (.int .i64 y.k)).setCell ⟨g, k * 4 + 1, none⟩ (.int .i64 y.n)).setCell ⟨g, k * 4 + 2, none⟩ (.string y.s)).setCell ⟨g, k * 4 + 3, none⟩ (.slice y.p y.m y.c)) g n c (ys.set k y) := by
  obtain ⟨e, h2⟩ := h
  have h3 := ((((h2.stored (k * 4) (.int .i64 y.k)).1.stored (k * 4 + 1) (.int .i64 y.n)).1.stored (k * 4 + 2) (.string y.s)).1.stored (k * 4 + 3) (.slice y.p y.m y.c)).1
  rw [itsCells_put ys k hk y] at h3
  exact ⟨by rw [List.length_set]; exact e, h3⟩

/-- what ClassOnce tells of a class with one thing turned -/
theorem once_twice {nm : ByteArray} {fs : List Fl} (hok : (Cl.mk nm fs).ok = true) (k : Nat) (hk : k < fs.length) : (Cl.mk nm (fs ++ [⟨fs[k].nm, 1, 0, false⟩])).ok = false := twice_bad nm (good_of_ok hok) k hk _ rfl
theorem once_odd {nm : ByteArray} {fs : List Fl} (hok : (Cl.mk nm fs).ok = true) (hs : ∀ f ∈ fs, f.nm.size ≤ 8) (k : Nat) (hk : k < fs.length) (b : UInt8) :
    (Cl.mk nm (fs.set k { fs[k] with nm := fs[k].nm ++ ⟨#[b]⟩ })).ok = (inNm b && (fieldAt fs (fs[k].nm ++ ⟨#[b]⟩)).isNone) := by
  have hp := Cl.ok_parts hok
  have hn : nmOk nm.data.toList = true := by
    unfold Cl.ok at hok
    rw [Bool.and_eq_true, Bool.and_eq_true] at hok
    exact hok.1.1
  rw [other_name hn (good_of_ok hok) hp.2.1 k hk _ (fun e => by
    have h2 : (fs[k].nm ++ (⟨#[b]⟩ : ByteArray)).size = fs[k].nm.size := congrArg ByteArray.size e
    rw [ByteArray.size_append] at h2
    have h3 : (⟨#[b]⟩ : ByteArray).size = 1 := rfl
    omega)]
  congr 1
  obtain ⟨_, _, h1, h2, _⟩ := Fl.ok_parts (hp.2.2 k hk).1
  have h4 := (hp.2.2 k hk).1
  have hsz := hs _ (List.getElem_mem hk)
  unfold Fl.ok at h4 ⊢
  rw [Bool.and_eq_true, Bool.and_eq_true] at h4
  show (nmOk (fs[k].nm ++ (⟨#[b]⟩ : ByteArray)).data.toList && rtB fs[k].k fs[k].o && (!fs[k].ix || mayIx fs[k].k)) = inNm b
  have e : (fs[k].nm ++ (⟨#[b]⟩ : ByteArray)).data.toList = fs[k].nm.data.toList ++ [b] := by simp [ByteArray.data_append]
  rw [h4.1.2, h4.2, Bool.and_true, Bool.and_true, e]
  exact nmOk_snoc (show nmOk fs[k].nm.data.toList = true from h1) (show fs[k].nm.data.toList.length ≤ 19 by rw [nm_size]; omega) b
theorem once_wide (nm : ByteArray) {fs : List Fl} (k : Nat) (hk : k < fs.length) : (Cl.mk nm (fs.set k { fs[k] with k := 5, o := 1, ix := true })).ok = false := by
  refine bad_field nm k (by simpa using hk) ?_
  rw [List.getElem_set_self]
  show (nmOk _ && rtB 5 1 && (!true || mayIx 5)) = false
  rw [show (!true || mayIx 5) = false from rfl, Bool.and_false]
theorem once_flat {nm : ByteArray} {fs : List Fl} (hok : (Cl.mk nm fs).ok = true) (k : Nat) (hk : k < fs.length) : (Cl.mk nm (fs.set k { fs[k] with k := 5, o := 1, ix := false })).ok = true := by
  have hp := Cl.ok_parts hok
  have hn : nmOk nm.data.toList = true := by
    unfold Cl.ok at hok
    rw [Bool.and_eq_true, Bool.and_eq_true] at hok
    exact hok.1.1
  refine same_name hn (good_of_ok hok) hp.2.1 k hk _ ?_ rfl
  obtain ⟨_, _, h1, h2, _⟩ := Fl.ok_parts (hp.2.2 k hk).1
  show (nmOk fs[k].nm.data.toList && rtB 5 1 && (!false || mayIx 5)) = true
  rw [h1]; rfl
theorem once_place {nm : ByteArray} {fs : List Fl} (hok : (Cl.mk nm fs).ok = true) (k : Nat) (hk : k < fs.length) : fieldAt fs fs[k].nm = some k := ((Cl.ok_parts hok).2.2 k hk).2
theorem clsOf_names (x : CRaw) : ∀ f ∈ (clsOf x).fs, f.nm.size ≤ 8 := flds_name_len x.l 6
end Go.Proofs.YtffoklhopmhjaaaGreatDoor

/- morainelaw04.ValOf: lists. -/
set_option linter.unusedSimpArgs false
set_option linter.unusedVariables false
namespace Go.Proofs.YtffoklhopmhjaaaGreatDoor
open Go Go.RowKit Go.Shelf

theorem infoVal4 : (Tryz.prog.info? 37).map (fun i => (i.zero, i.size, i.bytes)) = some (some (.agg #[.int .i64 0, .int .i64 0, .string ⟨#[]⟩, .slice none 0 0]), 4, 56) := by kernel_rfl
theorem its_app (xs ys : List It) : itsCells (xs ++ ys) = itsCells xs ++ itsCells ys := by
  induction xs with
  | nil => rfl
  | cons x xs ih => show x.cells ++ itsCells (xs ++ ys) = (x.cells ++ itsCells xs) ++ itsCells ys; rw [ih, List.append_assoc]
theorem lies_over {W : World} {v : Value} {n size : Nat} {xs : List Value} (h : Lies W v n size xs) (q : Addr) (hne : ∀ a m c, v = .slice (some a) m c → a.block ≠ q.block) (u : Value) : Lies (W.setCell q u) v n size xs := by
  obtain ⟨h1, h2 | ⟨b, off, c, hv, hlt, hc⟩⟩ := h
  · exact ⟨h1, .inl h2⟩
  · refine ⟨h1, .inr ⟨b, off, c, hv, by simpa using hlt, fun j u' hu => ?_⟩⟩
    rw [World.cell?_of_block (Below.heap_setCell W q u b (hne _ _ _ hv))]
    exact hc j u' hu
theorem vat_items {W : World} {p : Option Addr} {c : Nat} {us : List V} (hl : us.length ≤ 12) (hf : ∀ u ∈ us, u.fine ∧ u.l = []) (hL : Lies W (.slice p us.length c) us.length 4 (itsCells (us.map itOf))) : VAt 1 W (.mk 5 0 ⟨#[]⟩ us) ⟨5, 0, ⟨#[]⟩, p, us.length, c⟩ := by
  refine ⟨⟨by show (_ : Int) ≤ 5 ∧ (5 : Int) ≤ _; decide, by show (_ : Int) ≤ 0 ∧ (0 : Int) ≤ _; decide, by show (⟨#[]⟩ : ByteArray).size ≤ _; decide, by show us.length ≤ _; omega⟩, rfl, rfl, rfl, us.map itOf, by show (us.map itOf).length = us.length; simp, ?_, fun i h h' => ?_⟩
  · rw [List.length_map]; exact hL
  · rw [List.getElem_map]
    have h2 : i < us.length := h'
    exact vat_none 0 W (hf _ (List.getElem_mem h2)).1 (hf _ (List.getElem_mem h2)).2
/-- what ValOf answers -/
def valOf4Post (k o n many : Int) (w : World) (e : Ending) (w' : World) : Prop :=
  ∃ y : It, e = .returned y.v ∧ VAt 1 w' (vOf k o n many) y ∧ Below w.heap.size w w' ∧ ∀ a, y.p = some a → w.heap.size ≤ a.block ∧ a.block < w'.heap.size
structure VlSt (w : World) (o : Int) (us : List V) (v : Value) (W : World) : Prop where
  tb : TBox W w.heap.size 5 o
  out : VBox W (w.heap.size + 1) 0 0 ⟨#[]⟩ (.slice none 0 0)
  box : VBox W (w.heap.size + 3) 5 0 ⟨#[]⟩ v
  own : W.ownsRow (w.heap.size + 4) 37 4 v us.length (itsCells (us.map itOf))
  below : Below w.heap.size w W
section
variable {w : World} {o : Int} {us : List V} {v : Value} {W W' : World}
theorem VlSt.go (h : VlSt w o us v W) (hb : Below W.heap.size W W') : VlSt w o us v W' := ⟨h.tb.below hb, h.out.below hb, h.box.below hb, owned_below h.own hb, h.below.trans (hb.mono h.below.size)⟩
theorem VlSt.next {v' : Value} {u : V} (h : VlSt w o us v W) (hg : W.grownBy W' v.ownBlock)
    (hown : W'.ownsRow (w.heap.size + 4) 37 4 v' (us.length + 1) (itsCells (us.map itOf) ++ [.int .i64 u.k, .int .i64 u.n, .string u.s, .slice none 0 0])) : VlSt w o (us ++ [u]) v' (W'.setCell ⟨w.heap.size + 3, 3, none⟩ v') := by
  obtain ⟨h1, h2, h3, h4, h5⟩ := h
  have hgo : ∀ g, v.ownBlock = some g → w.heap.size + 4 ≤ g := fun g hg' => (h4.lt g hg').1
  have k1 : TBox W' w.heap.size 5 o := (hg.block _ h1.lt (fun e => by have := hgo _ e.symm; omega)).trans h1
  have k2 : VBox W' (w.heap.size + 1) 0 0 ⟨#[]⟩ (.slice none 0 0) := (hg.block _ h2.lt (fun e => by have := hgo _ e.symm; omega)).trans h2
  have k3 : VBox W' (w.heap.size + 3) 5 0 ⟨#[]⟩ v := (hg.block _ h3.lt (fun e => by have := hgo _ e.symm; omega)).trans h3
  have k5 : Below w.heap.size w W' := h5.grown hg h5.size (fun g hg' => by have := hgo g hg'; omega)
  refine ⟨k1.past _ (by show w.heap.size ≠ w.heap.size + 3; omega) _, k2.past _ (by show w.heap.size + 1 ≠ w.heap.size + 3; omega) _, k3.set3 v', ?_, k5.setCell (p := ⟨w.heap.size + 3, 3, none⟩) (by show w.heap.size ≤ w.heap.size + 3; omega) _⟩
  have e : itsCells ((us ++ [u]).map itOf) = itsCells (us.map itOf) ++ [.int .i64 u.k, .int .i64 u.n, .string u.s, .slice none 0 0] := by
    rw [List.map_append, its_app]; rfl
  rw [e, List.length_append, List.length_singleton]
  refine hown.kept (row := some (w.heap.size + 3)) ⟨rfl, rfl, rfl, by simp, fun k hk hne => Below.heap_setCell W' ⟨w.heap.size + 3, 3, none⟩ v' k (fun e => hne (by rw [e]))⟩ ?_
  rcases hown.2 with ⟨rfl, _⟩ | ⟨g, cap, cur, rfl, hg, _⟩
  · exact .inl rfl
  · exact .inr (fun e => by have e2 : g = w.heap.size + 3 := Option.some.inj e; omega)
end
theorem tdiv4_bd {n : Int} (hn : -9223372036854775808 ≤ n ∧ n ≤ 9223372036854775807) : -2305843009213693952 ≤ n.tdiv 4 ∧ n.tdiv 4 ≤ 2305843009213693951 := by
  rcases Int.le_total 0 n with h | h
  · rw [Int.tdiv_eq_ediv_of_nonneg h]; omega
  · have e : n.tdiv 4 = -((-n) / 4) := by rw [← Int.tdiv_eq_ediv_of_nonneg (by omega : 0 ≤ -n), Int.neg_tdiv]; omega
    rw [e]; omega

set_option maxHeartbeats 8000000 in
set_option maxRecDepth 100000 in
theorem valOf4_list (o n many : Int) (ho : 1 ≤ o ∧ o ≤ 4) (hn : -9223372036854775808 ≤ n ∧ n ≤ 9223372036854775807) (hm : 1 ≤ many ∧ many ≤ 1000) (w : World) :
    Calls Tryz.prog 24 #[.agg #[.int .i64 5, .int .i64 o], .int .i64 n, .int .i64 many] w (valOf4Post 5 o n many w) := by
  obtain ⟨i0, hi, hz0, hz1, hz2⟩ := info_parts infoVal4
  have hp := fun W => pick4_any n 4 hn.1 hn.2 (by decide) (by decide) W
  have hb := pickI_bd n 4 (by decide)
  have hd4 := tdiv4_bd hn
  have hof : vOf 5 o n many = .mk 5 0 ⟨#[]⟩ (vItems o n many (pickI n 4).toNat) := by unfold vOf; rw [if_pos rfl]
  have hone : ∀ (i : Nat) (hi : i < 4) W, Calls Tryz.prog 24 #[.agg #[.int .i64 o, .int .i64 0], .int .i64 (n.tdiv 4 + (i : Int)), .int .i64 many] W fun e w' => e = .returned (itOf (vFlat o (n.tdiv 4 + (i : Int)) many)).v ∧ Below W.heap.size W w' := fun i hi W =>
    valOf4_flat o 0 _ many ho (by omega) hm W
  have hsucc := vItems_succ o n many
  have hlen := vItems_len o n many
  have hflat : ∀ m, ∀ u ∈ vItems o n many m, u.fine ∧ u.l = [] := fun m u hu => by
    unfold vItems at hu
    obtain ⟨j, _, rfl⟩ := List.mem_map.1 hu
    exact ⟨vFlat_fine ho _ hm, vFlat_l _ _ _⟩
  have hS : VlSt w o (vItems o n many 0) (.slice none 0 0) ((((w.alloc (.cells #[.int .i64 5, .int .i64 o] 46)).alloc (.cells #[.int .i64 0, .int .i64 0, .string ⟨#[]⟩, .slice none 0 0] 37)).alloc (.cells #[.string ⟨#[]⟩, .string ⟨#[97]⟩, .string ⟨#[98, 99]⟩, .string ⟨#[195, 169, 116, 195, 169]⟩, .string ⟨#[97, 32, 98]⟩, .string ⟨#[122, 122, 32, 116, 111, 112]⟩, .string ⟨#[48]⟩, .string ⟨#[45, 55]⟩] 9)).alloc (.cells #[.int .i64 5, .int .i64 0, .string ⟨#[]⟩, .slice none 0 0] 37)) := by
    have h := VoSt.new w 5 o
    unfold vtexts8 at h
    refine ⟨h.tb.alloc _, h.out.alloc _, ?_, World.ownsRow_nil _ _ _ _, h.below.alloc h.below.size _⟩
    have h2 := VBox.new (((w.alloc (.cells #[.int .i64 5, .int .i64 o] 46)).alloc (.cells #[.int .i64 0, .int .i64 0, .string ⟨#[]⟩, .slice none 0 0] 37)).alloc (.cells #[.string ⟨#[]⟩, .string ⟨#[97]⟩, .string ⟨#[98, 99]⟩, .string ⟨#[195, 169, 116, 195, 169]⟩, .string ⟨#[97, 32, 98]⟩, .string ⟨#[122, 122, 32, 116, 111, 112]⟩, .string ⟨#[48]⟩, .string ⟨#[45, 55]⟩] 9)) 5 0 ⟨#[]⟩ (.slice none 0 0)
    rwa [World.size_alloc, World.size_alloc, World.size_alloc] at h2
  rw [show valOf4Post 5 o n many w = fun e w' => ∃ y : It, e = .returned y.v ∧ VAt 1 w' (.mk 5 0 ⟨#[]⟩ (vItems o n many (pickI n 4).toNat)) y ∧ Below w.heap.size w w' ∧ ∀ a, y.p = some a → w.heap.size ≤ a.block ∧ a.block < w'.heap.size from by funext e w'; unfold valOf4Post; rw [hof]]
  clear hof
  obtain ⟨m, hm4⟩ : ∃ m : Nat, pickI n 4 = (m : Int) := ⟨(pickI n 4).toNat, by omega⟩
  rw [hm4] at hp hb ⊢
  rw [Int.toNat_natCast]
  have hml : m < 4 := by omega
  have hwd : IntKind.i64.wrap (n.tdiv 4) = n.tdiv 4 := IntWalk.i64_in _ (by omega)
  have hwi : ∀ i : Nat, i < 4 → IntKind.i64.wrap (n.tdiv 4 + (i : Int)) = n.tdiv 4 + (i : Int) := fun i h => IntWalk.i64_in _ (by omega)
  have HP := Lib.hid hp
  have HONE := Lib.hid hone
  have HSUCC := Lib.hid hsucc
  have HLEN := Lib.hid hlen
  have HFLAT := Lib.hid hflat
  have HS := Lib.hid hS
  have HWI := Lib.hid hwi
  clear hp hone hsucc hlen hflat hS hwi hb hm4 hd4 hn hm
  go_enter Tryz.func24, Tryz.ntmps24
  go_wp2_with fail
  generalize (((w.alloc (.cells #[.int .i64 5, .int .i64 o] 46)).alloc (.cells #[.int .i64 0, .int .i64 0, .string ⟨#[]⟩, .slice none 0 0] 37)).alloc (.cells #[.string ⟨#[]⟩, .string ⟨#[97]⟩, .string ⟨#[98, 99]⟩, .string ⟨#[195, 169, 116, 195, 169]⟩, .string ⟨#[97, 32, 98]⟩, .string ⟨#[122, 122, 32, 116, 111, 112]⟩, .string ⟨#[48]⟩, .string ⟨#[45, 55]⟩] 9)).alloc (.cells #[.int .i64 5, .int .i64 0, .string ⟨#[]⟩, .slice none 0 0] 37) = W3 at HS ⊢
  go_loopw [9] (fun s wr => ∃ (i : Nat) (v : Value), i ≤ m ∧ s = .int .i64 (i : Int) ∧ VlSt w o (vItems o n many i) v wr) (fun s _ => 4 - (intOf s).toNat)
  case atStart => exact ⟨0, _, by omega, rfl, HS.out⟩
  case round =>
    obtain ⟨i, v, him, rfl, hst⟩ := hrel
    clear HS
    obtain ⟨vp, vc, hv⟩ : ∃ vp vc, v = .slice vp i vc := by
      have hown := hst.own
      rw [HLEN.out] at hown
      rcases hown.2 with ⟨h, h'⟩ | ⟨g, cap, _, h, _⟩
      · exact ⟨none, 0, by rw [h, h']⟩
      · exact ⟨_, _, h⟩
    subst hv
    go_wp2_with fail
    refine (HP.out _).mono ?_
    rintro e W4 ⟨rfl, rfl⟩
    obtain ⟨tk0, tk1⟩ := hst.tb.facts
    obtain ⟨⟨c0, c1, c2, c3⟩, f0, f1, f2, f3⟩ := hst.box.facts
    obtain ⟨⟨e0, e1, e2, e3⟩, g0, g1, g2, g3⟩ := hst.out.facts
    have hz := hst.box.lt
    have ST := Lib.hid hst
    clear hst
    by_cases hlt : i < m
    · have d1 : decide ((i : Int) < (m : Int)) = true := decide_eq_true (by omega)
      have d1' : (i : Int) < (m : Int) := by omega
      have hw1 := HWI.out i (by omega)
      have hcall := HONE.out i (by omega)
      have hsucc := HSUCC.out i
      generalize vFlat o (n.tdiv 4 + (i : Int)) many = u at hcall hsucc
      obtain ⟨uk, un, us, ul⟩ := u
      simp only [itOf, V.k, V.n, V.s, It.v] at hcall
      have hsw : ∀ W W' : World, (W.cell? ⟨w.heap.size, 1, none⟩ = some (.int .i64 o) ∧ W.cell? ⟨w.heap.size + 1 + 1 + 1, 3, none⟩ = some (.slice vp i vc) ∧ w.heap.size + 1 + 1 + 1 < W.heap.size) → Below W.heap.size W W' → (W'.cell? ⟨w.heap.size, 1, none⟩ = some (.int .i64 o) ∧ W'.cell? ⟨w.heap.size + 1 + 1 + 1, 3, none⟩ = some (.slice vp i vc) ∧ w.heap.size + 1 + 1 + 1 < W'.heap.size) := by
        rintro W W' ⟨a1, a2, z1⟩ hB
        have hs := hB.size
        exact ⟨(hB.cell (p := ⟨w.heap.size, 1, none⟩) (by show w.heap.size < _; omega)).trans a1, (hB.cell (p := ⟨w.heap.size + 1 + 1 + 1, 3, none⟩) z1).trans a2, by omega⟩
      have hS1 := hsw wr wr.drew ⟨tk1, c3, hz⟩ (Below.refl _ _).drew
      have hgo : ∀ g, (Value.slice vp i vc).ownBlock = some g → w.heap.size + 4 ≤ g := fun g hg' => (ST.out.own.lt g hg').1
      have hvg : ∀ W1 W2, Below wr.drew.heap.size wr.drew W1 → (W1.alloc (.cells #[.int .i64 uk, .int .i64 un, .string us, .slice none 0 0] 37)).grownBy W2 (Value.slice vp i vc).ownBlock → W2.cell? ⟨w.heap.size + 1 + 1 + 1, 3, none⟩ = some (.slice vp i vc) ∧ W2.frozen? ⟨w.heap.size + 1 + 1 + 1, 3, none⟩ = false := fun W1 W2 h hg => by
        have h0 := (((ST.out.go (Below.refl _ _).drew).go h).go ((Below.refl _ W1).alloc (Nat.le_refl _) (.cells #[.int .i64 uk, .int .i64 un, .string us, .slice none 0 0] 37))).box
        have : VBox W2 (w.heap.size + 3) 5 0 ⟨#[]⟩ (.slice vp i vc) := (hg.block _ h0.lt (fun e => by have := hgo _ e.symm; omega)).trans h0
        exact ⟨this.facts.1.2.2.2, this.facts.2.2.2.2⟩
      have howd : ∀ W1, Below wr.drew.heap.size wr.drew W1 → (W1.alloc (.cells #[.int .i64 uk, .int .i64 un, .string us, .slice none 0 0] 37)).ownsRow (w.heap.size + 4) 37 4 (.slice vp i vc) i (itsCells ((vItems o n many i).map itOf)) := fun W1 h => by
        have h4 := ((ST.out.go (Below.refl _ _).drew).go h).own
        rw [HLEN.out] at h4
        exact h4.alloc _
      have hnext : ∀ W1 W2 (v' : Value), Below wr.drew.heap.size wr.drew W1 → (W1.alloc (.cells #[.int .i64 uk, .int .i64 un, .string us, .slice none 0 0] 37)).grownBy W2 (Value.slice vp i vc).ownBlock → W2.ownsRow (w.heap.size + 4) 37 4 v' (i + 1) (itsCells ((vItems o n many i).map itOf) ++ [.int .i64 uk, .int .i64 un, .string us, .slice none 0 0]) → VlSt w o (vItems o n many (i + 1)) v' (W2.setCell ⟨w.heap.size + 3, 3, none⟩ v') := fun W1 W2 v' h1 h2 h3 => by
        rw [hsucc]
        have h4 := ((ST.out.go (Below.refl _ _).drew).go h1).go ((Below.refl _ W1).alloc (Nat.le_refl _) (.cells #[.int .i64 uk, .int .i64 un, .string us, .slice none 0 0] 37))
        exact h4.next (u := .mk uk un us ul) h2 (by rw [HLEN.out]; exact h3)
      have hzd : wr.drew.heap.size = wr.heap.size := rfl
      have HSW := Lib.hid hsw
      have HVG := Lib.hid hvg
      have HOWD := Lib.hid howd
      have HNEXT := Lib.hid hnext
      have HC := Lib.hid hcall
      clear hsw hvg hgo howd hnext hcall hsucc e0 e1 e2 e3 g0 g1 g2 g3 f0 f1 f2 c0 c1 c2
      go_wp2_with fail
      refine wp_region_T (fun W : World => W.cell? ⟨w.heap.size, 1, none⟩ = some (.int .i64 o) ∧ W.cell? ⟨w.heap.size + 1 + 1 + 1, 3, none⟩ = some (.slice vp i vc) ∧ w.heap.size + 1 + 1 + 1 < W.heap.size) (fun j => j == 12 || j == 13 || j == 14) (by kernel_rfl) ?_
      refine wpAnyT_take (i := 0) (v := ?v0) rfl (by kernel_rfl) (by kernel_rfl) (by kernel_rfl) (by kernel_rfl) (by kernel_rfl) (fun _ _ _ h => h) (Or.inl ⟨by rfl, ?y0⟩) (hS1) ?r0
      case y0 => (intro w hSw; (try dsimp only at hSw); go_simp; try with_reducible rfl)
      try simp only [Act.put, List.setIfInBounds_toArray, List.set_cons_zero, List.set_cons_succ, List.getElem_toArray, List.getElem_cons_succ, List.getElem_cons_zero]
      refine wpAnyT_take (i := 1) (v := ?v1) rfl (by kernel_rfl) (by kernel_rfl) (by kernel_rfl) (by kernel_rfl) (by kernel_rfl) (fun _ _ _ h => h) (Or.inl ⟨by rfl, ?y1⟩) (hS1) ?r1
      case y1 => (intro w hSw; (try dsimp only at hSw); go_simp; try with_reducible rfl)
      try simp only [Act.put, List.setIfInBounds_toArray, List.set_cons_zero, List.set_cons_succ, List.getElem_toArray, List.getElem_cons_succ, List.getElem_cons_zero]
      refine wpAnyT_take (i := 2) (v := ?v2) rfl (by kernel_rfl) (by kernel_rfl) (by kernel_rfl) (by kernel_rfl) (by kernel_rfl) (fun _ _ _ h => h) (Or.inl ⟨by rfl, ?y2⟩) (hS1) ?r2
      case y2 => (intro w hSw; (try dsimp only at hSw); go_simp; try with_reducible rfl)
      try simp only [Act.put, List.setIfInBounds_toArray, List.set_cons_zero, List.set_cons_succ, List.getElem_toArray, List.getElem_cons_succ, List.getElem_cons_zero]
      refine wpAnyT_take (i := 3) (v := ?v3) rfl (by kernel_rfl) (by kernel_rfl) (by kernel_rfl) (by kernel_rfl) (by kernel_rfl) (fun _ _ _ h => h) (Or.inl ⟨by rfl, ?y3⟩) (hS1) ?r3
      case y3 => (intro w hSw; (try dsimp only at hSw); go_simp; try with_reducible rfl)
      try simp only [Act.put, List.setIfInBounds_toArray, List.set_cons_zero, List.set_cons_succ, List.getElem_toArray, List.getElem_cons_succ, List.getElem_cons_zero]
      refine wpAnyT_take (i := 4) (v := ?v4) rfl (by kernel_rfl) (by kernel_rfl) (by kernel_rfl) (by kernel_rfl) (by kernel_rfl) (fun _ _ _ h => h) (Or.inl ⟨by rfl, ?y4⟩) (hS1) ?r4
      case y4 => (intro w hSw; (try dsimp only at hSw); go_simp; try with_reducible rfl)
      try simp only [Act.put, List.setIfInBounds_toArray, List.set_cons_zero, List.set_cons_succ, List.getElem_toArray, List.getElem_cons_succ, List.getElem_cons_zero]
      refine wpAnyT_take (i := 5) (v := ?v5) rfl (by kernel_rfl) (by kernel_rfl) (by kernel_rfl) (by kernel_rfl) (by kernel_rfl) (fun _ _ _ h => h) (Or.inl ⟨by rfl, ?y5⟩) (hS1) ?r5
      case y5 => (intro w hSw; (try dsimp only at hSw); go_simp; try with_reducible rfl)
      try simp only [Act.put, List.setIfInBounds_toArray, List.set_cons_zero, List.set_cons_succ, List.getElem_toArray, List.getElem_cons_succ, List.getElem_cons_zero]
      refine wpAnyT_take (i := 6) (v := ?v6) rfl (by kernel_rfl) (by kernel_rfl) (by kernel_rfl) (by kernel_rfl) (by kernel_rfl) (fun _ _ _ h => h) (Or.inl ⟨by rfl, ?y6⟩) (hS1) ?r6
      case y6 => (intro w hSw; (try dsimp only at hSw); go_simp; try with_reducible rfl)
      try simp only [Act.put, List.setIfInBounds_toArray, List.set_cons_zero, List.set_cons_succ, List.getElem_toArray, List.getElem_cons_succ, List.getElem_cons_zero]
      refine wpAnyT_take (i := 7) (v := ?v7) rfl (by kernel_rfl) (by kernel_rfl) (by kernel_rfl) (by kernel_rfl) (by kernel_rfl) (fun _ _ _ h => h) (Or.inl ⟨by rfl, ?y7⟩) (hS1) ?r7
      case y7 => (intro w hSw; (try dsimp only at hSw); go_simp; try with_reducible rfl)
      try simp only [Act.put, List.setIfInBounds_toArray, List.set_cons_zero, List.set_cons_succ, List.getElem_toArray, List.getElem_cons_succ, List.getElem_cons_zero]
      refine wpAnyT_take (i := 8) (v := ?v8) rfl (by kernel_rfl) (by kernel_rfl) (by kernel_rfl) (by kernel_rfl) (by kernel_rfl) (fun _ _ _ h => h) (Or.inl ⟨by rfl, ?y8⟩) (hS1) ?r8
      case y8 => (intro w hSw; (try dsimp only at hSw); go_simp; try with_reducible rfl)
      try simp only [Act.put, List.setIfInBounds_toArray, List.set_cons_zero, List.set_cons_succ, List.getElem_toArray, List.getElem_cons_succ, List.getElem_cons_zero]
      refine wpAnyT_take (i := 9) (v := ?v9) rfl (by kernel_rfl) (by kernel_rfl) (by kernel_rfl) (by kernel_rfl) (by kernel_rfl) (fun _ _ _ h => h) (Or.inl ⟨by rfl, ?y9⟩) (hS1) ?r9
      case y9 => (intro w hSw; (try dsimp only at hSw); go_simp; try with_reducible rfl)
      try simp only [Act.put, List.setIfInBounds_toArray, List.set_cons_zero, List.set_cons_succ, List.getElem_toArray, List.getElem_cons_succ, List.getElem_cons_zero]
      refine wpAnyT_run (i := 10) (by kernel_rfl) rfl (fun K hK => ?_)
      go_simp
      (refine (HC.out _).mono ?_; rintro e W1 ⟨rfl, hB1⟩)
      have hS2 := HSW.out _ _ hS1 hB1
      go_wp2_with fail
      refine hK.out _ _ (fun _ => hS2) ?_
      clear hK K
      try simp only [Act.put, List.setIfInBounds_toArray, List.set_cons_zero, List.set_cons_succ, List.getElem_toArray, List.getElem_cons_succ, List.getElem_cons_zero]
      refine wpAnyT_run (i := 11) (by kernel_rfl) rfl (fun K hK => ?_)
      go_simp
      refine hK.out _ _ (fun _ => HSW.out _ _ hS2 ((Below.refl _ _).alloc (Nat.le_refl _) _)) ?_
      clear hK K
      try simp only [Act.put, List.setIfInBounds_toArray, List.set_cons_zero, List.set_cons_succ, List.getElem_toArray, List.getElem_cons_succ, List.getElem_cons_zero]
      refine wpAnyT_run (i := 12) (by kernel_rfl) rfl (fun K hK => ?_)
      (refine step_append_lies _ (by rfl) _ _ _ (by rfl) (w.heap.size + 4) 37 i0 _ 4 56 Tryz.underlying31 hi hz0 hz1 hz2 rfl (by omega) _ i _ (by rfl) (HOWD.out _ hB1) ⟨W1.heap.size, 0, none⟩ 1 1 [.int .i64 uk, .int .i64 un, .string us, .slice none 0 0] (by rfl) (by rfl) (World.news_of_block (cs := #[.int .i64 uk, .int .i64 un, .string us, .slice none 0 0]) (t := 37) (fr := (0, 0)) (heap_alloc_new W1 _)) (by simp [Value.oneCell']) (by omega) (by simp [maxLen]; omega) (by omega) (by have := hB1.size; simp; omega) (W1.heap.size + 1) (by simp) ?_; intro gg cap w2 hown1 hgrow hat hlt2)
      obtain ⟨q3, q4⟩ := HVG.out _ _ hB1 hgrow
      refine hK.out _ _ (fun h => absurd h (by decide)) ?_
      clear hK K
      try simp only [Act.put, List.setIfInBounds_toArray, List.set_cons_zero, List.set_cons_succ, List.getElem_toArray, List.getElem_cons_succ, List.getElem_cons_zero]
      refine wpAnyT_run (i := 13) (by kernel_rfl) rfl (fun K hK => ?_)
      go_simp
      refine hK.out _ _ (fun h => absurd h (by decide)) ?_
      clear hK K
      try simp only [Act.put, List.setIfInBounds_toArray, List.set_cons_zero, List.set_cons_succ, List.getElem_toArray, List.getElem_cons_succ, List.getElem_cons_zero]
      refine wpAnyT_run (i := 14) (by kernel_rfl) rfl (fun K hK => ?_)
      go_simp
      refine hK.out _ _ (fun h => absurd h (by decide)) ?_
      clear hK K
      try simp only [Act.put, List.setIfInBounds_toArray, List.set_cons_zero, List.set_cons_succ, List.getElem_toArray, List.getElem_cons_succ, List.getElem_cons_zero]
      refine wpAnyT_done (by kernel_rfl) ?_ _
      go_wp2_with fail
      exact ⟨⟨i + 1, _, by omega, by go_num, HNEXT.out _ _ _ hB1 hgrow hown1⟩, by simp [intOf]; omega⟩
    · obtain rfl : i = m := by omega
      have d1 : decide ((i : Int) < (i : Int)) = false := decide_eq_false (by omega)
      go_wp2_with fail
      have hown := ST.out.own
      have hL : Lies wr (.slice vp i vc) i 4 (itsCells ((vItems o n many i).map itOf)) := by
        have := Lies.own hown
        rwa [HLEN.out] at this
      have hne : ∀ a m' c', (Value.slice vp i vc) = .slice (some a) m' c' → w.heap.size + 4 ≤ a.block := fun a m' c' ha => by
        injection ha with h1 _ _
        exact (hown.lt a.block (by rw [h1]; rfl)).1
      have hne2 : ∀ a m' c', (Value.slice vp i vc) = .slice (some a) m' c' → a.block ≠ w.heap.size + 1 := fun a m' c' ha => by have := hne a m' c' ha; omega
      have hL9 := lies_over (lies_over (lies_over (lies_over hL ⟨w.heap.size + 1, 0, none⟩ hne2 (.int .i64 5)) ⟨w.heap.size + 1, 1, none⟩ hne2 (.int .i64 0)) ⟨w.heap.size + 1, 2, none⟩ hne2 (.string ⟨#[]⟩)) ⟨w.heap.size + 1, 3, none⟩ hne2 (.slice vp i vc)
      have hVo := ST.out.out.put 5 0 ⟨#[]⟩ (.slice vp i vc)
      have hBo := below_put ST.out.below (show w.heap.size ≤ w.heap.size + 1 by omega) 5 0 ⟨#[]⟩ (.slice vp i vc)
      unfold putBox at hVo hBo
      have hz9 : ((((wr.setCell ⟨w.heap.size + 1, 0, none⟩ (.int .i64 5)).setCell ⟨w.heap.size + 1, 1, none⟩ (.int .i64 0)).setCell ⟨w.heap.size + 1, 2, none⟩ (.string ⟨#[]⟩)).setCell ⟨w.heap.size + 1, 3, none⟩ (.slice vp i vc)).heap.size = wr.heap.size := by simp [World.setCell]
      have hltt : ∀ a, vp = some a → w.heap.size + 4 ≤ a.block ∧ a.block < wr.heap.size := fun a ha => (hown.lt a.block (by rw [ha]; rfl))
      generalize (((wr.setCell ⟨w.heap.size + 1, 0, none⟩ (.int .i64 5)).setCell ⟨w.heap.size + 1, 1, none⟩ (.int .i64 0)).setCell ⟨w.heap.size + 1, 2, none⟩ (.string ⟨#[]⟩)).setCell ⟨w.heap.size + 1, 3, none⟩ (.slice vp i vc) = W9 at hVo hBo hL9 hz9 ⊢
      obtain ⟨⟨x0, x1, x2, x3⟩, _⟩ := hVo.facts
      have hat := vat_items (W := W9) (p := vp) (c := vc) (us := vItems o n many i) (by rw [HLEN.out]; omega) (HFLAT.out i) (by rw [HLEN.out]; exact hL9)
      rw [HLEN.out] at hat
      exact bodyPost_ret (v := valV 5 0 ⟨#[]⟩ (.slice vp i vc)) (by simp [results, Tryz.results24, go_sem, x0, x1, x2, x3]) rfl ⟨⟨5, 0, ⟨#[]⟩, vp, i, vc⟩, rfl, hat, hBo, fun a ha => by have := hltt a ha; omega⟩
/-- ValOf of a type that may be -/
theorem valOf4_any (k o n many : Int) (hr : rtB k o = true) (hn : -9223372036854775808 ≤ n ∧ n ≤ 9223372036854775807) (hm : 1 ≤ many ∧ many ≤ 1000) (w : World) :
    Calls Tryz.prog 24 #[.agg #[.int .i64 k, .int .i64 o], .int .i64 n, .int .i64 many] w (valOf4Post k o n many w) := by
  unfold rtB at hr
  by_cases h5 : k = 5
  · rw [if_pos h5] at hr
    subst h5
    exact valOf4_list o n many (of_decide_eq_true hr) hn hm w
  · rw [if_neg h5] at hr
    have hk := (of_decide_eq_true hr).1
    refine (valOf4_flat k o n many hk hn hm w).mono ?_
    rintro e w' ⟨rfl, hb⟩
    refine ⟨itOf (vFlat k n many), rfl, ?_, hb, fun a ha => by cases ha⟩
    unfold vOf
    rw [if_neg h5]
    exact vat_none 1 w' (vFlat_fine hk n hm) (vFlat_l k n many)
end Go.Proofs.YtffoklhopmhjaaaGreatDoor

/- val.Decode. -/
set_option linter.unusedSimpArgs false
set_option linter.unusedVariables false
namespace Go.Proofs.YtffoklhopmhjaaaGreatDoor
open Go Go.RowKit Go.Shelf Go.Sort

theorem value_any (w0 : World) (ea : Addr) (s : ByteArray) (Sb Ab p : Nat) (W : World) (h : Rd w0 ea s Sb Ab p W) :
    Calls Tryz.prog 32 #[rdr Sb Ab, .bool true] W (valPost2 (decV (s.data.toList.drop p)) w0 ea s Sb Ab p W) := by
  by_cases h5 : numL (s.data.toList.drop p) = some 5
  · exact value_list w0 ea s Sb Ab p W h h5
  · have : decV (s.data.toList.drop p) = decIn (s.data.toList.drop p) := by
      unfold decV
      cases hn : numL (s.data.toList.drop p) with
      | none => simp only; unfold decIn; rw [hn]
      | some k =>
        simp only
        rw [if_neg (fun e => h5 (by rw [hn, e]))]
    rw [this]
    refine (value_flat true w0 ea s Sb Ab p W h (fun k hk => .inl (fun e => h5 (by rw [hk, e])))).mono fun e W' hp => ⟨hp, ?_⟩
    cases hd : decIn (s.data.toList.drop p) with
    | error e => trivial
    | ok x => exact .inl (decIn_ok hd)

/-- what Decode answers -/
def decodePost (s : ByteArray) (p : Int) (W : World) (e : Ending) (W' : World) : Prop :=
  Below W.heap.size W W' ∧ if p < 0 ∨ (s.size : Int) < p then e = .returned (.tuple #[valV 0 0 ⟨#[]⟩ (.slice none 0 0), .int .i64 0, .int .i64 2]) else
    match decV (s.data.toList.drop p.toNat) with
    | .error n => e = .returned (.tuple #[valV 0 0 ⟨#[]⟩ (.slice none 0 0), .int .i64 0, .int .i64 n])
    | .ok (u, n) => ∃ x : It, e = .returned (.tuple #[x.v, .int .i64 (p + n), .int .i64 0]) ∧ VAt 1 W' u x

set_option maxHeartbeats 4000000 in
set_option maxRecDepth 100000 in
theorem decode_out (s : ByteArray) (p : Int) (hp : p < 0 ∨ (s.size : Int) < p) (W : World) :
    Calls Tryz.prog 8 #[.string s, .int .i64 p] W (decodePost s p W) := by
  have hfin : ∀ e W', (Below W.heap.size W W' ∧ e = .returned (.tuple #[valV 0 0 ⟨#[]⟩ (.slice none 0 0), .int .i64 0, .int .i64 2])) → decodePost s p W e W' := fun e W' h => ⟨h.1, by rw [if_pos hp]; exact h.2⟩
  refine Calls.mono (R := fun e W' => Below W.heap.size W W' ∧ e = .returned (.tuple #[valV 0 0 ⟨#[]⟩ (.slice none 0 0), .int .i64 0, .int .i64 2])) ?_ hfin
  clear hfin
  by_cases h0 : p < 0
  · clear hp
    go_enter Tryz.func8, Tryz.ntmps8
    go_wp2_with fail
    exact bodyPost_ret (v := .tuple #[valV 0 0 ⟨#[]⟩ (.slice none 0 0), .int .i64 0, .int .i64 2]) (by simp [results, Tryz.results8, go_sem]) rfl ⟨((below_two _ _).alloc (by simp; omega) _), rfl⟩
  · have h1 : (s.size : Int) < p := hp.resolve_left h0
    clear hp
    go_enter Tryz.func8, Tryz.ntmps8
    go_wp2_with fail
    exact bodyPost_ret (v := .tuple #[valV 0 0 ⟨#[]⟩ (.slice none 0 0), .int .i64 0, .int .i64 2]) (by simp [results, Tryz.results8, go_sem]) rfl ⟨((below_two _ _).alloc (by simp; omega) _), rfl⟩

theorem decV_err {l : List UInt8} {e : Int} (h : decV l = .error e) : e = 10 ∨ e = 30 := by
  by_cases h5 : numL l = some 5
  · rw [decV_list h5] at h
    split at h
    · cases h; rename_i h2; exact decList_err h2
    · cases h
  · unfold decV at h
    split at h
    · cases h; exact .inl rfl
    · rename_i k hk
      rw [if_neg (fun e => h5 (by rw [hk, e]))] at h
      exact decIn_err h

theorem rdInfo : (Tryz.prog.info? 76).map (·.size) = some 2 := by kernel_rfl

/-- what Decode answers within the bytes, and where a list's items lie -/
def decLoc (s : ByteArray) (p : Nat) (W : World) (e : Ending) (W' : World) : Prop :=
  Below W.heap.size W W' ∧ match decV (s.data.toList.drop p) with
    | .error n => e = .returned (.tuple #[valV 0 0 ⟨#[]⟩ (.slice none 0 0), .int .i64 0, .int .i64 n])
    | .ok (u, n) => ∃ x : It, e = .returned (.tuple #[x.v, .int .i64 ((p : Int) + n), .int .i64 0]) ∧ VAt 1 W' u x ∧ (x.m = 0 ∨ ∀ a, x.p = some a → W.heap.size ≤ a.block)

set_option maxHeartbeats 4000000 in
set_option maxRecDepth 100000 in
theorem decode_loc (s : ByteArray) (hs : s.size ≤ 9223372036854775807) (p : Nat) (hp : p ≤ s.size) (ea : Addr) (W : World) (hT : Tabs W) (hE : errLies ea W) :
    Calls Tryz.prog 8 #[.string s, .int .i64 (p : Int)] W (decLoc s p W) := by
  unfold decLoc
  obtain ⟨W1, hW1⟩ : ∃ W1, W1 = (((W.alloc (.cells #[.string s] 9)).alloc (.cells #[.int .i64 (p : Int)] 3)).alloc (.cells #[.int .i64 0, .int .i64 0, .string ⟨#[]⟩, .slice none 0 0] 37)) := ⟨_, rfl⟩
  obtain ⟨W2, hW2⟩ : ∃ W2, W2 = W1.alloc (.cells #[numFn W.heap.size (W.heap.size + 1), textFn W.heap.size (W.heap.size + 1)] 76) := ⟨_, rfl⟩
  have hB2 : Below W.heap.size W W2 := by
    rw [hW2, hW1]
    exact (((below_two _ _).alloc (by simp; omega) _).alloc (by simp; omega) _)
  have hsz : W2.heap.size = W.heap.size + 4 := by simp [hW1, hW2]
  have b0 : W2.heap[W.heap.size]? = some (.cells #[.string s] 9 (0, 0)) := by
    rw [hW2, hW1]
    rw [Lib.alloc_old _ _ _ (by simp; omega), Lib.alloc_old _ _ _ (by simp; omega)]
    exact heap_alloc2_old W _ _
  have b1 : W2.heap[W.heap.size + 1]? = some (.cells #[.int .i64 (p : Int)] 3 (0, 0)) := by
    rw [hW2, hW1]
    rw [Lib.alloc_old _ _ _ (by simp), Lib.alloc_old _ _ _ (by simp)]
    have := World.alloc_heap_new (W.alloc (.cells #[.string s] 9)) (.cells #[.int .i64 (p : Int)] 3)
    rwa [show (W.alloc (.cells #[.string s] 9)).heap.size = W.heap.size + 1 from by simp] at this
  have b2 : VBox W2 (W.heap.size + 1 + 1) 0 0 ⟨#[]⟩ (.slice none 0 0) := by
    have := VBox.new ((W.alloc (.cells #[.string s] 9)).alloc (.cells #[.int .i64 (p : Int)] 3)) 0 0 ⟨#[]⟩ (.slice none 0 0)
    rw [show ((W.alloc (.cells #[.string s] 9)).alloc (.cells #[.int .i64 (p : Int)] 3)).heap.size = W.heap.size + 2 from by simp] at this
    rw [hW2, hW1]
    exact (this.alloc _)
  have b3 : W2.heap[W.heap.size + 3]? = some (.cells #[numFn W.heap.size (W.heap.size + 1), textFn W.heap.size (W.heap.size + 1)] 76 (0, 0)) := by
    have := World.alloc_heap_new W1 (.cells #[numFn W.heap.size (W.heap.size + 1), textFn W.heap.size (W.heap.size + 1)] 76)
    rw [← hW2] at this
    rwa [show W1.heap.size = W.heap.size + 3 from by simp [hW1]] at this
  have r0 : W2.cell? ⟨W.heap.size + 3, 0, none⟩ = some (numFn W.heap.size (W.heap.size + 1)) := by rw [Lib.cell_of_heap b3]; rfl
  have r1 : W2.cell? ⟨W.heap.size + 3, 1, none⟩ = some (textFn W.heap.size (W.heap.size + 1)) := by rw [Lib.cell_of_heap b3]; rfl
  clear b3
  have hR : Rd W ea s W.heap.size (W.heap.size + 1) p W2 := ⟨hs, hT, hE, hB2, Nat.le_refl _, by omega, by omega, b0, b1, hp⟩
  have hv := value_any W ea s W.heap.size (W.heap.size + 1) p W2 hR
  have hz1 : W1.heap.size = W.heap.size + 3 := by simp [hW1]
  have hgr : ∀ o, ((((W.alloc (.cells #[.string s] 9)).alloc (.cells #[.int .i64 (p : Int)] 3)).alloc (.cells #[.int .i64 0, .int .i64 0, .string ⟨#[]⟩, .slice none 0 0] 37)).alloc o).heap[W.heap.size + 3]? = some o := fun o => by
    have := World.alloc_heap_new W1 o
    rwa [hz1, hW1] at this
  have hsr : ∀ (old : Array Value), (((((W.alloc (.cells #[.string s] 9)).alloc (.cells #[.int .i64 (p : Int)] 3)).alloc (.cells #[.int .i64 0, .int .i64 0, .string ⟨#[]⟩, .slice none 0 0] 37)).alloc (.cells old 76)).setRow (W.heap.size + 3) #[numFn W.heap.size (W.heap.size + 1), textFn W.heap.size (W.heap.size + 1)]) = W2 := fun old => by
    have := World.setRow_alloc_new W1 old #[numFn W.heap.size (W.heap.size + 1), textFn W.heap.size (W.heap.size + 1)] 76
    rw [← hW2] at this
    rwa [hz1, hW1] at this
  have HGR := Lib.hid hgr
  have HSR := Lib.hid hsr
  clear hgr hsr hz1 hW1 hW2
  have HB2 := Lib.hid hB2
  have HV2 := Lib.hid b2
  have HS := Lib.hid hsz
  clear hR hT hE hB2 b0 b1 b2 hsz
  cases hd : decV (s.data.toList.drop p) with
  | error n =>
    have hn := decV_err hd
    rw [hd] at hv
    clear hd
    go_enter Tryz.func8, Tryz.ntmps8
    go_wp2_with (refine wpList_store_row rfl 76 _ _ rfl (W.heap.size + 3) #[numFn W.heap.size (W.heap.size + 1), textFn W.heap.size (W.heap.size + 1)] rfl rfl 76 _ (HGR.out _) rdInfo rfl (by simp [Value.oneCell']) ?_; rw [HSR.out])
    refine hv.mono ?_
    rintro e W3 ⟨⟨hk, rfl, q, hR3⟩, _⟩
    have hV3 := HV2.out.kept hk (by omega)
    have hz3 : W.heap.size + 4 ≤ W3.heap.size := by have := hk.size; have := HS.out; omega
    have hB3 : Below W.heap.size W W3 := HB2.out.grown hk (by have := HS.out; omega) (fun k e => by have := Option.some.inj e; omega)
    have hz4 : W.heap.size + 1 + 1 < W3.heap.size := by omega
    have hz5 : W.heap.size + 1 < W3.heap.size := by omega
    obtain ⟨⟨c0, c1, c2, c3⟩, f0, f1, f2, f3⟩ := hV3.facts
    have HB3 := Lib.hid hB3
    have HV3 := Lib.hid hV3
    clear hk hR3 hB3 hV3 hv
    rcases hn with rfl | rfl
    all_goals
      go_wp2_with fail
      have hV := (HV3.out.put 0 0 ⟨#[]⟩ (.slice none 0 0)).alloc (.cells #[.int .i64 0, .int .i64 0, .string ⟨#[]⟩, .slice none 0 0] 37)
      have hB := (below_put HB3.out (b := W.heap.size + 1 + 1) (by omega) 0 0 ⟨#[]⟩ (.slice none 0 0)).alloc (by simp [putBox]; omega) (.cells #[.int .i64 0, .int .i64 0, .string ⟨#[]⟩, .slice none 0 0] 37)
      unfold putBox at hV hB
      generalize ((((W3.setCell ⟨W.heap.size + 1 + 1, 0, none⟩ (.int .i64 0)).setCell ⟨W.heap.size + 1 + 1, 1, none⟩ (.int .i64 0)).setCell ⟨W.heap.size + 1 + 1, 2, none⟩ (.string ⟨#[]⟩)).setCell ⟨W.heap.size + 1 + 1, 3, none⟩ (.slice none 0 0)).alloc (.cells #[.int .i64 0, .int .i64 0, .string ⟨#[]⟩, .slice none 0 0] 37) = W9 at hV hB ⊢
      obtain ⟨⟨e0, e1, e2, e3⟩, _⟩ := hV.facts
      first
        | exact bodyPost_ret (v := .tuple #[valV 0 0 ⟨#[]⟩ (.slice none 0 0), .int .i64 0, .int .i64 10]) (by simp [results, Tryz.results8, go_sem, e0, e1, e2, e3]) rfl ⟨hB, rfl⟩
        | exact bodyPost_ret (v := .tuple #[valV 0 0 ⟨#[]⟩ (.slice none 0 0), .int .i64 0, .int .i64 30]) (by simp [results, Tryz.results8, go_sem, e0, e1, e2, e3]) rfl ⟨hB, rfl⟩
  | ok x =>
    obtain ⟨u, n⟩ := x
    rw [hd] at hv
    clear hd
    go_enter Tryz.func8, Tryz.ntmps8
    go_wp2_with (refine wpList_store_row rfl 76 _ _ rfl (W.heap.size + 3) #[numFn W.heap.size (W.heap.size + 1), textFn W.heap.size (W.heap.size + 1)] rfl rfl 76 _ (HGR.out _) rdInfo rfl (by simp [Value.oneCell']) ?_; rw [HSR.out])
    refine hv.mono ?_
    rintro e W3 ⟨⟨hk, hR3, x, rfl, hx⟩, hbk⟩
    have hbk := hbk.imp id (fun h => h x rfl)
    have hV3 := HV2.out.kept hk (by omega)
    have hz3 : W.heap.size + 4 ≤ W3.heap.size := by have := hk.size; have := HS.out; omega
    have hB3 : Below W.heap.size W W3 := HB2.out.grown hk (by have := HS.out; omega) (fun k e => by have := Option.some.inj e; omega)
    have hz4 : W.heap.size + 1 + 1 < W3.heap.size := by omega
    have hz5 : W.heap.size + 1 < W3.heap.size := by omega
    obtain ⟨⟨c0, c1, c2, c3⟩, f0, f1, f2, f3⟩ := hV3.facts
    have a0 : W3.cell? ⟨W.heap.size + 1, 0, none⟩ = some (.int .i64 ((p + n : Nat) : Int)) := by rw [Lib.cell_of_heap hR3.ab]; rfl
    obtain ⟨k, m, t, pp, pm, pc⟩ := x
    have hloc : pm = 0 ∨ ∀ a, pp = some a → W.heap.size ≤ a.block := by
      rcases hbk with h | h
      · left
        have h1 := hx.top.len
        have h2 := (flatOk_parts h).2.2.1
        rw [h2] at h1
        exact h1
      · right
        intro a ha
        have := h a ha
        have := HS.out
        omega
    have HLOC := Lib.hid hloc
    have HB3 := Lib.hid hB3
    have HV3 := Lib.hid hV3
    have HX := Lib.hid hx
    have HBK := Lib.hid hbk
    clear hloc
    clear hk hR3 hB3 hV3 hv hx hbk
    go_wp2_with fail
    go_region
    go_wp2_with fail
    have hV := (HV3.out.put k m t (.slice pp pm pc)).alloc (.cells #[.int .i64 k, .int .i64 m, .string t, .slice pp pm pc] 37)
    have hB := (below_put HB3.out (b := W.heap.size + 1 + 1) (by omega) k m t (.slice pp pm pc)).alloc (by simp [putBox]; omega) (.cells #[.int .i64 k, .int .i64 m, .string t, .slice pp pm pc] 37)
    have hX : VAt 1 ((putBox W3 (W.heap.size + 1 + 1) k m t (.slice pp pm pc)).alloc (.cells #[.int .i64 k, .int .i64 m, .string t, .slice pp pm pc] 37)) u ⟨k, m, t, pp, pm, pc⟩ := by
      rcases HBK.out with h | h
      · exact (Itm.of HX.out h).at _ _
      · have hne : ∀ a m' c', (Value.slice pp pm pc) = .slice (some a) m' c' → a.block ≠ W.heap.size + 1 + 1 := fun a m' c' ha => by injection ha with h1 _ _; have := h a h1; have := HS.out; omega
        have hx1 : VAt 1 (putBox W3 (W.heap.size + 1 + 1) k m t (.slice pp pm pc)) u ⟨k, m, t, pp, pm, pc⟩ := by
          obtain ⟨h0, h1, h2, h3, ys, h4, h5, h6⟩ := HX.out
          refine ⟨h0, h1, h2, h3, ys, h4, (((h5.past ⟨W.heap.size + 1 + 1, 0, none⟩ hne (.int .i64 k)).past ⟨W.heap.size + 1 + 1, 1, none⟩ hne (.int .i64 m)).past ⟨W.heap.size + 1 + 1, 2, none⟩ hne (.string t)).past ⟨W.heap.size + 1 + 1, 3, none⟩ hne (.slice pp pm pc), fun i a b => ?_⟩
          have hj := h6 i a b
          obtain ⟨g0, g1, g2, g3, zs, g4, g5, g6⟩ := hj
          refine ⟨g0, g1, g2, g3, zs, g4, ?_, g6⟩
          have hz : zs = [] := by
            cases zs with
            | nil => rfl
            | cons z zs => exact (g6 0 (by simp) (by simp at g4; omega)).elim
          subst hz
          exact ⟨rfl, .inl (by
            rcases g5.2 with ⟨_, h⟩ | ⟨b, off, c, h, _⟩
            · exact ⟨rfl, h⟩
            · injection h with h1 h2 h3
              rw [h2]
              exact ⟨rfl, _, _, rfl⟩)⟩
        exact hx1.below ((Below.refl _ _).alloc (Nat.le_refl _) _)
    have a1 : W3.heap.size = W3.heap.size := rfl
    unfold putBox at hV hB hX
    generalize ((((W3.setCell ⟨W.heap.size + 1 + 1, 0, none⟩ (.int .i64 k)).setCell ⟨W.heap.size + 1 + 1, 1, none⟩ (.int .i64 m)).setCell ⟨W.heap.size + 1 + 1, 2, none⟩ (.string t)).setCell ⟨W.heap.size + 1 + 1, 3, none⟩ (.slice pp pm pc)).alloc (.cells #[.int .i64 k, .int .i64 m, .string t, .slice pp pm pc] 37) = W9 at hV hB hX ⊢
    obtain ⟨⟨e0, e1, e2, e3⟩, _⟩ := hV.facts
    exact bodyPost_ret (v := .tuple #[valV k m t (.slice pp pm pc), .int .i64 ((p : Int) + n), .int .i64 0]) (by simp [results, Tryz.results8, go_sem, e0, e1, e2, e3]) rfl ⟨hB.drew, ⟨k, m, t, pp, pm, pc⟩, rfl, hX.below ((Below.refl _ _).drew), HLOC.out⟩
theorem decode_in (s : ByteArray) (hs : s.size ≤ 9223372036854775807) (p : Nat) (hp : p ≤ s.size) (ea : Addr) (W : World) (hT : Tabs W) (hE : errLies ea W) :
    Calls Tryz.prog 8 #[.string s, .int .i64 (p : Int)] W (decodePost s p W) := by
  refine (decode_loc s hs p hp ea W hT hE).mono ?_
  rintro e W' ⟨hb, h⟩
  refine ⟨hb, ?_⟩
  rw [if_neg (by omega), Int.toNat_natCast]
  cases hd : decV (s.data.toList.drop p) with
  | error n => rw [hd] at h; exact h
  | ok x =>
    rw [hd] at h
    obtain ⟨y, h1, h2, _⟩ := h
    exact ⟨y, h1, h2⟩
end Go.Proofs.YtffoklhopmhjaaaGreatDoor

/- val.Read. -/
set_option linter.unusedSimpArgs false
set_option linter.unusedVariables false
namespace Go.Proofs.YtffoklhopmhjaaaGreatDoor
open Go Go.RowKit Go.Shelf

/-- what Read answers -/
def readTopPost (s : ByteArray) (p : Int) (W : World) (e : Ending) (W' : World) : Prop :=
  Below W.heap.size W W' ∧ if p < 0 ∨ (s.size : Int) < p then e = .returned (.tuple #[valV 0 0 ⟨#[]⟩ (.slice none 0 0), .int .i64 p, .int .i64 2]) else
    match readV (s.data.toList.drop p.toNat) with
    | none => e = .returned (.tuple #[valV 0 0 ⟨#[]⟩ (.slice none 0 0), .int .i64 p, .int .i64 30])
    | some (u, n) => ∃ x : It, e = .returned (.tuple #[x.v, .int .i64 (p + n), .int .i64 0]) ∧ VAt 1 W' u x

set_option maxHeartbeats 4000000 in
set_option maxRecDepth 100000 in
theorem readTop_out (s : ByteArray) (p : Int) (hp : p < 0 ∨ (s.size : Int) < p) (W : World) :
    Calls Tryz.prog 10 #[.string s, .int .i64 p] W (readTopPost s p W) := by
  have hfin : ∀ e W', (Below W.heap.size W W' ∧ e = .returned (.tuple #[valV 0 0 ⟨#[]⟩ (.slice none 0 0), .int .i64 p, .int .i64 2])) → readTopPost s p W e W' := fun e W' h => ⟨h.1, by rw [if_pos hp]; exact h.2⟩
  refine Calls.mono (R := fun e W' => Below W.heap.size W W' ∧ e = .returned (.tuple #[valV 0 0 ⟨#[]⟩ (.slice none 0 0), .int .i64 p, .int .i64 2])) ?_ hfin
  clear hfin
  by_cases h0 : p < 0
  · clear hp
    go_enter Tryz.func10, Tryz.ntmps10
    go_wp2_with fail
    exact bodyPost_ret (v := .tuple #[valV 0 0 ⟨#[]⟩ (.slice none 0 0), .int .i64 p, .int .i64 2]) (by simp [results, Tryz.results10, go_sem]) rfl ⟨(Below.refl _ _).alloc (Nat.le_refl _) _, rfl⟩
  · have h1 : (s.size : Int) < p := hp.resolve_left h0
    clear hp
    go_enter Tryz.func10, Tryz.ntmps10
    go_wp2_with fail
    exact bodyPost_ret (v := .tuple #[valV 0 0 ⟨#[]⟩ (.slice none 0 0), .int .i64 p, .int .i64 2]) (by simp [results, Tryz.results10, go_sem]) rfl ⟨(Below.refl _ _).alloc (Nat.le_refl _) _, rfl⟩

/-- the value whose cells stand in a box that is written -/
theorem vat_put {W : World} {u : V} {x : It} (h : VAt 1 W u x) (hok : u.flatOk = true ∨ (∃ us : List V, u = .mk 5 0 ⟨#[]⟩ us ∧ ∀ v ∈ us, v.flatOk = true)) (b : Nat) (hb : ∀ a, x.p = some a → a.block ≠ b) (k n : Int) (t : ByteArray) (l : Value) : VAt 1 (putBox W b k n t l) u x := by
  rcases hok with h' | ⟨us, rfl, hus⟩
  · exact (Itm.of h h').at _ _
  · obtain ⟨h0, h1, h2, h3, ys, h4, h5, h6⟩ := h
    have hne : ∀ a m' c', (Value.slice x.p x.m x.c) = .slice (some a) m' c' → a.block ≠ b := fun a m' c' ha => by injection ha with h1 _ _; exact hb a h1
    refine ⟨h0, h1, h2, h3, ys, h4, (((h5.past ⟨b, 0, none⟩ hne (.int .i64 k)).past ⟨b, 1, none⟩ hne (.int .i64 n)).past ⟨b, 2, none⟩ hne (.string t)).past ⟨b, 3, none⟩ hne l, fun i a b => ?_⟩
    exact (Itm.of (d := 0) (h6 i a b) (hus _ (List.getElem_mem _))).at 0 _

/-- what Read answers within the text, and where a list's items lie -/
def readLoc (s : ByteArray) (p : Nat) (W : World) (e : Ending) (W' : World) : Prop :=
  Below W.heap.size W W' ∧ match readV (s.data.toList.drop p) with
    | none => e = .returned (.tuple #[valV 0 0 ⟨#[]⟩ (.slice none 0 0), .int .i64 (p : Int), .int .i64 30])
    | some (u, n) => ∃ x : It, e = .returned (.tuple #[x.v, .int .i64 ((p : Int) + n), .int .i64 0]) ∧ VAt 1 W' u x ∧ (x.m = 0 ∨ ∀ a, x.p = some a → W.heap.size ≤ a.block)

set_option maxHeartbeats 4000000 in
set_option maxRecDepth 100000 in
theorem readTop_loc (s : ByteArray) (hs : s.size ≤ 140737488355327) (p : Nat) (hp : p ≤ s.size) (W : World) (hT : Tabs W) :
    Calls Tryz.prog 10 #[.string s, .int .i64 (p : Int)] W (readLoc s p W) := by
  unfold readLoc
  have hB0 : Below W.heap.size W (W.alloc (.cells #[.int .i64 0, .int .i64 0, .string ⟨#[]⟩, .slice none 0 0] 37)) := (Below.refl _ _).alloc (Nat.le_refl _) _
  have hV0 := VBox.new W 0 0 ⟨#[]⟩ (.slice none 0 0)
  have hrd := read_any s hs p _ (hT.below hB0)
  have hli := readList_any s hs p
  cases hri : readIn (s.data.toList.drop p) with
  | some x =>
    obtain ⟨u, k⟩ := x
    have hv : readV (s.data.toList.drop p) = some (u, k) := by unfold readV; rw [hri]
    rw [hv]
    rw [hri] at hrd
    have hfu := readIn_ok hri
    have HFU := Lib.hid hfu
    have HB0 := Lib.hid hB0
    have HV0 := Lib.hid hV0
    clear hv hri hfu hli hB0 hV0
    obtain ⟨uk, un, us, ul⟩ := u
    go_enter Tryz.func10, Tryz.ntmps10
    go_wp2_with fail
    refine hrd.mono ?_
    rintro e W1 ⟨hB1, rfl⟩
    have hV1 := HV0.out.below hB1
    have hBW := HB0.out.trans (hB1.mono (by simp))
    have hz := hV1.lt
    obtain ⟨⟨c0, c1, c2, c3⟩, f0, f1, f2, f3⟩ := hV1.facts
    have HV1 := Lib.hid hV1
    have HBW := Lib.hid hBW
    simp only [V.k, V.n, V.s]
    clear hB1 hV1 hBW hrd
    go_wp2_with fail
    have hV := (HV1.out.put uk un us (.slice none 0 0)).alloc (.cells #[.int .i64 uk, .int .i64 un, .string us, .slice none 0 0] 37)
    have hB := (below_put HBW.out (b := W.heap.size) (Nat.le_refl _) uk un us (.slice none 0 0)).alloc (by simp [putBox]; omega) (.cells #[.int .i64 uk, .int .i64 un, .string us, .slice none 0 0] 37)
    unfold putBox at hV hB
    generalize ((((W1.setCell ⟨W.heap.size, 0, none⟩ (.int .i64 uk)).setCell ⟨W.heap.size, 1, none⟩ (.int .i64 un)).setCell ⟨W.heap.size, 2, none⟩ (.string us)).setCell ⟨W.heap.size, 3, none⟩ (.slice none 0 0)).alloc (.cells #[.int .i64 uk, .int .i64 un, .string us, .slice none 0 0] 37) = W9 at hV hB ⊢
    obtain ⟨⟨x0, x1, x2, x3⟩, _⟩ := hV.facts
    exact bodyPost_ret (v := .tuple #[valV uk un us (.slice none 0 0), .int .i64 ((p : Int) + k), .int .i64 0]) (by simp [results, Tryz.results10, go_sem, x0, x1, x2, x3]) rfl ⟨hB, ⟨uk, un, us, none, 0, 0⟩, rfl, (itm_of HFU.out).at 1 _, .inl rfl⟩
  | none =>
    rw [hri] at hrd
    have hv : readV (s.data.toList.drop p) = if (s.data.toList.drop p).head? = some 91 then (readItems 14 [] (s.data.toList.drop p).tail).map (fun x => (V.mk 5 0 ⟨#[]⟩ x.1, x.2 + 1)) else none := by unfold readV; rw [hri]
    generalize hrl : (if (s.data.toList.drop p).head? = some 91 then rlAt s (p + 1) [] else none) = rl at hli
    have hv2 : readV (s.data.toList.drop p) = rl.map (fun x => (V.mk 5 0 ⟨#[]⟩ x.1, x.2 - p)) := by
      rw [hv, ← hrl]
      split
      · rename_i h
        have hpl : p < s.size := by
          rcases Nat.lt_or_ge p s.size with h' | h'
          · exact h'
          · rw [drop_end s p h'] at h; cases h
        unfold rlAt
        rw [dropAt s p hpl, List.tail_cons, Option.map_map]
        show Option.map _ (readItems 14 [] _) = Option.map _ (readItems 14 [] _)
        congr 1
        funext x
        simp; omega
      · rfl
    have hge : ∀ us k, rl = some (us, k) → p ≤ k := by
      intro us k h
      rw [h] at hrl
      split at hrl
      · unfold rlAt at hrl
        cases h2 : readItems (14 - ([] : List V).length) [] (s.data.toList.drop (p + 1)) with
        | none => rw [h2] at hrl; cases hrl
        | some x => rw [h2] at hrl; cases hrl; omega
      · cases hrl
    rw [hv2]
    have HLI := Lib.hid hli
    have HT := Lib.hid hT
    have HB0 := Lib.hid hB0
    have HV0 := Lib.hid hV0
    have HGE := Lib.hid hge
    clear hv hv2 hri hli hB0 hV0 hrl hT hge
    cases rl with
    | none =>
      go_enter Tryz.func10, Tryz.ntmps10
      go_wp2_with fail
      refine hrd.mono ?_
      rintro e W1 ⟨hB1, rfl⟩
      have hV1 := HV0.out.below hB1
      have hBW := HB0.out.trans (hB1.mono (by simp))
      have hU1 := VBox.new W1 0 0 ⟨#[]⟩ (.slice none 0 0)
      have hV1' := hV1.alloc (.cells #[.int .i64 0, .int .i64 0, .string ⟨#[]⟩, .slice none 0 0] 37)
      have hBW' := hBW.alloc (by have := hV1.lt; omega) (.cells #[.int .i64 0, .int .i64 0, .string ⟨#[]⟩, .slice none 0 0] 37)
      have hz := hV1.lt
      have hc2 := HLI.out _ (HT.out.below hBW')
      have HV1 := Lib.hid hV1'
      have HU1 := Lib.hid hU1
      have HBW := Lib.hid hBW'
      clear hB1 hV1 hBW hrd hU1 hV1' hBW'
      go_wp2_with fail
      refine hc2.mono ?_
      rintro e W2 ⟨hB2, rfl⟩
      have hV2 := HV1.out.below hB2
      have hU2 := HU1.out.below hB2
      have hBW2 := HBW.out.trans (hB2.mono HBW.out.size)
      obtain ⟨⟨c0, c1, c2, c3⟩, f0, f1, f2, f3⟩ := hV2.facts
      obtain ⟨⟨v0, v1, v2, v3⟩, g0, g1, g2, g3⟩ := hU2.facts
      have HV2 := Lib.hid hV2
      have HU2 := Lib.hid hU2
      have HBW2 := Lib.hid hBW2
      clear hB2 hV2 hU2 hBW2 hc2
      go_wp2_with fail
      have hV3 := (HV2.out.putPast (b' := W1.heap.size) (by omega) 0 0 ⟨#[]⟩ (.slice none 0 0)).put 0 0 ⟨#[]⟩ (.slice none 0 0)
      have hB := below_put (below_put HBW2.out (b := W1.heap.size) (by omega) 0 0 ⟨#[]⟩ (.slice none 0 0)) (b := W.heap.size) (Nat.le_refl _) 0 0 ⟨#[]⟩ (.slice none 0 0)
      unfold putBox at hV3 hB
      generalize ((((((((W2.setCell ⟨W1.heap.size, 0, none⟩ (.int .i64 0)).setCell ⟨W1.heap.size, 1, none⟩ (.int .i64 0)).setCell ⟨W1.heap.size, 2, none⟩ (.string ⟨#[]⟩)).setCell ⟨W1.heap.size, 3, none⟩ (.slice none 0 0)).setCell ⟨W.heap.size, 0, none⟩ (.int .i64 0)).setCell ⟨W.heap.size, 1, none⟩ (.int .i64 0)).setCell ⟨W.heap.size, 2, none⟩ (.string ⟨#[]⟩)).setCell ⟨W.heap.size, 3, none⟩ (.slice none 0 0)) = W9 at hV3 hB ⊢
      obtain ⟨⟨x0, x1, x2, x3⟩, _⟩ := hV3.facts
      exact bodyPost_ret (v := .tuple #[valV 0 0 ⟨#[]⟩ (.slice none 0 0), .int .i64 (p : Int), .int .i64 30]) (by simp [results, Tryz.results10, go_sem, x0, x1, x2, x3]) rfl ⟨hB, rfl⟩
    | some x =>
      obtain ⟨us, k⟩ := x
      have hpk := HGE.out us k rfl
      simp only [Option.map_some]
      go_enter Tryz.func10, Tryz.ntmps10
      go_wp2_with fail
      refine hrd.mono ?_
      rintro e W1 ⟨hB1, rfl⟩
      have hV1 := HV0.out.below hB1
      have hBW := HB0.out.trans (hB1.mono (by simp))
      have hU1 := VBox.new W1 0 0 ⟨#[]⟩ (.slice none 0 0)
      have hV1' := hV1.alloc (.cells #[.int .i64 0, .int .i64 0, .string ⟨#[]⟩, .slice none 0 0] 37)
      have hBW' := hBW.alloc (by have := hV1.lt; omega) (.cells #[.int .i64 0, .int .i64 0, .string ⟨#[]⟩, .slice none 0 0] 37)
      have hz := hV1.lt
      have hc2 := HLI.out _ (HT.out.below hBW')
      have HV1 := Lib.hid hV1'
      have HU1 := Lib.hid hU1
      have HBW := Lib.hid hBW'
      clear hB1 hV1 hBW hrd hU1 hV1' hBW'
      go_wp2_with fail
      refine hc2.mono ?_
      rintro e W2 ⟨hB2, hl12, hfl, pp, pm, pc, rfl, hat, hbk⟩
      have hV2 := HV1.out.below hB2
      have hU2 := HU1.out.below hB2
      have hBW2 := HBW.out.trans (hB2.mono HBW.out.size)
      obtain ⟨⟨c0, c1, c2, c3⟩, f0, f1, f2, f3⟩ := hV2.facts
      obtain ⟨⟨v0, v1, v2, v3⟩, g0, g1, g2, g3⟩ := hU2.facts
      have hbk2 : ∀ a, pp = some a → W1.heap.size + 1 ≤ a.block := fun a ha => by have := hbk a ha; simpa using this
      have hX1 := vat_put hat (.inr ⟨us, rfl, hfl⟩) W1.heap.size (fun a ha => by have := hbk2 a ha; omega) 5 0 ⟨#[]⟩ (.slice pp pm pc)
      have hX2 := vat_put hX1 (.inr ⟨us, rfl, hfl⟩) W.heap.size (fun a ha => by have := hbk2 a ha; omega) 5 0 ⟨#[]⟩ (.slice pp pm pc)
      have HV2 := Lib.hid hV2
      have hloc : ∀ a, pp = some a → W.heap.size ≤ a.block := fun a ha => by have := hbk2 a ha; omega
      have HLOC := Lib.hid hloc
      clear hloc
      have HX := Lib.hid hX2
      have HBW2 := Lib.hid hBW2
      clear hB2 hV2 hU2 hBW2 hc2 hat hbk hfl hl12 hX1 hX2 hbk2
      go_wp2_with fail
      have hV3 := (HV2.out.putPast (b' := W1.heap.size) (by omega) 5 0 ⟨#[]⟩ (.slice pp pm pc)).put 5 0 ⟨#[]⟩ (.slice pp pm pc)
      have hB := below_put (below_put HBW2.out (b := W1.heap.size) (by omega) 5 0 ⟨#[]⟩ (.slice pp pm pc)) (b := W.heap.size) (Nat.le_refl _) 5 0 ⟨#[]⟩ (.slice pp pm pc)
      have hX := HX.out
      unfold putBox at hV3 hB hX
      generalize ((((((((W2.setCell ⟨W1.heap.size, 0, none⟩ (.int .i64 5)).setCell ⟨W1.heap.size, 1, none⟩ (.int .i64 0)).setCell ⟨W1.heap.size, 2, none⟩ (.string ⟨#[]⟩)).setCell ⟨W1.heap.size, 3, none⟩ (.slice pp pm pc)).setCell ⟨W.heap.size, 0, none⟩ (.int .i64 5)).setCell ⟨W.heap.size, 1, none⟩ (.int .i64 0)).setCell ⟨W.heap.size, 2, none⟩ (.string ⟨#[]⟩)).setCell ⟨W.heap.size, 3, none⟩ (.slice pp pm pc)) = W9 at hV3 hB hX ⊢
      obtain ⟨⟨x0, x1, x2, x3⟩, _⟩ := hV3.facts
      exact bodyPost_ret (v := .tuple #[valV 5 0 ⟨#[]⟩ (.slice pp pm pc), .int .i64 (k : Int), .int .i64 0]) (by simp [results, Tryz.results10, go_sem, x0, x1, x2, x3]) rfl ⟨hB, ⟨5, 0, ⟨#[]⟩, pp, pm, pc⟩, by show _ = Ending.returned (.tuple #[valV 5 0 ⟨#[]⟩ (.slice pp pm pc), .int .i64 ((p : Int) + ((k - p : Nat) : Int)), .int .i64 0]); rw [show (p : Int) + ((k - p : Nat) : Int) = k from by omega], hX, .inr HLOC.out⟩
theorem readTop_in (s : ByteArray) (hs : s.size ≤ 140737488355327) (p : Nat) (hp : p ≤ s.size) (W : World) (hT : Tabs W) :
    Calls Tryz.prog 10 #[.string s, .int .i64 (p : Int)] W (readTopPost s p W) := by
  refine (readTop_loc s hs p hp W hT).mono ?_
  rintro e W' ⟨hb, h⟩
  refine ⟨hb, ?_⟩
  rw [if_neg (by omega), Int.toNat_natCast]
  cases hd : readV (s.data.toList.drop p) with
  | none => rw [hd] at h; exact h
  | some x =>
    rw [hd] at h
    obtain ⟨y, h1, h2, _⟩ := h
    exact ⟨y, h1, h2⟩
end Go.Proofs.YtffoklhopmhjaaaGreatDoor

/- append(nil, xs...): a copy. -/
set_option linter.unusedSimpArgs false
set_option linter.unusedVariables false
namespace Go.Proofs.YtffoklhopmhjaaaGreatDoor
open Go Go.RowKit

theorem run_append_zero {P : Program} {w : World} (t ty e : TypeId) (i : TypeInfo) (ht : P.underlying t = some (.slice e)) (hi : P.info? e = some i) (p : Option Addr) (c : Nat) :
    (Builtin.append_ #[t, t] ty #[.slice none 0 0, .slice p 0 c]).run P w = .ok (.slice none 0 0) w := by
  cases p <;> simp [Builtin.append_, run_underlying ht, sizeOf, typeInfo, hi, Builtin.lenOf, Builtin.firstCells, loadCells, loadCellsFrom, Result.andThen]
theorem wpList_append_zero {P : Program} {w : World} {ops : Array Oper} {rest : List Oper} {o : Oper} {a : Act} {Q : Exit → Act → World → Prop} (hgd : o.guard = none) (s x : Operand) (t : TypeId)
    (ho : o.op = .call { callee := .builtin .append, args := #[s, x], argTypes := #[t, t] })
    (e : TypeId) (i : TypeInfo) (ht : P.underlying t = some (.slice e)) (hi : P.info? e = some i)
    (p : Option Addr) (c : Nat) (hs : a.eval s = .slice none 0 0) (hx : a.eval x = .slice p 0 c)
    (h : wpList P ops Q rest (a.put o.dst (.slice none 0 0)) w) : wpList P ops Q (o :: rest) a w := by
  refine wpList_plain hgd fun K hK => ?_
  have hrun := run_append_zero (P := P) (w := w) t o.type e i ht hi p c
  unfold Oper.wp
  simp [execOp, ho, resolve, invoke, builtin, hs, hx, hrun, Result.andThen]
  exact hK _ _ h
/-- append(nil, xs...): a copy in memory of its own -/
theorem wpList_append_copy {P : Program} {w : World} {ops : Array Oper} {rest : List Oper} {o : Oper} {a : Act} {Q : Exit → Act → World → Prop} (hgd : o.guard = none) (s x : Operand) (t : TypeId)
    (ho : o.op = .call { callee := .builtin .append, args := #[s, x], argTypes := #[t, t] })
    (base : Nat) (e : TypeId) (i : TypeInfo) (z : Value) (size bytes : Nat) (ht : P.underlying t = some (.slice e)) (hi : P.info? e = some i) (hz : i.zero = some z)
    (hsize : i.size = size) (hby : i.bytes = bytes) (hzs : z.cells.size = size) (hsz : 0 < size)
    (hs : a.eval s = .slice none 0 0) (p : Option Addr) (m c : Nat) (xs : List Value) (hx : a.eval x = .slice p m c) (hL : Lies w (.slice p m c) m size xs) (h1 : ∀ u ∈ xs, u.oneCell' = true)
    (h63 : m ≤ maxLen) (hbytes : m * bytes ≤ 140737488355328) (hbase : base ≤ w.heap.size)
    (h : ∀ p' c' w', w'.ownsRow base e size (.slice p' m c') m xs → w.grownBy w' none → wpList P ops Q rest (a.put o.dst (.slice p' m c')) w') : wpList P ops Q (o :: rest) a w := by
  rcases Nat.eq_zero_or_pos m with rfl | hm
  · have e0 : xs = [] := List.eq_nil_of_length_eq_zero (by have := hL.1; omega)
    subst e0
    exact wpList_append_zero hgd s x t ho e i ht hi p c hs hx (h none 0 w (World.ownsRow_nil _ _ _ _) ⟨rfl, rfl, rfl, Nat.le_refl _, fun _ _ _ => rfl⟩)
  · obtain ⟨b, off, rfl, hb, hc⟩ : ∃ b off, p = some ⟨b, off, none⟩ ∧ b < w.heap.size ∧ ∀ j u, xs[j]? = some u → w.cell? ⟨b, off + j, none⟩ = some u := by
      rcases hL.2 with ⟨h0, _⟩ | ⟨b, off, c', hv, hb, hc⟩
      · omega
      · injection hv with h1 _ _
        exact ⟨b, off, h1, hb, hc⟩
    refine wpList_append_lies w hgd s x t ho base e i z size bytes ht hi hz hsize hby hzs hsz (Value.slice none 0 0) 0 [] hs (World.ownsRow_nil _ _ _ _) ⟨b, off, none⟩ m c xs hx hL.1 (fun j u hu => ?_) h1 hm (by omega) (by rw [Nat.zero_add]; exact hbytes) hbase w.heap.size rfl ?_
    · have := hc j u hu
      rwa [show (⟨b, off, none⟩ : Addr).add j = ⟨b, off + j, none⟩ from by unfold Addr.add; split <;> simp_all]
    · intro g cap w' hown hg _ _
      rw [Nat.zero_add] at hown ⊢
      exact h _ _ w' hown hg

end Go.Proofs.YtffoklhopmhjaaaGreatDoor

/- val.lay of lists without items. -/
set_option linter.unusedSimpArgs false
set_option linter.unusedVariables false
namespace Go.Proofs.YtffoklhopmhjaaaGreatDoor
open Go Go.RowKit Go.Shelf

set_option maxHeartbeats 4000000 in
set_option maxRecDepth 100000 in
theorem lay_empty' (B b : Nat) (l : List UInt8) (n : Int) (s : ByteArray) (p : Option Addr) (c : Nat) (w : World) (h : Holds B b l w)
    (hlen : l.length + (Wire.num 5).length + (Wire.num 0).length ≤ 140737488355328) :
    Calls Tryz.prog 26 #[.pointer (some ⟨b, 0, none⟩), valV 5 n s (.slice p 0 c)] w fun e w' => e = .returned (.tuple #[]) ∧ Laid B b (l ++ Wire.num 5 ++ Wire.num 0) w w' := by
  have hlt := holds_lt h
  have h0 := laid_box h (.cells #[.int .i64 5, .int .i64 n, .string s, .slice p 0 c] 37)
  have b0 : (w.alloc (.cells #[.int .i64 5, .int .i64 n, .string s, .slice p 0 c] 37)).heap[w.heap.size]? = some (.cells #[.int .i64 5, .int .i64 n, .string s, .slice p 0 c] 37 (0, 0)) := World.alloc_heap_new _ _
  go_enter Tryz.func26, Tryz.ntmps26
  go_wp2_with fail
  refine (num_any 5 (by decide) (by decide) _).mono ?_
  rintro e w1 ⟨rfl, hB1⟩
  obtain ⟨h1, b1⟩ := laid_call h0 hB1 (by simp; omega) b0
  go_wp2_with fail
  refine (writeString_laid B b l _ _ h1.1 (by omega)).mono ?_
  rintro e w2 ⟨rfl, hL⟩
  obtain ⟨h2, b2⟩ := laid_write h1 hL b1 (by omega)
  have c0 : w2.cell? ⟨w.heap.size, 0, none⟩ = some (.int .i64 5) := by rw [Lib.cell_of_heap b2]; rfl
  have c3 : w2.cell? ⟨w.heap.size, 3, none⟩ = some (.slice p 0 c) := by rw [Lib.cell_of_heap b2]; rfl
  clear h0 b0 h1 b1 hB1 hL
  go_wp2_with fail
  refine (num_any 0 (by omega) (by omega) _).mono ?_
  rintro e w3 ⟨rfl, hB3⟩
  obtain ⟨h3, b3⟩ := laid_call h2 hB3 (by have := holds_lt h2.1; omega) b2
  go_wp2_with fail
  refine (writeString_laid B b _ _ _ h3.1 (by rw [List.length_append]; omega)).mono ?_
  rintro e w4 ⟨rfl, hL⟩
  obtain ⟨h4, b4⟩ := laid_write h3 hL b3 (by omega)
  have c4 : w4.cell? ⟨w.heap.size, 3, none⟩ = some (.slice p 0 c) := by rw [Lib.cell_of_heap b4]; rfl
  clear h2 b2 h3 b3 hB3 hL c0 c3
  have H4 := Lib.hid h4
  clear h4
  go_wp2_with fail
  go_loopw [46] (fun i wr => i = .int .i64 0 ∧ w4 = wr) (fun i _ => 0)
  case atStart => exact ⟨rfl, rfl⟩
  case round =>
    obtain ⟨rfl, rfl⟩ := hrel
    go_wp2_with fail
    go_end0
    exact ⟨rfl, H4.out⟩

theorem lay_empty (B b : Nat) (n : Int) (s : ByteArray) (p : Option Addr) (c : Nat) (w : World) (h : Holds B b [] w)
    (hlen : (Wire.num 5).length + (Wire.num ([] : List It).length).length + (itemsBytes []).length ≤ 140737488355328) :
    Calls Tryz.prog 26 #[.pointer (some ⟨b, 0, none⟩), valV 5 n s (.slice p 0 c)] w fun e w' => e = .returned (.tuple #[]) ∧ Laid B b (Wire.num 5 ++ Wire.num ([] : List It).length ++ itemsBytes []) w w' := by
  have := lay_empty' B b [] n s p c w h (by simp only [List.length_nil] at hlen ⊢; simp only [itemsBytes, List.length_nil] at hlen; have e : ((0 : Nat) : Int) = 0 := rfl; rw [e] at hlen; omega)
  simpa [itemsBytes] using this
end Go.Proofs.YtffoklhopmhjaaaGreatDoor


/- val.Encode. -/
set_option linter.unusedSimpArgs false
set_option linter.unusedVariables false
namespace Go.Proofs.YtffoklhopmhjaaaGreatDoor
open Go Go.RowKit Go.Shelf

/-- val.lay, of any right value that lies below the builder -/
theorem lay_V (d : Nat) (v : V) (x : It) (w0 : World) (hx : VAt d w0 v x) (hok : v.ok = true) (b : Nat) (w : World) (hw : Below w0.heap.size w0 w) (h : Holds w0.heap.size b [] w) :
    Calls Tryz.prog 26 #[.pointer (some ⟨b, 0, none⟩), x.v] w fun e w' => e = .returned (.tuple #[]) ∧ Laid w0.heap.size b v.bytes w w' := by
  obtain ⟨h1, h2, h3, h4, ys, h5, h6, h7, h8, h9, h10⟩ := items_of hx
  have hf := hx.top.1
  obtain ⟨k, n, s, p, m, c⟩ := x
  simp only at h1 h2 h3 h4 h6
  have hb : v.bytes.length ≤ 140737488355328 := by
    unfold V.bytes
    split
    · rename_i h5'
      obtain ⟨_, e2, e3⟩ := ok_list hok h5'
      have hfl : ∀ us : List V, (∀ u ∈ us, u.okIn = true) → (us.flatMap V.bytesIn).length ≤ us.length * 10020 := by
        intro us
        induction us with
        | nil => intro _; simp
        | cons u us ih =>
          intro hu
          have := ih (fun v hv => hu v (by simp [hv]))
          have hq := flatOk_parts (okIn_parts (hu u (by simp))).2
          have := flatBytes_len (k := u.k) (n := u.n) (s := u.s) ⟨by omega, by omega⟩ ⟨by omega, by omega⟩ (by omega)
          rw [List.flatMap_cons, List.length_append, List.length_cons]
          unfold V.bytesIn at *
          omega
      have := hfl v.l e3
      have n5 := Wire.num_len 5 ⟨by decide, by decide⟩
      have nl := Wire.num_len (v.l.length : Int) ⟨by omega, by omega⟩
      simp only [List.length_append]
      omega
    · rename_i h5'
      have hq := flatOk_parts (ok_flat hok h5')
      have := flatBytes_len (k := v.k) (n := v.n) (s := v.s) ⟨by omega, by omega⟩ ⟨by omega, by omega⟩ (by omega)
      unfold V.bytesIn
      omega
  by_cases hk : v.k = 5
  · obtain ⟨e1, e2, e3⟩ := ok_list hok hk
    have eb : v.bytes = Wire.num 5 ++ Wire.num v.l.length ++ v.l.flatMap V.bytesIn := by unfold V.bytes; rw [if_pos hk]
    rw [eb] at hb ⊢
    rw [hk] at h1
    rw [← h8, ← h5] at hb ⊢
    have hfl : ∀ y ∈ ys, y.flat := by
      intro y hy
      obtain ⟨u, hu, a1, a2, a3, a4, a5⟩ := h10 y hy
      have hq := okIn_parts (e3 u hu)
      have hq2 := flatOk_parts hq.2
      exact ⟨by rw [a1]; exact hq.1, by rw [a1]; omega, by rw [a2]; omega, by rw [a3]; omega⟩
    subst h1
    simp only [List.length_append] at hb
    rcases h6.2 with ⟨z, q, c', hv⟩ | ⟨g, off, c', hv, hlt, hc⟩
    · have hz : ys = [] := List.eq_nil_of_length_eq_zero z
      have hm : m = 0 := by injection hv
      subst hz hm
      exact lay_empty w0.heap.size b n s p c w h (by simpa using hb)
    · have hm : m = ys.length := by injection hv
      have hp : p = some ⟨g, off, none⟩ := by injection hv
      subst hm hp
      have := lay_list w0.heap.size b [] n s g off c ys hfl (by omega) w h hlt (fun i hi j u hu => by
        rw [hw.cell (p := ⟨g, off + i * 4 + j, none⟩) hlt, Nat.add_assoc]
        exact hc _ _ (itsCells_at ys i hi j u hu)) (by simp only [List.length_nil]; omega)
      simpa using this
  · have hq := flatOk_parts (ok_flat hok hk)
    have eb : v.bytes = flatBytes v.k v.n v.s := by unfold V.bytes; rw [if_neg hk]; rfl
    rw [eb] at hb ⊢
    rw [← h1, ← h2, ← h3] at hb hq ⊢
    have := lay_flat w0.heap.size b [] k n (by rw [h1]; exact hk) (by omega) (by omega) (by omega) (by omega) s (by omega) (.slice p m c) w h (by simpa using hb)
    simpa using this

/-- val.Encode, of any value that lies -/
def encPost (v : V) (w : World) (e : Ending) (w' : World) : Prop :=
  e = .returned (.tuple #[.string ⟨(if v.ok then v.bytes else []).toArray⟩, .int .i64 (if v.ok then 0 else 30)]) ∧ Below w.heap.size w w'

set_option maxHeartbeats 2000000 in
set_option maxRecDepth 100000 in
theorem encode_V (d : Nat) (v : V) (x : It) (w : World) (hx : VAt d w v x) (hT : Tabs w) :
    Calls Tryz.prog 7 #[x.v] w (encPost v w) := by
  have hr : ∀ W, Below w.heap.size w W → Calls Tryz.prog 25 #[x.v] W fun e w' => e = .returned (.bool v.ok) ∧ Below W.heap.size W w' := fun W hW => right_V d v x W (hx.below hW) (hT.below hW)
  have hl : v.ok = true → ∀ W0, Below w.heap.size w W0 → ∀ b W, Below W0.heap.size W0 W → Holds W0.heap.size b [] W → Calls Tryz.prog 26 #[.pointer (some ⟨b, 0, none⟩), x.v] W fun e w' => e = .returned (.tuple #[]) ∧ Laid W0.heap.size b v.bytes W w' := fun ho W0 h0 b W hW hH => lay_V d v x W0 (hx.below h0) ho b W hW hH
  have HR := Lib.hid hr
  have HL := Lib.hid hl
  clear hr hl hT hx
  obtain ⟨k, n, s, p, m, c⟩ := x
  unfold encPost
  generalize hb : v.ok = ok
  have HB := Lib.hid hb; clear hb
  go_enter Tryz.func7, Tryz.ntmps7
  go_wp2_with fail
  refine (HR.out _ ((Below.refl _ _).alloc (Nat.le_refl _) _)).mono ?_
  rintro e w1 ⟨rfl, hB1⟩
  rw [HB.out]
  have hBw1 : Below w.heap.size w w1 := ((Below.refl _ w).alloc (Nat.le_refl _) _).trans (hB1.mono (by simp))
  have b0 : w1.heap[w.heap.size]? = some (.cells #[.int .i64 k, .int .i64 n, .string s, .slice p m c] 37 (0, 0)) := (hB1.block _ (by simp)).trans (World.alloc_heap_new _ _)
  have hz1 : w.heap.size + 1 ≤ w1.heap.size := by have := hB1.size; simpa using this
  cases ok with
  | true =>
    have hH : Holds w1.heap.size w1.heap.size [] (w1.alloc (.cells #[.pointer none, .slice none 0 0] 66)) := Lib.IsBuilderF.of (Lib.fresh_isBuilder _ _ _)
    have hb2 : (w1.alloc (.cells #[.pointer none, .slice none 0 0] 66)).heap[w.heap.size]? = some (.cells #[.int .i64 k, .int .i64 n, .string s, .slice p m c] 37 (0, 0)) := (Lib.alloc_old w1 _ _ (by omega)).trans b0
    have hBw2 : Below w1.heap.size w1 (w1.alloc (.cells #[.pointer none, .slice none 0 0] 66)) := (Below.refl _ _).alloc (Nat.le_refl _) _
    have c0 : (w1.alloc (.cells #[.pointer none, .slice none 0 0] 66)).cell? ⟨w.heap.size, 0, none⟩ = some (.int .i64 k) := by rw [Lib.cell_of_heap hb2]; rfl
    have c1 : (w1.alloc (.cells #[.pointer none, .slice none 0 0] 66)).cell? ⟨w.heap.size, 1, none⟩ = some (.int .i64 n) := by rw [Lib.cell_of_heap hb2]; rfl
    have c2 : (w1.alloc (.cells #[.pointer none, .slice none 0 0] 66)).cell? ⟨w.heap.size, 2, none⟩ = some (.string s) := by rw [Lib.cell_of_heap hb2]; rfl
    have c3 : (w1.alloc (.cells #[.pointer none, .slice none 0 0] 66)).cell? ⟨w.heap.size, 3, none⟩ = some (.slice p m c) := by rw [Lib.cell_of_heap hb2]; rfl
    have HH := Lib.hid hH
    clear hH hb2 b0
    go_wp2_with fail
    refine (HL.out HB.out _ hBw1 _ _ hBw2 HH.out).mono ?_
    rintro e w3 ⟨rfl, hL⟩
    have HLA := Lib.hid hL
    clear hL
    go_wp2_with fail
    refine (Tryz.Builder_String_any_k _ _ v.bytes _ HLA.out.1 (Nat.le_trans hBw2.size HLA.out.2.1.size)).mono ?_
    rintro e w4 ⟨rfl, _, hB4, _⟩
    have hfin := hBw1.trans (((hBw2.trans HLA.out.2.1).trans hB4).mono hBw1.size)
    go_wp2_with fail
    go_ret2
    exact ⟨rfl, hfin⟩
  | false =>
    go_wp2_with fail
    go_ret2
    exact ⟨rfl, hBw1⟩
end Go.Proofs.YtffoklhopmhjaaaGreatDoor

/- morainelaw03.pick; moraineref03.Sign. -/
set_option linter.unusedSimpArgs false
set_option linter.unusedVariables false
namespace Go.Proofs.YtffoklhopmhjaaaGreatDoor
open Go Go.RowKit Go.Shelf

theorem getD_at (s : ByteArray) (k : Nat) (h : k < s.size) : s.data.toList.getD k 0 = s[k] := by
  have h' : k < s.data.toList.length := by simpa using h
  rw [List.getD_eq_getElem?_getD, List.getElem?_eq_getElem h']
  rfl
theorem signL_eq (s : ByteArray) (h : 0 < s.size) : signL s.data.toList = signN s.size (s.data.toList.getD 0 0).toNat (s.data.toList.getD 1 0).toNat (s.data.toList.getD 2 0).toNat (s.data.toList.getD 3 0).toNat := by
  unfold signL
  have hl : s.data.toList.length = s.size := by simp
  rw [if_neg (fun e => by rw [e] at hl; simp at hl; omega), hl]
theorem signL_empty (s : ByteArray) (h : s.size = 0) : signL s.data.toList = 0 := by
  unfold signL
  rw [if_pos (List.eq_nil_of_length_eq_zero (by simpa using h))]
end Go.Proofs.YtffoklhopmhjaaaGreatDoor

/- moraineref03.Sign, some classes of first bytes. -/
set_option linter.unusedSimpArgs false
set_option linter.unusedVariables false
namespace Go.Proofs.YtffoklhopmhjaaaGreatDoor
open Go Go.RowKit Go.Shelf

end Go.Proofs.YtffoklhopmhjaaaGreatDoor

/- moraineref03.Sign, some classes of first bytes. -/
set_option linter.unusedSimpArgs false
set_option linter.unusedVariables false
namespace Go.Proofs.YtffoklhopmhjaaaGreatDoor
open Go Go.RowKit Go.Shelf

end Go.Proofs.YtffoklhopmhjaaaGreatDoor

/- moraineref03.Sign, some classes of first bytes. -/
set_option linter.unusedSimpArgs false
set_option linter.unusedVariables false
namespace Go.Proofs.YtffoklhopmhjaaaGreatDoor
open Go Go.RowKit Go.Shelf

end Go.Proofs.YtffoklhopmhjaaaGreatDoor

/- moraineref03.Sign, some classes of first bytes. -/
set_option linter.unusedSimpArgs false
set_option linter.unusedVariables false
namespace Go.Proofs.YtffoklhopmhjaaaGreatDoor
open Go Go.RowKit Go.Shelf

end Go.Proofs.YtffoklhopmhjaaaGreatDoor

/- moraineref03.Sign. -/
set_option linter.unusedSimpArgs false
set_option linter.unusedVariables false
namespace Go.Proofs.YtffoklhopmhjaaaGreatDoor
open Go Go.RowKit Go.Shelf

end Go.Proofs.YtffoklhopmhjaaaGreatDoor

/- moraineref03.IsText. -/
set_option linter.unusedSimpArgs false
set_option linter.unusedVariables false
namespace Go.Proofs.YtffoklhopmhjaaaGreatDoor
open Go Go.RowKit Go.Shelf

theorem extract_toList' (s : ByteArray) (a b : Nat) : (s.extract a b).data.toList = (s.data.toList.drop a).take (b - a) := by
  rw [← Lib.toList_data, Lib.extract_toList]
theorem extract_end (s : ByteArray) (a : Nat) : (s.extract a s.size).data.toList = s.data.toList.drop a := by
  rw [extract_toList', List.take_of_length_le (by simp)]
theorem textOk_at (s : ByteArray) (k : Nat) (h : k < s.size) : textOk (s.data.toList.drop k) = if signL (s.data.toList.drop k) = 0 ∨ (s[k].toNat : Int) < 32 ∨ (s[k].toNat : Int) = 127 then false else textOk (s.data.toList.drop (k + signL (s.data.toList.drop k))) := by
  have h' : k < s.data.toList.length := by simpa using h
  have hd : s.data.toList.drop k = s[k] :: s.data.toList.drop (k + 1) := by rw [List.drop_eq_getElem_cons h']; rfl
  have hne : s.data.toList.drop k ≠ [] := by rw [hd]; simp
  rw [textOk_step _ hne, List.drop_drop]
  have e : ((s.data.toList.drop k).getD 0 0).toNat = s[k].toNat := by rw [hd]; rfl
  rw [e]
  by_cases hs : signL (s.data.toList.drop k) = 0 ∨ (s[k].toNat : Int) < 32 ∨ (s[k].toNat : Int) = 127
  · rw [if_pos hs, if_pos (by omega)]
  · rw [if_neg hs, if_neg (by omega)]

end Go.Proofs.YtffoklhopmhjaaaGreatDoor

/- morainelaw03.ValText. -/
set_option linter.unusedSimpArgs false
set_option linter.unusedVariables false
namespace Go.Proofs.YtffoklhopmhjaaaGreatDoor
open Go Go.RowKit Go.Shelf

def vtAt (s : ByteArray) (k : Nat) (out : List UInt8) : List UInt8 := vtGo (s.size - k) (s.data.toList.drop k) out
theorem vtAt_stop (s : ByteArray) (k : Nat) (out : List UInt8) (h : s.size ≤ k ∨ 17 ≤ out.length) : vtAt s k out = out := by
  unfold vtAt
  cases hf : s.size - k with
  | zero => rfl
  | succ f =>
    unfold vtGo
    rw [if_pos]
    rcases h with h | h
    · omega
    · exact .inr h
theorem vtAt_step (s : ByteArray) (k : Nat) (out : List UInt8) (hk : k < s.size) (h : out.length < 17) (n : Nat) (hn : n = max (signL (s.data.toList.drop k)) 1) : vtAt s k out = vtAt s (k + n) (if textOk (s.extract k (k + n)).data.toList = true then out ++ (s.extract k (k + n)).data.toList else out) := by
  have hl : (s.data.toList.drop k).length = s.size - k := by simp
  have hne : s.data.toList.drop k ≠ [] := fun e => by rw [e] at hl; simp at hl; omega
  obtain ⟨f, hf⟩ : ∃ f, s.size - k = f + 1 := ⟨s.size - k - 1, by omega⟩
  have e1 : (s.extract k (k + n)).data.toList = (s.data.toList.drop k).take n := by rw [extract_toList', Nat.add_sub_cancel_left]
  rw [e1]
  unfold vtAt
  rw [hf]
  conv => lhs; unfold vtGo
  rw [if_neg (by rintro (h' | h'); exact hne h'; omega), ← hn, List.drop_drop]
  exact vtGo_fuel _ _ _ _ (by rw [List.length_drop]; simp; omega) (by rw [List.length_drop]; simp)

end Go.Proofs.YtffoklhopmhjaaaGreatDoor

/- A block of cells, of any type. -/
set_option linter.unusedSimpArgs false
set_option linter.unusedVariables false
namespace Go.Proofs.YtffoklhopmhjaaaGreatDoor
open Go Go.RowKit Go.Shelf

/-- block b is these cells -/
def Bx (W : World) (b : Nat) (T : TypeId) (A : Array Value) : Prop := W.heap[b]? = some (.cells A T (0, 0))
section
variable {W W' : World} {b : Nat} {T : TypeId} {A : Array Value}
theorem Bx.lt (h : Bx W b T A) : b < W.heap.size := (Array.getElem?_eq_some_iff.1 h).1
theorem Bx.new (W : World) (T : TypeId) (A : Array Value) : Bx (W.alloc (.cells A T)) W.heap.size T A := World.alloc_heap_new _ _
theorem Bx.alloc (h : Bx W b T A) (x : Obj) : Bx (W.alloc x) b T A := (Lib.alloc_old W x b h.lt).trans h
theorem Bx.below (h : Bx W b T A) (hb : Below W.heap.size W W') : Bx W' b T A := (hb.block b h.lt).trans h
theorem Bx.below' {B : Nat} (h : Bx W b T A) (hb : Below B W W') (hlt : b < B) : Bx W' b T A := (hb.block b hlt).trans h
theorem Bx.past (h : Bx W b T A) (a : Addr) (ha : b ≠ a.block) (u : Value) : Bx (W.setCell a u) b T A := (Below.heap_setCell W a u b ha).trans h
theorem Bx.kept {r : Nat} (h : Bx W b T A) (hb : W.grownBy W' (some r)) (hne : b ≠ r) : Bx W' b T A := (hb.block b h.lt (fun e => hne (Option.some.inj e))).trans h
theorem Bx.grown {r : Option Nat} (h : Bx W b T A) (hb : W.grownBy W' r) (hne : some b ≠ r) : Bx W' b T A := (hb.block b h.lt hne).trans h
theorem Bx.at (h : Bx W b T A) (i : Nat) {u : Value} (hu : A[i]? = some u) : W.cell? ⟨b, i, none⟩ = some u := by
  rw [Lib.cell_of_heap h]; exact hu
theorem Bx.free (h : Bx W b T A) (i : Nat) : W.frozen? ⟨b, i, none⟩ = false := Lib.frozen_of_heap h i
theorem Bx.set (h : Bx W b T A) (i : Nat) (u : Value) : Bx (W.setCell ⟨b, i, none⟩ u) b T (A.setIfInBounds i u) := heap_setCell_same W b i _ _ u h
theorem Bx.lies {n c size : Nat} {xs : List Value} (h : Bx W b T A) (hx : A.toList = xs) (hl : xs.length = n * size) : Lies W (.slice (some ⟨b, 0, none⟩) n c) n size xs :=
  ⟨hl, .inr ⟨b, 0, c, rfl, h.lt, fun j u hu => by rw [Nat.zero_add]; exact h.at j (by rw [← Array.getElem?_toList, hx]; exact hu)⟩⟩
end
/-- the result's box, written at the end -/
theorem out_box {B b : Nat} {w W : World} {k n : Int} {s : ByteArray} {l : Value} (hV : VBox W b k n s l) (hB : Below B w W) (hb : B ≤ b) (k' n' : Int) (s' : ByteArray) (l' : Value) :
    VBox (putBox W b k' n' s' l') b k' n' s' l' ∧ Below B w (putBox W b k' n' s' l') := ⟨hV.put k' n' s' l', below_put hB hb k' n' s' l'⟩
end Go.Proofs.YtffoklhopmhjaaaGreatDoor

/- moraineref03.Compare, moraineref03.Same. -/
set_option linter.unusedSimpArgs false
set_option linter.unusedVariables false
namespace Go.Proofs.YtffoklhopmhjaaaGreatDoor
open Go Go.RowKit Go.Shelf

end Go.Proofs.YtffoklhopmhjaaaGreatDoor

/- moraineref03.Compare where the kinds, the numbers and the texts are alike. -/
set_option linter.unusedSimpArgs false
set_option linter.unusedVariables false
namespace Go.Proofs.YtffoklhopmhjaaaGreatDoor
open Go Go.RowKit Go.Shelf

end Go.Proofs.YtffoklhopmhjaaaGreatDoor

/- moraineref03.Compare, moraineref03.Same: any two values that lie. -/
set_option linter.unusedSimpArgs false
set_option linter.unusedVariables false
namespace Go.Proofs.YtffoklhopmhjaaaGreatDoor
open Go Go.RowKit Go.Shelf

theorem orI_one {a : Int} (l : List Int) (h : a ≠ 0) : orI (a :: l) = a := by
  show (if a = 0 then _ else a) = a
  rw [if_neg h]
theorem orI_zero {a : Int} (l : List Int) (h : a = 0) : orI (a :: l) = orI l := by
  show (if a = 0 then _ else a) = _
  rw [if_pos h]
theorem orI_last (a : Int) : orI [a] = a := by
  show (if a = 0 then 0 else a) = a
  by_cases h : a = 0
  · rw [if_pos h, h]
  · rw [if_neg h]

end Go.Proofs.YtffoklhopmhjaaaGreatDoor

/- morainelaw03.awake. -/
set_option linter.unusedSimpArgs false
set_option linter.unusedVariables false
namespace Go.Proofs.YtffoklhopmhjaaaGreatDoor
open Go Go.RowKit Go.Shelf

/-- what every walk of a law carries along -/
structure Ok (ea : Addr) (w W : World) : Prop where
  t : Tabs W
  e : errLies ea W
  b : Below w.heap.size w W
theorem Ok.below {ea : Addr} {w W W' : World} (h : Ok ea w W) (hb : Below W.heap.size W W') : Ok ea w W' := ⟨h.t.below hb, h.e.below hb, h.b.trans (hb.mono h.b.size)⟩
theorem Ok.alloc {ea : Addr} {w W : World} (h : Ok ea w W) (o : Obj) : Ok ea w (W.alloc o) := h.below ((Below.refl _ _).alloc (Nat.le_refl _) o)

theorem read_some {s : ByteArray} (hs : s.size ≤ 140737488355327) {p : Nat} (hp : p ≤ s.size) {u : V} {n : Nat} (hr : readV (s.data.toList.drop p) = some (u, n)) {W : World} (hT : Tabs W) :
    Calls Tryz.prog 10 #[.string s, .int .i64 (p : Int)] W fun e W' => ∃ x : It, e = .returned (.tuple #[x.v, .int .i64 ((p : Int) + n), .int .i64 0]) ∧ VAt 1 W' u x ∧ Below W.heap.size W W' :=
  (readTop_in s hs p hp W hT).mono fun e W' h => by
    obtain ⟨hb, h⟩ := h
    rw [if_neg (by omega), Int.toNat_natCast, hr] at h
    obtain ⟨x, h1, h2⟩ := h
    exact ⟨x, h1, h2, hb⟩
theorem read_none {s : ByteArray} (hs : s.size ≤ 140737488355327) {p : Nat} (hp : p ≤ s.size) (hr : readV (s.data.toList.drop p) = none) {W : World} (hT : Tabs W) :
    Calls Tryz.prog 10 #[.string s, .int .i64 (p : Int)] W fun e W' => e = .returned (.tuple #[valV 0 0 ⟨#[]⟩ (.slice none 0 0), .int .i64 (p : Int), .int .i64 30]) ∧ Below W.heap.size W W' :=
  (readTop_in s hs p hp W hT).mono fun e W' h => by
    obtain ⟨hb, h⟩ := h
    rw [if_neg (by omega), Int.toNat_natCast, hr] at h
    exact ⟨h, hb⟩
theorem decode_some {s : ByteArray} (hs : s.size ≤ 9223372036854775807) {p : Nat} (hp : p ≤ s.size) {u : V} {n : Nat} (hr : decV (s.data.toList.drop p) = .ok (u, n)) {ea : Addr} {W : World} (hT : Tabs W) (hE : errLies ea W) :
    Calls Tryz.prog 8 #[.string s, .int .i64 (p : Int)] W fun e W' => ∃ x : It, e = .returned (.tuple #[x.v, .int .i64 ((p : Int) + n), .int .i64 0]) ∧ VAt 1 W' u x ∧ Below W.heap.size W W' :=
  (decode_in s hs p hp ea W hT hE).mono fun e W' h => by
    obtain ⟨hb, h⟩ := h
    rw [if_neg (by omega), Int.toNat_natCast, hr] at h
    obtain ⟨x, h1, h2⟩ := h
    exact ⟨x, h1, h2, hb⟩
theorem decode_err {s : ByteArray} (hs : s.size ≤ 9223372036854775807) {p : Nat} (hp : p ≤ s.size) {n : Int} (hr : decV (s.data.toList.drop p) = .error n) {ea : Addr} {W : World} (hT : Tabs W) (hE : errLies ea W) :
    Calls Tryz.prog 8 #[.string s, .int .i64 (p : Int)] W fun e W' => e = .returned (.tuple #[valV 0 0 ⟨#[]⟩ (.slice none 0 0), .int .i64 0, .int .i64 n]) ∧ Below W.heap.size W W' :=
  (decode_in s hs p hp ea W hT hE).mono fun e W' h => by
    obtain ⟨hb, h⟩ := h
    rw [if_neg (by omega), Int.toNat_natCast, hr] at h
    exact ⟨h, hb⟩
theorem decode_arg {s : ByteArray} {p : Int} (hp : p < 0 ∨ (s.size : Int) < p) {W : World} :
    Calls Tryz.prog 8 #[.string s, .int .i64 p] W fun e W' => e = .returned (.tuple #[valV 0 0 ⟨#[]⟩ (.slice none 0 0), .int .i64 0, .int .i64 2]) ∧ Below W.heap.size W W' :=
  (decode_out s p hp W).mono fun e W' h => by
    obtain ⟨hb, h⟩ := h
    rw [if_pos hp] at h
    exact ⟨h, hb⟩
theorem encode_ok {d : Nat} {v : V} {x : It} {w : World} (hx : VAt d w v x) (hT : Tabs w) (hv : v.ok = true) :
    Calls Tryz.prog 7 #[x.v] w fun e w' => e = .returned (.tuple #[.string ⟨v.bytes.toArray⟩, .int .i64 0]) ∧ Below w.heap.size w w' :=
  (encode_V d v x w hx hT).mono fun e w' h => by
    obtain ⟨h, hb⟩ := h
    rw [hv, if_pos rfl, if_pos rfl] at h
    exact ⟨h, hb⟩
theorem encode_no {d : Nat} {v : V} {x : It} {w : World} (hx : VAt d w v x) (hT : Tabs w) (hv : v.ok = false) :
    Calls Tryz.prog 7 #[x.v] w fun e w' => e = .returned (.tuple #[.string ⟨#[]⟩, .int .i64 30]) ∧ Below w.heap.size w w' :=
  (encode_V d v x w hx hT).mono fun e w' h => by
    obtain ⟨h, hb⟩ := h
    rw [hv, if_neg (by decide), if_neg (by decide)] at h
    exact ⟨h, hb⟩

def fourV : V := .mk 5 0 ⟨#[]⟩ [.mk 1 1 ⟨#[]⟩ [], .mk 2 0 ⟨#[97, 34, 98]⟩ [], .mk 3 7 ⟨#[]⟩ [], .mk 0 0 ⟨#[]⟩ []]
theorem r1 : readV (([91, 49, 32, 34, 97, 92, 34, 98, 34, 32, 64, 55, 32, 45, 93] : List UInt8).drop 0) = some (fourV, 15) := by kernel_rfl
theorem r2 : readV (([120, 45, 53] : List UInt8).drop 1) = some (.mk 1 (-5) ⟨#[]⟩ [], 2) := by kernel_rfl
theorem r3 : readV (([45, 32, 53] : List UInt8).drop 0) = some (.mk 0 0 ⟨#[]⟩ [], 1) := by kernel_rfl
theorem r4 : readV (([48, 48, 55] : List UInt8).drop 0) = some (.mk 1 0 ⟨#[]⟩ [], 1) := by kernel_rfl
theorem r8 : readV (([120] : List UInt8).drop 0) = none := by kernel_rfl
theorem four_ok : fourV.ok = true := by kernel_rfl
theorem four_five : (cmpV 1 fourV (.mk 1 (-5) ⟨#[]⟩ []) == 0) = false := by kernel_rfl

theorem d1 : decV (([] : List UInt8).drop 0) = .error 10 := by
  have h : numL ([] : List UInt8) = none := numL_nil
  unfold decV
  simp only [List.drop_nil]
  rw [h]
theorem d2 : decV (([12] : List UInt8).drop 0) = .error 30 := by
  have h : numL ([12] : List UInt8) = some 6 := numL_of ⟨by decide, by decide⟩ (by rw [show Wire.num 6 = [12] from by kernel_rfl]; exact List.prefix_refl _)
  show decV [12] = _
  unfold decV decIn
  rw [h]
  rfl
theorem num1_bytes : (V.mk 1 1 ⟨#[]⟩ []).bytes = [2, 2] := by kernel_rfl

/-- what every walk has of the world: it began in W0, errors and tables lie -/
theorem vat_box {W : World} {b : Nat} {x : It} (h : VBox W b x.k x.n x.s (.slice x.p x.m x.c)) : True := trivial

theorem Ok.read {ea : Addr} {w W : World} (h : Ok ea w W) {s : ByteArray} (hs : s.size ≤ 140737488355327) {p : Nat} (hp : p ≤ s.size) {u : V} {n : Nat} (hr : readV (s.data.toList.drop p) = some (u, n)) :
    Calls Tryz.prog 10 #[.string s, .int .i64 (p : Int)] W fun e W' => ∃ x : It, e = .returned (.tuple #[x.v, .int .i64 ((p : Int) + n), .int .i64 0]) ∧ VAt 1 W' u x ∧ Below W.heap.size W W' ∧ Ok ea w W' :=
  (read_some hs hp hr h.t).mono fun e W' ⟨x, h1, h2, h3⟩ => ⟨x, h1, h2, h3, h.below h3⟩

/-- the blocks of awake's values: read ones, and the list that is laid out -/
structure Aw (ea : Addr) (w : World) (b1 b4 b27 : Nat) (x1 x4 x27 : It) (W : World) : Prop where
  ok : Ok ea w W
  v1 : VBox W b1 x1.k x1.n x1.s (.slice x1.p x1.m x1.c)
  a1 : VAt 1 W fourV x1
  v4 : VBox W b4 x4.k x4.n x4.s (.slice x4.p x4.m x4.c)
  a4 : VAt 1 W (.mk 1 (-5) ⟨#[]⟩ []) x4
  v27 : VBox W b27 x27.k x27.n x27.s (.slice x27.p x27.m x27.c)
  a27 : VAt 1 W fourV x27
theorem Aw.below {ea : Addr} {w W W' : World} {b1 b4 b27 : Nat} {x1 x4 x27 : It} (h : Aw ea w b1 b4 b27 x1 x4 x27 W) (hb : Below W.heap.size W W') : Aw ea w b1 b4 b27 x1 x4 x27 W' :=
  ⟨h.ok.below hb, h.v1.below hb, h.a1.below hb, h.v4.below hb, h.a4.below hb, h.v27.below hb, h.a27.below hb⟩

end Go.Proofs.YtffoklhopmhjaaaGreatDoor

/- morainelaw03.ValOne, fit. -/
set_option linter.unusedSimpArgs false
set_option linter.unusedVariables false
namespace Go.Proofs.YtffoklhopmhjaaaGreatDoor
open Go Go.RowKit Go.Shelf

theorem valOne_l (k : Int) (x : RawOne) : (valOne k x).l = [] := (valOne_ok k x).2.2
end Go.Proofs.YtffoklhopmhjaaaGreatDoor

/- morainelaw03.ValOf. -/
set_option linter.unusedSimpArgs false
set_option linter.unusedVariables false
namespace Go.Proofs.YtffoklhopmhjaaaGreatDoor
open Go Go.RowKit Go.Shelf

def RawOne.cells (x : RawOne) : List Value := [.int .i64 x.k, .int .i64 x.n, .string x.s]
def rawsCells (l : List RawOne) : List Value := l.flatMap RawOne.cells
theorem rawsCells_at : ∀ (xs : List RawOne) (i : Nat) (h : i < xs.length) (j : Nat) (v : Value), (xs[i].cells)[j]? = some v → (rawsCells xs)[i * 3 + j]? = some v
  | [], i, h, _, _, _ => absurd h (by simp)
  | x :: xs, 0, h, j, v, hv => by
    have hj : j < x.cells.length := (List.getElem?_eq_some_iff.1 hv).1
    show (x.cells ++ rawsCells xs)[0 * 3 + j]? = some v
    rw [Nat.zero_mul, Nat.zero_add, List.getElem?_append_left hj]
    exact hv
  | x :: xs, i + 1, h, j, v, hv => by
    show (x.cells ++ rawsCells xs)[(i + 1) * 3 + j]? = some v
    have hl : x.cells.length = 3 := rfl
    rw [List.getElem?_append_right (by omega), hl, show (i + 1) * 3 + j - 3 = i * 3 + j from by omega]
    exact rawsCells_at xs i (by simpa using h) j v hv
structure RawOne.fine (x : RawOne) : Prop where
  k : -9223372036854775808 ≤ x.k ∧ x.k ≤ 9223372036854775807
  n : -9223372036854775808 ≤ x.n ∧ x.n ≤ 9223372036854775807
  s : x.s.size ≤ 9223372036854775807
structure Raw.fine (x : Raw) : Prop where
  k : -9223372036854775808 ≤ x.k ∧ x.k ≤ 9223372036854775807
  n : -9223372036854775808 ≤ x.n ∧ x.n ≤ 9223372036854775807
  s : x.s.size ≤ 9223372036854775807
  l : x.l.length ≤ 9223372036854775807
  each : ∀ r ∈ x.l, r.fine

/-- what ValOf answers -/
def valOfPost (x : Raw) (w : World) (e : Ending) (w' : World) : Prop :=
  ∃ y : It, e = .returned y.v ∧ VAt 1 w' (valOf x) y ∧ Below w.heap.size w w' ∧ ∀ a, y.p = some a → w.heap.size ≤ a.block ∧ a.block < w'.heap.size

theorem valOf_flatPost {x : Raw} {w w' : World} {e : Ending} {k n : Int} {s : ByteArray} (hv : valOf x = .mk k n s []) (he : e = .returned (valV k n s (.slice none 0 0))) (hb : Below w.heap.size w w') : valOfPost x w e w' :=
  ⟨⟨k, n, s, none, 0, 0⟩, he, by have h := valOf_ok x; rw [hv] at h ⊢; exact vat_nil 1 w' (ok_fine h) rfl, hb, fun a h => by cases h⟩

end Go.Proofs.YtffoklhopmhjaaaGreatDoor

/- morainelaw03.ValOf: lists. -/
set_option linter.unusedSimpArgs false
set_option linter.unusedVariables false
namespace Go.Proofs.YtffoklhopmhjaaaGreatDoor
open Go Go.RowKit Go.Shelf

/-- the items of a list so far -/
def itemsTo (x : Raw) (i : Nat) : List V := (x.l.take i).map (fun r => valOne (pickI r.k 5) r)
theorem itemsTo_len (x : Raw) (i : Nat) (h : i ≤ x.l.length) : (itemsTo x i).length = i := by unfold itemsTo; rw [List.length_map, List.length_take]; omega
theorem itemsTo_succ (x : Raw) (i : Nat) (h : i < x.l.length) : itemsTo x (i + 1) = itemsTo x i ++ [valOne (pickI x.l[i].k 5) x.l[i]] := by
  unfold itemsTo
  rw [List.take_succ_eq_append_getElem h, List.map_append]; rfl
theorem itemsTo_flat (x : Raw) (i : Nat) : ∀ u ∈ itemsTo x i, u.flatOk = true := by
  intro u hu
  obtain ⟨r, _, rfl⟩ := List.mem_map.1 hu
  exact (valOne_ok _ _).1
theorem valOf_items {x : Raw} (h5 : ¬ pickI x.k 7 < 5) (i : Nat) (hi : i ≤ x.l.length) (h12 : i ≤ 12) (hend : ¬ (i < x.l.length ∧ i < 12)) : valOf x = .mk 5 0 ⟨#[]⟩ (itemsTo x i) := by
  unfold valOf itemsTo
  rw [if_neg h5]
  congr 2
  rcases Nat.lt_or_ge i 12 with h | h
  · rw [List.take_of_length_le (by omega), List.take_of_length_le (by omega)]
  · rw [show i = 12 from by omega]

end Go.Proofs.YtffoklhopmhjaaaGreatDoor

/- Bytes of values: lengths, what they begin with. -/
set_option linter.unusedSimpArgs false
set_option linter.unusedVariables false
namespace Go.Proofs.YtffoklhopmhjaaaGreatDoor
open Go Go.RowKit Go.Shelf

theorem num_pos (n : Int) : 0 < (Wire.num n).length := by
  rw [Wire.num_length]
  exact List.length_pos_iff.2 (Wire.groups_ne n)
theorem flat_bytes_len {u : V} (h : u.flatOk = true) : 0 < u.bytesIn.length ∧ u.bytesIn.length ≤ 10020 := by
  have hp := flatOk_parts h
  refine ⟨?_, flatBytes_len ⟨by omega, by omega⟩ ⟨by omega, by omega⟩ (by omega)⟩
  unfold V.bytesIn flatBytes
  rw [List.length_append]
  have := num_pos u.k
  omega
theorem flatMap_len : ∀ us : List V, (∀ u ∈ us, u.flatOk = true) → (us.flatMap V.bytesIn).length ≤ us.length * 10020
  | [], _ => by simp
  | u :: us, h => by
    rw [List.flatMap_cons, List.length_append, List.length_cons, Nat.succ_mul]
    have h1 := (flat_bytes_len (h u List.mem_cons_self)).2
    have h2 := flatMap_len us (fun v hv => h v (List.mem_cons_of_mem _ hv))
    omega
theorem bytes_len {v : V} (h : v.ok = true) : 0 < v.bytes.length ∧ v.bytes.length ≤ 150000 := by
  by_cases h5 : v.k = 5
  · obtain ⟨e, hl, hi⟩ := ok_list h h5
    unfold V.bytes
    rw [if_pos h5, List.length_append, List.length_append]
    have h1 := num_pos 5
    have h2 := Wire.num_len 5 ⟨by decide, by decide⟩
    have h3 := Wire.num_len (v.l.length : Int) ⟨by omega, by omega⟩
    have h4 := flatMap_len v.l (fun u hu => (okIn_parts (hi u hu)).2)
    omega
  · have := flat_bytes_len (ok_flat h h5)
    unfold V.bytes
    rw [if_neg h5]
    omega
theorem bytes_head (v : V) : ∃ r, v.bytes = Wire.num v.k ++ r := by
  unfold V.bytes
  split
  · rename_i h5
    rw [h5]
    exact ⟨_, List.append_assoc _ _ _⟩
  · exact ⟨_, rfl⟩
theorem bytes_num {v : V} (h : v.k = 1 ∨ v.k = 3 ∨ v.k = 4) : v.bytes = Wire.num v.k ++ Wire.num v.n := by
  unfold V.bytes V.bytesIn flatBytes
  rw [if_neg (by omega), if_pos h]
theorem decV_bad : decV ([10, 2, 10, 0] : List UInt8) = .error 30 := by
  have n5 : Wire.num 5 = [10] := by kernel_rfl
  have n1 : Wire.num 1 = [2] := by kernel_rfl
  have h1 : numL ([10, 2, 10, 0] : List UInt8) = some 5 := numL_of ⟨by decide, by decide⟩ (by rw [n5]; exact ⟨_, rfl⟩)
  have h2 : numL ([2, 10, 0] : List UInt8) = some 1 := numL_of ⟨by decide, by decide⟩ (by rw [n1]; exact ⟨_, rfl⟩)
  have h3 : numL ([10, 0] : List UInt8) = some 5 := numL_of ⟨by decide, by decide⟩ (by rw [n5]; exact ⟨_, rfl⟩)
  rw [decV_list h1, n5]
  show (match decList [2, 10, 0] with | .error e => _ | .ok (us, r) => _) = _
  have h4 : decIn ([10, 0] : List UInt8) = .error 30 := by
    unfold decIn
    rw [h3]
    rfl
  have h5 : decList ([2, 10, 0] : List UInt8) = .error 30 := by
    unfold decList
    rw [h2]
    show (if _ then _ else _) = _
    rw [if_neg (by decide), n1]
    show (match decMany 1 [10, 0] with | .error e => _ | .ok (us, r) => _) = _
    rw [decMany_succ, h4]
  rw [h5]
theorem decV_bad' : decV ((ByteArray.extract ⟨#[10, 2, 0]⟩ 0 2 ++ (⟨#[10, 0]⟩ : ByteArray)).data.toList.drop 0) = .error 30 := by
  rw [show (ByteArray.extract ⟨#[10, 2, 0]⟩ 0 2 ++ (⟨#[10, 0]⟩ : ByteArray)).data.toList.drop 0 = [10, 2, 10, 0] from by kernel_rfl]
  exact decV_bad
theorem cut_size : (ByteArray.extract ⟨#[10, 2, 0]⟩ 0 2 ++ (⟨#[10, 0]⟩ : ByteArray)).size ≤ 9223372036854775807 := by decide
theorem listNil_ok : (V.mk 5 0 ⟨#[]⟩ [.mk 5 0 ⟨#[]⟩ []]).ok = false := by kernel_rfl
theorem oneNil_ok : (V.mk 5 0 ⟨#[]⟩ [.mk 0 0 ⟨#[]⟩ []]).ok = true := by kernel_rfl
theorem oneNil_bytes : (V.mk 5 0 ⟨#[]⟩ [.mk 0 0 ⟨#[]⟩ []]).bytes = [10, 2, 0] := by kernel_rfl
end Go.Proofs.YtffoklhopmhjaaaGreatDoor

/- morainelaw03.ValType, fit. -/
set_option linter.unusedSimpArgs false
set_option linter.unusedVariables false
namespace Go.Proofs.YtffoklhopmhjaaaGreatDoor
open Go Go.RowKit Go.Shelf

def typeK (a : Int) : Int := 1 + pickI a 6
def typeO (a b : Int) : Int := if typeK a < 5 then 0 else 1 + pickI b 4
theorem typeK_bd (a : Int) : 1 ≤ typeK a ∧ typeK a ≤ 6 := by have := pickI_bd a 6 (by decide); unfold typeK; omega
def tyK (a : Int) : Int := if typeK a < 5 then typeK a else 5
theorem ty_right (a b : Int) : rtB (tyK a) (typeO a b) = true := by
  have h := typeK_bd a
  have hb := pickI_bd b 4 (by decide)
  unfold rtB tyK typeO
  by_cases h5 : typeK a < 5
  · rw [if_pos h5, if_pos h5, if_neg (by omega)]
    exact decide_eq_true ⟨⟨h.1, by omega⟩, rfl⟩
  · rw [if_neg h5, if_neg h5, if_pos rfl]
    exact decide_eq_true ⟨by omega, by omega⟩

def fitV (k : Int) (x : RawOne) : V := if k = 5 then .mk 5 0 ⟨#[]⟩ [] else if k = 3 ∨ k = 4 then (if pickI x.k 4 = 0 then .mk 0 0 ⟨#[]⟩ [] else .mk k (1 + pickI x.n 500) ⟨#[]⟩ []) else valOne k x
theorem fitV_l (k : Int) (x : RawOne) : (fitV k x).l = [] := by
  unfold fitV
  repeat' split
  all_goals first | rfl | exact valOne_l _ _

end Go.Proofs.YtffoklhopmhjaaaGreatDoor

/- morainelaw03.ValFit. -/
set_option linter.unusedSimpArgs false
set_option linter.unusedVariables false
namespace Go.Proofs.YtffoklhopmhjaaaGreatDoor
open Go Go.RowKit Go.Shelf

theorem fitV_flat (k : Int) (x : RawOne) (h : k ≠ 5) : (fitV k x).flatOk = true := by
  unfold fitV
  rw [if_neg h]
  split
  · rename_i h34
    split
    · rfl
    · have hb := pickI_bd x.n 500 (by decide)
      show flatOk k (1 + pickI x.n 500) ⟨#[]⟩ 0 = true
      unfold flatOk
      rw [if_neg (by omega), if_neg (by omega), if_neg (by omega), if_pos h34]
      exact decide_eq_true ⟨.inl (by omega), rfl, rfl⟩
  · exact (valOne_ok k x).1
theorem fitV_kind (k : Int) (x : RawOne) (h1 : 1 ≤ k) (h2 : k ≤ 4) : fkB (fitV k x).k k = true := by
  unfold fitV fkB
  rw [if_neg (by omega)]
  split
  · rename_i h34
    split
    · exact decide_eq_true (.inr ⟨rfl, h34⟩)
    · exact decide_eq_true (.inl rfl)
  · rename_i h34
    unfold valOne
    split
    · rename_i h; exact decide_eq_true (.inl h.symm)
    · split
      · rename_i h; exact decide_eq_true (.inl h.symm)
      · omega
/-- a value that is made to fit -/
def fitVal (tk tO : Int) (x : Raw) : V := if tk = 5 then .mk 5 0 ⟨#[]⟩ ((x.l.take 12).map (fitV tO)) else fitV tk ⟨x.k, x.n, x.s⟩
def fitTo (tO : Int) (x : Raw) (i : Nat) : List V := (x.l.take i).map (fitV tO)
theorem fitTo_len (tO : Int) (x : Raw) (i : Nat) (h : i ≤ x.l.length) : (fitTo tO x i).length = i := by unfold fitTo; rw [List.length_map, List.length_take]; omega
theorem fitTo_flat (tO : Int) (hto : tO ≠ 5) (x : Raw) (n i : Nat) (h : i < (fitTo tO x n).length) : ((fitTo tO x n)[i]).flatOk = true := by
  obtain ⟨r, _, e⟩ := List.mem_map.1 (show (fitTo tO x n)[i] ∈ (x.l.take n).map (fitV tO) from List.getElem_mem h)
  rw [← e]
  exact fitV_flat tO r hto
theorem fitTo_succ (tO : Int) (x : Raw) (i : Nat) (h : i < x.l.length) : fitTo tO x (i + 1) = fitTo tO x i ++ [fitV tO x.l[i]] := by
  unfold fitTo
  rw [List.take_succ_eq_append_getElem h, List.map_append]; rfl
theorem fitTo_end (tO : Int) (x : Raw) (i : Nat) (hi : i ≤ x.l.length) (h12 : i ≤ 12) (hend : ¬ (i < x.l.length ∧ i < 12)) : fitVal 5 tO x = .mk 5 0 ⟨#[]⟩ (fitTo tO x i) := by
  unfold fitVal fitTo
  rw [if_pos rfl]
  congr 2
  rcases Nat.lt_or_ge i 12 with h | h
  · rw [List.take_of_length_le (by omega), List.take_of_length_le (by omega)]
  · rw [show i = 12 from by omega]
theorem fitVal_ok (tk tO : Int) (x : Raw) (h : tk ≠ 5 ∨ tO ≠ 5) : (fitVal tk tO x).ok = true := by
  unfold fitVal
  split
  · rename_i h5
    refine ok_of_items (by rw [List.length_map, List.length_take]; omega) (fun u hu => ?_)
    obtain ⟨r, _, rfl⟩ := List.mem_map.1 hu
    exact fitV_flat tO r (by rcases h with h | h; exact absurd h5 h; exact h)
  · rename_i h5
    have hf := fitV_flat tk ⟨x.k, x.n, x.s⟩ h5
    have hk : (fitV tk ⟨x.k, x.n, x.s⟩).k ≠ 5 := by have := (flatOk_parts hf).1; omega
    unfold V.ok
    rw [if_neg hk]
    exact hf
theorem fitVal_fits (tk tO : Int) (x : Raw) (h : rtB tk tO = true) : fitsB (fitVal tk tO x) tk tO = true := by
  have ht : (tk = 5 ∧ 1 ≤ tO ∧ tO ≤ 4) ∨ (tk ≠ 5 ∧ 1 ≤ tk ∧ tk ≤ 4) := by
    unfold rtB at h
    split at h
    · have := of_decide_eq_true h; omega
    · have := of_decide_eq_true h; omega
  have hok := fitVal_ok tk tO x (by omega)
  unfold fitsB
  rw [h, hok, Bool.true_and, Bool.true_and]
  rcases ht with ⟨rfl, h1, h2⟩ | ⟨h5, h1, h2⟩
  · rw [if_pos rfl]
    unfold fitVal
    rw [if_pos rfl, Bool.and_eq_true]
    refine ⟨?_, rfl⟩
    rw [List.all_eq_true]
    intro u hu
    obtain ⟨r, _, rfl⟩ := List.mem_map.1 hu
    exact fitV_kind tO r h1 h2
  · rw [if_neg h5]
    unfold fitVal
    rw [if_neg h5]
    exact fitV_kind tk _ h1 h2

def fitPost (tk tO : Int) (x : Raw) (w : World) (e : Ending) (w' : World) : Prop := ∃ y : It, e = .returned y.v ∧ VAt 1 w' (fitVal tk tO x) y ∧ Below w.heap.size w w'

end Go.Proofs.YtffoklhopmhjaaaGreatDoor

/- Values without items, wherever. -/
set_option linter.unusedSimpArgs false
set_option linter.unusedVariables false
namespace Go.Proofs.YtffoklhopmhjaaaGreatDoor
open Go Go.RowKit Go.Shelf

/-- a value without items, wherever -/
def FlatAt (u : V) (y : It) : Prop := u.fine ∧ y.k = u.k ∧ y.n = u.n ∧ y.s = u.s ∧ u.l = [] ∧ y.m = 0
theorem FlatAt.at {u : V} {y : It} (h : FlatAt u y) (d : Nat) (W : World) : VAt d W u y := by
  obtain ⟨h0, h1, h2, h3, h4, h5⟩ := h
  obtain ⟨k, n, s, p, m, c⟩ := y
  simp only at h1 h2 h3 h5
  subst h5
  have ht : ∀ J, VTop W u ⟨k, n, s, p, 0, c⟩ J := fun J => ⟨h0, h1, h2, h3, [], by rw [h4]; rfl, ⟨rfl, .inl ⟨rfl, p, c, rfl⟩⟩, fun i h => absurd h (by simp)⟩
  cases d with
  | zero => exact ht _
  | succ d => exact ht _
theorem FlatAt.of {W : World} {u : V} {y : It} (h : VAt 0 W u y) : FlatAt u y := by
  have hlen := h.top.len
  obtain ⟨h0, h1, h2, h3, ys, h4, h5, h6⟩ := h
  have hl : u.l = [] := by
    cases hu : u.l with
    | nil => rfl
    | cons a r => exact absurd (h6 0 (by rw [h4, hu]; simp) (by rw [hu]; simp)) (fun h => h)
  exact ⟨h0, h1, h2, h3, hl, by rw [hlen, hl]; rfl⟩
theorem VAt.up : ∀ {d : Nat} {W : World} {v : V} {x : It}, VAt d W v x → VAt (d + 1) W v x
  | 0, W, v, x, h => (FlatAt.of h).at 1 W
  | d + 1, W, v, x, h => by
    obtain ⟨h0, h1, h2, h3, ys, h4, h5, h6⟩ := h
    exact ⟨h0, h1, h2, h3, ys, h4, h5, fun i a b => (h6 i a b).up⟩
theorem VAt.edit {d : Nat} {W : World} {v : V} {x : It} (h : VAt d W v x) (k n : Int) (s : ByteArray) (hk : -9223372036854775808 ≤ k ∧ k ≤ 9223372036854775807) (hn : -9223372036854775808 ≤ n ∧ n ≤ 9223372036854775807) (hs : s.size ≤ 9223372036854775807) :
    VAt d W (.mk k n s v.l) ⟨k, n, s, x.p, x.m, x.c⟩ := by
  have hf := h.top.1
  cases d with
  | zero => obtain ⟨h0, h1, h2, h3, ys, h4, h5, h6⟩ := h; exact ⟨⟨hk, hn, hs, hf.l⟩, rfl, rfl, rfl, ys, h4, h5, h6⟩
  | succ d => obtain ⟨h0, h1, h2, h3, ys, h4, h5, h6⟩ := h; exact ⟨⟨hk, hn, hs, hf.l⟩, rfl, rfl, rfl, ys, h4, h5, h6⟩
end Go.Proofs.YtffoklhopmhjaaaGreatDoor

/- append(nil, xs...): a copy; values without items, wherever. -/
set_option linter.unusedSimpArgs false
set_option linter.unusedVariables false
namespace Go.Proofs.YtffoklhopmhjaaaGreatDoor
open Go Go.RowKit Go.Shelf
end Go.Proofs.YtffoklhopmhjaaaGreatDoor

/- morainelaw03.odd. -/
set_option linter.unusedSimpArgs false
set_option linter.unusedVariables false
namespace Go.Proofs.YtffoklhopmhjaaaGreatDoor
open Go Go.RowKit Go.Shelf

theorem flat_bare {k n : Int} (hk : -9223372036854775808 ≤ k ∧ k ≤ 9223372036854775807) (hn : -9223372036854775808 ≤ n ∧ n ≤ 9223372036854775807) : FlatAt (.mk k n ⟨#[]⟩ []) ⟨k, n, ⟨#[]⟩, none, 0, 0⟩ :=
  ⟨⟨hk, hn, by show (⟨#[]⟩ : ByteArray).size ≤ _; decide, by show ([] : List V).length ≤ _; decide⟩, rfl, rfl, rfl, rfl, rfl⟩
/-- what odd answers: a value that lies, whichever -/
def oddPost (px : Option Addr) (w : World) (e : Ending) (w' : World) : Prop := ∃ (u : V) (y : It), e = .returned y.v ∧ VAt 2 w' u y ∧ Below w.heap.size w w' ∧ ∀ b, b < w.heap.size → (∀ a, px = some a → a.block ≠ b) → ∀ (k n : Int) (s : ByteArray) (l : Value), VAt 2 (putBox w' b k n s l) u y

theorem items_oneCell : ∀ (ys : List It), ∀ u ∈ itsCells ys, u.oneCell' = true
  | [], u, hu => by cases hu
  | y :: ys, u, hu => by
    have hu' : u ∈ y.cells ++ itsCells ys := hu
    rcases List.mem_append.1 hu' with h | h
    · simp only [It.cells, List.mem_cons, List.mem_nil_iff, or_false] at h
      rcases h with rfl | rfl | rfl | rfl <;> rfl
    · exact items_oneCell ys u h
theorem itsCells_snoc (ys : List It) (y : It) : itsCells (ys ++ [y]) = itsCells ys ++ y.cells := by rw [itsCells_append]; rfl

/-- a list's cells in memory that was there, or in the call's own -/
def Lst (px : Option Addr) (w : World) (B : Nat) (W : World) (p : Option Addr) (m c : Nat) (us : List V) (ys : List It) : Prop :=
  ys.length = us.length ∧ m = ys.length ∧ Lies W (.slice p m c) ys.length 4 (itsCells ys) ∧ (∀ a, p = some a → m = 0 ∨ (px = some a ∧ a.block < w.heap.size) ∨ B ≤ a.block) ∧ ∀ (i : Nat) (h : i < ys.length) (h' : i < us.length), FlatAt us[i] ys[i]
theorem Lst.below {px : Option Addr} {w : World} {B : Nat} {W W' : World} {p : Option Addr} {m c : Nat} {us : List V} {ys : List It} (h : Lst px w B W p m c us ys) (hb : Below W.heap.size W W') : Lst px w B W' p m c us ys :=
  ⟨h.1, h.2.1, h.2.2.1.below hb, h.2.2.2⟩
theorem Lst.past {px : Option Addr} {w : World} {B : Nat} {W : World} {p : Option Addr} {m c : Nat} {us : List V} {ys : List It} (h : Lst px w B W p m c us ys) (b j : Nat) (h1 : w.heap.size ≤ b) (h2 : b < B) (u : Value) : Lst px w B (W.setCell ⟨b, j, none⟩ u) p m c us ys := by
  obtain ⟨k1, k2, k3, k4, k5⟩ := h
  refine ⟨k1, k2, ?_, k4, k5⟩
  rcases Nat.eq_zero_or_pos m with h0 | h0
  · have hy : ys = [] := List.eq_nil_of_length_eq_zero (by omega)
    subst hy
    subst h0
    exact ⟨rfl, .inl ⟨rfl, p, c, rfl⟩⟩
  · exact k3.past ⟨b, j, none⟩ (fun a m' c' ha => by
      injection ha with e1 _ _
      have := k4 a e1
      show a.block ≠ b
      omega) u
theorem Lst.old {px : Option Addr} {w : World} {B : Nat} {W : World} {p : Option Addr} {m c : Nat} {us : List V} {ys : List It} (h : Lst px w B W p m c us ys) (b j : Nat) (h1 : b < w.heap.size) (h2 : w.heap.size ≤ B) (h3 : ∀ a, px = some a → a.block ≠ b) (u : Value) : Lst px w B (W.setCell ⟨b, j, none⟩ u) p m c us ys := by
  obtain ⟨k1, k2, k3, k4, k5⟩ := h
  refine ⟨k1, k2, ?_, k4, k5⟩
  rcases Nat.eq_zero_or_pos m with h0 | h0
  · have hy : ys = [] := List.eq_nil_of_length_eq_zero (by omega)
    subst hy
    subst h0
    exact ⟨rfl, .inl ⟨rfl, p, c, rfl⟩⟩
  · exact k3.past ⟨b, j, none⟩ (fun a m' c' ha => by
      injection ha with e1 _ _
      show a.block ≠ b
      rcases k4 a e1 with e | ⟨e, _⟩ | e
      · omega
      · exact h3 a e
      · omega) u
theorem Lst.put {px : Option Addr} {w : World} {B : Nat} {W : World} {p : Option Addr} {m c : Nat} {us : List V} {ys : List It} (h : Lst px w B W p m c us ys) {b : Nat} (h1 : b < w.heap.size) (h2 : w.heap.size ≤ B) (h3 : ∀ a, px = some a → a.block ≠ b) (k n : Int) (s : ByteArray) (l : Value) : Lst px w B (putBox W b k n s l) p m c us ys :=
  (((h.old b 0 h1 h2 h3 _).old b 1 h1 h2 h3 _).old b 2 h1 h2 h3 _).old b 3 h1 h2 h3 _
theorem Lst.at {px : Option Addr} {w : World} {B : Nat} {W : World} {p : Option Addr} {m c : Nat} {us : List V} {ys : List It} (h : Lst px w B W p m c us ys) (k n : Int) (s : ByteArray) (hk : -9223372036854775808 ≤ k ∧ k ≤ 9223372036854775807) (hn : -9223372036854775808 ≤ n ∧ n ≤ 9223372036854775807) (hs : s.size ≤ 9223372036854775807) (hl : us.length ≤ 9223372036854775807) (d : Nat) :
    VAt (d + 1) W (.mk k n s us) ⟨k, n, s, p, m, c⟩ := by
  obtain ⟨k1, k2, k3, k4, k5⟩ := h
  exact ⟨⟨hk, hn, hs, hl⟩, rfl, rfl, rfl, ys, k1, by subst k2; exact k3, fun i a b => (k5 i a b).at d W⟩
theorem Lst.own {px : Option Addr} {w : World} {B : Nat} {W : World} {p : Option Addr} {m c : Nat} {us : List V} {ys : List It} (h1 : ys.length = us.length) (hm : m = ys.length) (ho : W.ownsRow B 37 4 (.slice p m c) m (itsCells ys)) (hf : ∀ (i : Nat) (h : i < ys.length) (h' : i < us.length), FlatAt us[i] ys[i]) : Lst px w B W p m c us ys :=
  ⟨h1, hm, by rw [← hm]; exact Lies.own ho, fun a ha => .inr (.inr (by subst ha; exact (ho.lt a.block rfl).1)), hf⟩
theorem flat_snoc {us : List V} {ys : List It} (hl : ys.length = us.length) (hf : ∀ (i : Nat) (h : i < ys.length) (h' : i < us.length), FlatAt us[i] ys[i]) {u : V} {y : It} (hu : FlatAt u y) : ∀ (i : Nat) (h : i < (ys ++ [y]).length) (h' : i < (us ++ [u]).length), FlatAt (us ++ [u])[i] (ys ++ [y])[i] := by
  intro i h h'
  by_cases hi : i < ys.length
  · rw [List.getElem_append_left hi, List.getElem_append_left (by rw [← hl]; exact hi)]
    exact hf i hi _
  · have : i = ys.length := by simp at h; omega
    subst this
    rw [List.getElem_append_right (by omega), List.getElem_append_right (by omega)]
    simpa [hl] using hu
theorem lst_of {w : World} {v : V} {x : It} (h : VAt 1 w v x) (B : Nat) : ∃ ys, Lst x.p w B w x.p x.m x.c v.l ys := by
  have hlen := h.top.len
  obtain ⟨h0, h1, h2, h3, ys, h4, h5, h6⟩ := h
  refine ⟨ys, h4, by rw [hlen, h4], h5, fun a ha => ?_, fun i a b => FlatAt.of (h6 i a b)⟩
  rcases h5.2 with ⟨e, p, c, hv⟩ | ⟨b, off, c, hv, hb, _⟩
  · injection hv with _ e2 _; exact .inl e2
  · injection hv with e1 _ _
    rw [ha] at e1
    cases Option.some.inj e1
    exact .inr (.inl ⟨by rw [ha], hb⟩)

end Go.Proofs.YtffoklhopmhjaaaGreatDoor

/- The walks of ValCut and ValKinds. -/
set_option linter.unusedSimpArgs false
set_option linter.unusedVariables false
namespace Go.Proofs.YtffoklhopmhjaaaGreatDoor
open Go Go.RowKit Go.Shelf

abbrev rawV (x : Raw) (p : Option Addr) (c : Nat) : Value := .agg #[.int .i64 x.k, .int .i64 x.n, .string x.s, .slice p x.l.length c]
abbrev rawA (x : Raw) (p : Option Addr) (c : Nat) : Array Value := #[.int .i64 x.k, .int .i64 x.n, .string x.s, .slice p x.l.length c]
/-- a value in a box, and all that it leads to -/
structure VAtBox (W : World) (b : Nat) (v : V) (x : It) : Prop where
  box : VBox W b x.k x.n x.s (.slice x.p x.m x.c)
  at' : VAt 1 W v x
theorem VAtBox.below {W W' : World} {b : Nat} {v : V} {x : It} (h : VAtBox W b v x) (hb : Below W.heap.size W W') : VAtBox W' b v x := ⟨h.box.below hb, h.at'.below hb⟩
theorem VAtBox.alloc {W : World} {b : Nat} {v : V} {x : It} (h : VAtBox W b v x) (o : Obj) : VAtBox (W.alloc o) b v x := h.below ((Below.refl _ _).alloc (Nat.le_refl _) o)
theorem VAtBox.new {W : World} {v : V} {x : It} (h : VAt 1 W v x) : VAtBox (W.alloc (.cells #[.int .i64 x.k, .int .i64 x.n, .string x.s, .slice x.p x.m x.c] 37)) W.heap.size v x :=
  ⟨VBox.new _ _ _ _ _, h.below ((Below.refl _ _).alloc (Nat.le_refl _) _)⟩

end Go.Proofs.YtffoklhopmhjaaaGreatDoor

/- The walk of ValKinds. -/
set_option linter.unusedSimpArgs false
set_option linter.unusedVariables false
namespace Go.Proofs.YtffoklhopmhjaaaGreatDoor
open Go Go.RowKit Go.Shelf

/-- up to the value's bytes: the same for all laws that begin so -/
theorem reads_kind {v : V} (h : v.ok = true) {s : ByteArray} (hs : s.data.toList = v.bytes) : readsNum s 0 v.k := by
  obtain ⟨r, hr⟩ := bytes_head v
  refine ⟨by decide, by omega, ?_, ?_⟩
  · have := ok_fine h
    exact ⟨this.k.1, this.k.2⟩
  · rw [show (0 : Int).toNat = 0 from rfl, List.drop_zero, hs, hr]
    exact List.prefix_append _ _
theorem reads_num {v : V} (h : v.ok = true) (hk : v.k = 1 ∨ v.k = 3 ∨ v.k = 4) {s : ByteArray} (hs : s.data.toList = v.bytes) : readsNum s (((Wire.num v.k).length : Nat) : Int) v.n ∧ (Wire.num v.k).length + (Wire.num v.n).length = s.size := by
  have hb := bytes_num hk
  have hsz : s.size = v.bytes.length := by rw [← hs]; simp
  rw [hb, List.length_append] at hsz
  refine ⟨⟨by omega, by omega, ?_, ?_⟩, hsz.symm⟩
  · have := ok_fine h
    exact ⟨this.n.1, this.n.2⟩
  · rw [Int.toNat_natCast, hs, hb, List.drop_left]
    exact List.prefix_refl _

end Go.Proofs.YtffoklhopmhjaaaGreatDoor

/- The walk of ValBack. -/
set_option linter.unusedSimpArgs false
set_option linter.unusedVariables false
namespace Go.Proofs.YtffoklhopmhjaaaGreatDoor
open Go Go.RowKit Go.Shelf

/-- the same, of values that ValOf makes -/
theorem same_iff {a b : V} (ha : a.ok = true) (hb : b.ok = true) : (cmpV 1 a b == 0) = true ↔ a = b := by
  rw [beq_iff_eq]
  exact ⟨cmpV_eq 1 a b (ok_deep ha) (ok_deep hb), fun h => by rw [h]; exact cmpV_self 1 b⟩
theorem bytes_begin {a b : V} (ha : a.ok = true) (hb : b.ok = true) (h : a.bytes <+: b.bytes) : a = b := by
  obtain ⟨r, hr⟩ := h
  have h1 := decV_append a ha r
  have h2 := decV_append b hb []
  rw [List.append_nil, ← hr, h1] at h2
  injection h2 with h2
  exact (Prod.mk.inj h2).1
/-- the test of a beginning, as the law asks it -/
theorem begins_iff (p q : ByteArray) (h : p.size ≤ q.size) : ((q.extract 0 p.size).toList == p.toList) = decide (p.data.toList <+: q.data.toList) := by
  rw [Bool.eq_iff_iff, beq_iff_eq, decide_eq_true_iff, Lib.toList_data, Lib.toList_data, extract_toList', List.drop_zero, Nat.sub_zero, List.prefix_iff_eq_take]
  have : p.data.toList.length = p.size := by simp
  rw [this]
  exact eq_comm

theorem min_cut (s : ByteArray) : ∃ m : Nat, m ≤ s.size ∧ m ≤ 20 ∧ (if (20 : Int) < (s.size : Int) then (20 : Int) else (s.size : Int)) = (m : Int) ∧ min (s.size : Int) 20 = (m : Int) := by
  by_cases h : 20 < s.size
  · exact ⟨20, by omega, by omega, by rw [if_pos (by omega)]; rfl, by omega⟩
  · exact ⟨s.size, by omega, by omega, by rw [if_neg (by omega)], by omega⟩

end Go.Proofs.YtffoklhopmhjaaaGreatDoor

/- The walk of ValOrder. -/
set_option linter.unusedSimpArgs false
set_option linter.unusedVariables false
namespace Go.Proofs.YtffoklhopmhjaaaGreatDoor
open Go Go.RowKit Go.Shelf

structure V2Box (W : World) (b : Nat) (v : V) (x : It) : Prop where
  box : VBox W b x.k x.n x.s (.slice x.p x.m x.c)
  at' : VAt 2 W v x
theorem V2Box.below {W W' : World} {b : Nat} {v : V} {x : It} (h : V2Box W b v x) (hb : Below W.heap.size W W') : V2Box W' b v x := ⟨h.box.below hb, h.at'.below hb⟩
theorem V2Box.alloc {W : World} {b : Nat} {v : V} {x : It} (h : V2Box W b v x) (o : Obj) : V2Box (W.alloc o) b v x := h.below ((Below.refl _ _).alloc (Nat.le_refl _) o)
theorem V2Box.new {W : World} {v : V} {x : It} (h : VAt 2 W v x) : V2Box (W.alloc (.cells #[.int .i64 x.k, .int .i64 x.n, .string x.s, .slice x.p x.m x.c] 37)) W.heap.size v x :=
  ⟨VBox.new _ _ _ _ _, h.below ((Below.refl _ _).alloc (Nat.le_refl _) _)⟩

theorem min_cut70 (s : ByteArray) : ∃ m : Nat, m ≤ s.size ∧ m ≤ 70 ∧ (if (70 : Int) < (s.size : Int) then (70 : Int) else (s.size : Int)) = (m : Int) ∧ min (s.size : Int) 70 = (m : Int) := by
  by_cases h : 70 < s.size
  · exact ⟨70, by omega, by omega, by rw [if_pos (by omega)]; rfl, by omega⟩
  · exact ⟨s.size, by omega, by omega, by rw [if_neg (by omega)], by omega⟩
theorem len_of_ok {v : V} (h : v.ok = true) : v.l.length ≤ 12 := by
  by_cases h5 : v.k = 5
  · exact (ok_list h h5).2.1
  · have := (flatOk_parts (ok_flat h h5)).2.2.1
    omega

end Go.Proofs.YtffoklhopmhjaaaGreatDoor

/- val.numbers, val.Refs, val.Weaks. -/
set_option linter.unusedSimpArgs false
set_option linter.unusedVariables false
namespace Go.Proofs.YtffoklhopmhjaaaGreatDoor
open Go Go.RowKit Go.Shelf

theorem infoInt : (Tryz.prog.info? 3).map (fun i => (i.zero, i.size, i.bytes)) = some (some (.int .i64 0), 1, 8) := by kernel_rfl
def nints (ks : List Int) : List Value := ks.map (fun k => .int .i64 k)
theorem nints_append (a b : List Int) : nints (a ++ b) = nints a ++ nints b := List.map_append
theorem nints_at (ks : List Int) (i : Nat) (h : i < ks.length) : (nints ks)[i]? = some (.int .i64 ks[i]) := by
  unfold nints
  rw [List.getElem?_map, List.getElem?_eq_getElem h]; rfl
/-- the numbers of one kind, of the value and of its first items -/
def pickK (kind : Int) (us : List V) : List Int := (us.filter (fun u => u.k == kind)).map V.n
def numsTo (kind : Int) (v : V) (i : Nat) : List Int := pickK kind (v :: v.l.take i)
def numsOf (kind : Int) (v : V) : List Int := if v.ok = true then pickK kind (v :: v.l) else []
theorem numsTo_len (kind : Int) (v : V) (i : Nat) : (numsTo kind v i).length ≤ i + 1 := by
  unfold numsTo pickK
  rw [List.length_map]
  have := List.length_filter_le (fun u : V => u.k == kind) (v :: v.l.take i)
  rw [List.length_cons, List.length_take] at this
  omega
theorem numsTo_zero (kind : Int) (v : V) : numsTo kind v 0 = if (v.k == kind) = true then [v.n] else [] := by
  unfold numsTo pickK
  rw [List.take_zero, List.filter_cons]
  split <;> rfl
theorem numsTo_succ (kind : Int) (v : V) (i : Nat) (h : i < v.l.length) : numsTo kind v (i + 1) = numsTo kind v i ++ (if (v.l[i].k == kind) = true then [v.l[i].n] else []) := by
  unfold numsTo pickK
  rw [List.take_succ_eq_append_getElem h, ← List.cons_append, List.filter_append, List.map_append]
  congr 1
  rw [List.filter_cons]
  split <;> rfl
theorem numsTo_end (kind : Int) (v : V) (hok : v.ok = true) : numsTo kind v v.l.length = numsOf kind v := by
  unfold numsTo numsOf
  rw [if_pos hok, List.take_length]

def intsPost (ks : List Int) (w : World) (e : Ending) (w' : World) : Prop := ∃ (p : Option Addr) (c : Nat), e = .returned (.slice p ks.length c) ∧ Lies w' (.slice p ks.length c) ks.length 1 (nints ks) ∧ Below w.heap.size w w'

set_option maxHeartbeats 2000000 in
set_option maxRecDepth 100000 in
theorem numbers_any (d : Nat) (v : V) (x : It) (kind : Int) (w : World) (hx : VAt d w v x) (hT : Tabs w) :
    Calls Tryz.prog 38 #[x.v, .int .i64 kind] w (intsPost (numsOf kind v) w) := by
  obtain ⟨i0, hi, hz0, hz1, hz2⟩ := info_parts infoInt
  have hright := fun W (hb : Below w.heap.size w W) => right_V d v x W (hx.below hb) (hT.below hb)
  obtain ⟨hfine, hk, hn, hs, its, hlen, hlies, hin⟩ := hx.top
  have hm : x.m = its.length := by have := hx.top.len; omega
  have hsame : ∀ (i : Nat) (h : i < its.length) (h' : i < v.l.length), its[i].k = v.l[i].k ∧ its[i].n = v.l[i].n := fun i a b => ⟨(hin i a b).same.1, (hin i a b).same.2.1⟩
  have hl12 : v.ok = true → its.length ≤ 12 := fun h => by rw [hlen]; exact len_of_ok h
  have hbad : v.ok = false → numsOf kind v = [] := fun h => by unfold numsOf; rw [if_neg (by rw [h]; decide)]
  have hzero := numsTo_zero kind v
  have hsucc := numsTo_succ kind v
  have hend := numsTo_end kind v
  have hnl := numsTo_len kind v
  obtain ⟨xk, xn, xs, p, xm, c⟩ := x
  simp only at hk hn hm hlies hright
  subst hm
  rw [← hk, ← hn] at hzero
  have hb : Below w.heap.size w (w.alloc (.cells #[.int .i64 xk, .int .i64 xn, .string xs, .slice p its.length c] 37)) := (Below.refl _ _).alloc (Nat.le_refl _) _
  have hV := VBox.new w xk xn xs (.slice p its.length c)
  have HRIGHT := Lib.hid hright
  have HSAME := Lib.hid hsame
  have HL12 := Lib.hid hl12
  have HBAD := Lib.hid hbad
  have HZERO := Lib.hid hzero
  have HSUCC := Lib.hid hsucc
  have HEND := Lib.hid hend
  have HNL := Lib.hid hnl
  have HLEN := Lib.hid hlen
  have HL := Lib.hid hlies
  have HB := Lib.hid hb
  have HV := Lib.hid hV
  obtain ⟨⟨c0, c1, c2, c3⟩, _⟩ := hV.facts
  clear hright hsame hl12 hbad hzero hsucc hend hnl hlen hlies hin hx hT hs hb hV hfine hk hn
  generalize hok : v.ok = ok
  have HOK := Lib.hid hok
  clear hok
  go_enter Tryz.func38, Tryz.ntmps38
  go_wp2_with fail
  refine (HRIGHT.out _ HB.out).mono ?_
  rintro e W1 ⟨rfl, hB1⟩
  rw [HOK.out]
  have hB2 := HB.out.trans (hB1.mono HB.out.size)
  have hV1 := HV.out.below hB1
  have hz1' : w.heap.size + 1 ≤ W1.heap.size := by have := hV1.lt; omega
  clear c0 c1 c2 c3 hB1 HB HV
  obtain ⟨⟨c0, c1, c2, c3⟩, _⟩ := hV1.facts
  cases ok with
  | false =>
    have hn := HBAD.out HOK.out
    have HN := Lib.hid hn
    have HB2 := Lib.hid hB2
    clear hn hB2 hV1
    go_wp2_with fail
    go_ret
    exact ⟨none, 0, by rw [HN.out]; rfl, by rw [HN.out]; exact ⟨rfl, .inl ⟨rfl, none, 0, rfl⟩⟩, HB2.out⟩
  | true =>
    have hl12 := HL12.out HOK.out
    have HB2 := Lib.hid hB2
    have HEND2 := Lib.hid (HEND.out HOK.out)
    clear hB2
    by_cases hk : (xk == kind) = true
    · have hz : numsTo kind v 0 = [xn] := HZERO.out.trans (if_pos hk)
      have HZ := Lib.hid hz
      have hvg : ∀ w2, (W1.alloc (.cells #[.int .i64 xn] 3)).grownBy w2 (Value.slice none 0 0).ownBlock → w2.cell? ⟨w.heap.size, 3, none⟩ = some (.slice p its.length c) := fun w2 hg => by
        have h : VBox w2 w.heap.size xk xn xs (.slice p its.length c) := Bx.grown (T := 37) (hV1.alloc _) hg (fun e => by simp [Value.ownBlock] at e)
        exact h.facts.1.2.2.2
      have HVG := Lib.hid hvg
      clear hz hvg hV1
      go_wp2_with (at_builtin; refine wpList_append_lies _ rfl _ _ _ rfl (w.heap.size + 1) 3 i0 _ 1 8 Tryz.underlying25 hi hz0 hz1 hz2 rfl (by omega) _ 0 _ rfl (World.ownsRow_nil _ _ _ _) ⟨W1.heap.size, 0, none⟩ 1 1 [.int .i64 xn] rfl rfl (World.news_of_block (cs := #[.int .i64 xn]) (t := 3) (fr := (0, 0)) (by have h := World.alloc_heap_new (W1) (.cells #[.int .i64 xn] 3); (try rw [World.size_alloc] at h); exact h)) (by simp [Value.oneCell']) (by omega) (by simp [maxLen] <;> omega) (by omega) (by simp <;> omega) (W1.heap.size + 1) (by simp) ?_; intro gg cap w2 hown1 hgrow hat hlt2; have q3 := HVG.out _ hgrow)
      have hB3 := (HB2.out.alloc (by omega) (.cells #[.int .i64 xn] 3)).grown hgrow (by simp <;> omega) (fun g hg => by cases hg)
      have hgg := (hown1.lt gg rfl).1
      have hst : ∃ (i : Nat) (vp : Option Addr) (vc : Nat), i ≤ its.length ∧ Value.int .i64 0 = .int .i64 (i : Int) ∧ Value.slice (some ⟨gg, 0, none⟩) (0 + 1) cap = .slice vp (numsTo kind v i).length vc ∧ w2.ownsRow (w.heap.size + 1) 3 1 (.slice vp (numsTo kind v i).length vc) (numsTo kind v i).length (nints (numsTo kind v i)) ∧ Below w.heap.size w w2 ∧ w.heap.size + 1 ≤ w2.heap.size :=
        ⟨0, some ⟨gg, 0, none⟩, cap, by omega, rfl, by rw [HZ.out]; rfl, by rw [HZ.out]; exact hown1, hB3, by omega⟩
      have HST := Lib.hid hst
      clear hst hown1 hgrow hat hlt2 hB3 c0 c1 c2 c3 q3
      go_loopw [5, 23] (fun s5 s23 wr => ∃ (i : Nat) (vp : Option Addr) (vc : Nat), i ≤ its.length ∧ s23 = .int .i64 (i : Int) ∧ s5 = .slice vp (numsTo kind v i).length vc ∧ wr.ownsRow (w.heap.size + 1) 3 1 (.slice vp (numsTo kind v i).length vc) (numsTo kind v i).length (nints (numsTo kind v i)) ∧ Below w.heap.size w wr ∧ w.heap.size + 1 ≤ wr.heap.size) (fun _ s _ => its.length - (intOf s).toNat)
      case atStart => exact HST.out
      case round =>
        obtain ⟨i, vp, vc, hil, rfl, rfl, hown, hB, hlt0⟩ := hrel
        have hnl := HNL.out i
        by_cases hlt : i < its.length
        · have d1 : decide ((i : Int) < (its.length : Int)) = true := decide_eq_true (by omega)
          have d1' : decide (i < its.length) = true := decide_eq_true hlt
          have d0 : (0 : Int) ≤ (i : Int) := by omega
          have d3 : (i : Int) < (its.length : Int) := by omega
          have hiu : i < v.l.length := by have := HLEN.out; omega
          obtain ⟨b, off, rfl, hb, hc⟩ := HL.out.at (by omega)
          have hcx : ∀ (j : Nat) (u : Value), ((its[i]'hlt).cells)[j]? = some u → wr.cell? ⟨b, off + i * 4 + j, none⟩ = some u := fun j u hu => by
            rw [hB.cell (p := ⟨b, off + i * 4 + j, none⟩) hb, Nat.add_assoc]
            exact hc _ _ (itsCells_at its i hlt j u hu)
          have hs := HSAME.out i hlt hiu
          have hnext := HSUCC.out i hiu
          rw [← hs.1, ← hs.2] at hnext
          generalize its[i]'hlt = z at hcx hnext
          clear hs
          obtain ⟨yk, yn, ys, yp, ym, yc⟩ := z
          simp only at hnext
          have z0 : wr.cell? ⟨b, off + i * 4, none⟩ = some (.int .i64 yk) := hcx 0 _ rfl
          have z1 := hcx 1 _ rfl
          have z2 := hcx 2 _ rfl
          have z3 := hcx 3 _ rfl
          have hnew := (VBox.new wr yk yn ys (.slice yp ym yc)).facts.1
          obtain ⟨f0, f1, f2, f3⟩ := hnew
          generalize numsTo kind v i = ks at hown hnl hnext ⊢
          have hBa := hB.alloc (by omega) (.cells #[.int .i64 yk, .int .i64 yn, .string ys, .slice yp ym yc] 37)
          have howa := hown.alloc (.cells #[.int .i64 yk, .int .i64 yn, .string ys, .slice yp ym yc] 37)
          have HOWN := Lib.hid hown
          have HOWA := Lib.hid howa
          have HBA := Lib.hid hBa
          have HHB := Lib.hid hB
          clear hcx hc hown howa hBa hB
          by_cases hyk : (yk == kind) = true
          · have hnx := hnext.trans (congrArg (ks ++ ·) (if_pos hyk))
            have HN := Lib.hid hnx
            clear hnx hnext
            go_wp2_with (at_builtin; refine wpList_append_lies _ rfl _ _ _ rfl (w.heap.size + 1) 3 i0 _ 1 8 Tryz.underlying25 hi hz0 hz1 hz2 rfl (by omega) _ ks.length _ rfl (HOWA.out.alloc _) ⟨(wr.heap.size + 1), 0, none⟩ 1 1 [.int .i64 yn] rfl rfl (World.news_of_block (cs := #[.int .i64 yn]) (t := 3) (fr := (0, 0)) (by have h := World.alloc_heap_new (wr.alloc (.cells #[.int .i64 yk, .int .i64 yn, .string ys, .slice yp ym yc] 37)) (.cells #[.int .i64 yn] 3); (try rw [World.size_alloc] at h); exact h)) (by simp [Value.oneCell']) (by omega) (by simp [maxLen] <;> omega) (by omega) (by simp <;> omega) ((wr.heap.size + 1) + 1) (by simp) ?_; intro gg cap w2 hown1 hgrow hat hlt2)
            have hgo := HOWN.out.lt
            have hBf := (HBA.out.alloc (by simp <;> omega) (.cells #[.int .i64 yn] 3)).grown hgrow (by simp <;> omega) (fun g hg => by have := (hgo g hg).1; omega)
            have hgg := (hown1.lt gg rfl).1
            exact ⟨⟨i + 1, _, cap, by omega, by go_num, by rw [HN.out, List.length_append]; rfl, by rw [HN.out, nints_append, List.length_append]; exact hown1, hBf, by omega⟩, by simp [intOf]; omega⟩
          · have hyk' : (yk == kind) = false := by cases h : (yk == kind) with | true => exact absurd h hyk | false => rfl
            have hnx := (hnext.trans (congrArg (ks ++ ·) (if_neg hyk))).trans (List.append_nil _)
            have HN := Lib.hid hnx
            clear hnx hnext hyk
            go_wp2_with fail
            exact ⟨⟨i + 1, vp, vc, by omega, by go_num, by rw [HN.out], by rw [HN.out]; exact HOWA.out, HBA.out, by simp; omega⟩, by simp [intOf]; omega⟩
        · have d1 : decide ((i : Int) < (its.length : Int)) = false := decide_eq_false (by omega)
          have d1' : decide (i < its.length) = false := decide_eq_false hlt
          have hi3 : i = v.l.length := by have := HLEN.out; omega
          have he := HEND2.out
          rw [← hi3] at he
          have HE := Lib.hid he
          have HOWN := Lib.hid hown
          have HHB := Lib.hid hB
          clear he hown hB hi3
          go_wp2_with fail
          go_ret
          exact ⟨vp, vc, by rw [← HE.out]; rfl, by rw [← HE.out]; exact Lies.own HOWN.out, HHB.out⟩
    · have hk' : (xk == kind) = false := by cases h : (xk == kind) with | true => exact absurd h hk | false => rfl
      have hz : numsTo kind v 0 = [] := HZERO.out.trans (if_neg hk)
      have HZ := Lib.hid hz
      have hst : ∃ (i : Nat) (vp : Option Addr) (vc : Nat), i ≤ its.length ∧ Value.int .i64 0 = .int .i64 (i : Int) ∧ Value.slice none 0 0 = .slice vp (numsTo kind v i).length vc ∧ W1.ownsRow (w.heap.size + 1) 3 1 (.slice vp (numsTo kind v i).length vc) (numsTo kind v i).length (nints (numsTo kind v i)) ∧ Below w.heap.size w W1 ∧ w.heap.size + 1 ≤ W1.heap.size :=
        ⟨0, none, 0, by omega, rfl, by rw [HZ.out]; rfl, by rw [HZ.out]; exact World.ownsRow_nil _ _ _ _, HB2.out, by omega⟩
      have HST := Lib.hid hst
      clear hst hz hk hV1
      go_wp2_with fail
      clear c0 c1 c2 c3
      go_loopw [5, 23] (fun s5 s23 wr => ∃ (i : Nat) (vp : Option Addr) (vc : Nat), i ≤ its.length ∧ s23 = .int .i64 (i : Int) ∧ s5 = .slice vp (numsTo kind v i).length vc ∧ wr.ownsRow (w.heap.size + 1) 3 1 (.slice vp (numsTo kind v i).length vc) (numsTo kind v i).length (nints (numsTo kind v i)) ∧ Below w.heap.size w wr ∧ w.heap.size + 1 ≤ wr.heap.size) (fun _ s _ => its.length - (intOf s).toNat)
      case atStart => exact HST.out
      case round =>
        obtain ⟨i, vp, vc, hil, rfl, rfl, hown, hB, hlt0⟩ := hrel
        have hnl := HNL.out i
        by_cases hlt : i < its.length
        · have d1 : decide ((i : Int) < (its.length : Int)) = true := decide_eq_true (by omega)
          have d1' : decide (i < its.length) = true := decide_eq_true hlt
          have d0 : (0 : Int) ≤ (i : Int) := by omega
          have d3 : (i : Int) < (its.length : Int) := by omega
          have hiu : i < v.l.length := by have := HLEN.out; omega
          obtain ⟨b, off, rfl, hb, hc⟩ := HL.out.at (by omega)
          have hcx : ∀ (j : Nat) (u : Value), ((its[i]'hlt).cells)[j]? = some u → wr.cell? ⟨b, off + i * 4 + j, none⟩ = some u := fun j u hu => by
            rw [hB.cell (p := ⟨b, off + i * 4 + j, none⟩) hb, Nat.add_assoc]
            exact hc _ _ (itsCells_at its i hlt j u hu)
          have hs := HSAME.out i hlt hiu
          have hnext := HSUCC.out i hiu
          rw [← hs.1, ← hs.2] at hnext
          generalize its[i]'hlt = z at hcx hnext
          clear hs
          obtain ⟨yk, yn, ys, yp, ym, yc⟩ := z
          simp only at hnext
          have z0 : wr.cell? ⟨b, off + i * 4, none⟩ = some (.int .i64 yk) := hcx 0 _ rfl
          have z1 := hcx 1 _ rfl
          have z2 := hcx 2 _ rfl
          have z3 := hcx 3 _ rfl
          have hnew := (VBox.new wr yk yn ys (.slice yp ym yc)).facts.1
          obtain ⟨f0, f1, f2, f3⟩ := hnew
          generalize numsTo kind v i = ks at hown hnl hnext ⊢
          have hBa := hB.alloc (by omega) (.cells #[.int .i64 yk, .int .i64 yn, .string ys, .slice yp ym yc] 37)
          have howa := hown.alloc (.cells #[.int .i64 yk, .int .i64 yn, .string ys, .slice yp ym yc] 37)
          have HOWN := Lib.hid hown
          have HOWA := Lib.hid howa
          have HBA := Lib.hid hBa
          have HHB := Lib.hid hB
          clear hcx hc hown howa hBa hB
          by_cases hyk : (yk == kind) = true
          · have hnx := hnext.trans (congrArg (ks ++ ·) (if_pos hyk))
            have HN := Lib.hid hnx
            clear hnx hnext
            go_wp2_with (at_builtin; refine wpList_append_lies _ rfl _ _ _ rfl (w.heap.size + 1) 3 i0 _ 1 8 Tryz.underlying25 hi hz0 hz1 hz2 rfl (by omega) _ ks.length _ rfl (HOWA.out.alloc _) ⟨(wr.heap.size + 1), 0, none⟩ 1 1 [.int .i64 yn] rfl rfl (World.news_of_block (cs := #[.int .i64 yn]) (t := 3) (fr := (0, 0)) (by have h := World.alloc_heap_new (wr.alloc (.cells #[.int .i64 yk, .int .i64 yn, .string ys, .slice yp ym yc] 37)) (.cells #[.int .i64 yn] 3); (try rw [World.size_alloc] at h); exact h)) (by simp [Value.oneCell']) (by omega) (by simp [maxLen] <;> omega) (by omega) (by simp <;> omega) ((wr.heap.size + 1) + 1) (by simp) ?_; intro gg cap w2 hown1 hgrow hat hlt2)
            have hgo := HOWN.out.lt
            have hBf := (HBA.out.alloc (by simp <;> omega) (.cells #[.int .i64 yn] 3)).grown hgrow (by simp <;> omega) (fun g hg => by have := (hgo g hg).1; omega)
            have hgg := (hown1.lt gg rfl).1
            exact ⟨⟨i + 1, _, cap, by omega, by go_num, by rw [HN.out, List.length_append]; rfl, by rw [HN.out, nints_append, List.length_append]; exact hown1, hBf, by omega⟩, by simp [intOf]; omega⟩
          · have hyk' : (yk == kind) = false := by cases h : (yk == kind) with | true => exact absurd h hyk | false => rfl
            have hnx := (hnext.trans (congrArg (ks ++ ·) (if_neg hyk))).trans (List.append_nil _)
            have HN := Lib.hid hnx
            clear hnx hnext hyk
            go_wp2_with fail
            exact ⟨⟨i + 1, vp, vc, by omega, by go_num, by rw [HN.out], by rw [HN.out]; exact HOWA.out, HBA.out, by simp; omega⟩, by simp [intOf]; omega⟩
        · have d1 : decide ((i : Int) < (its.length : Int)) = false := decide_eq_false (by omega)
          have d1' : decide (i < its.length) = false := decide_eq_false hlt
          have hi3 : i = v.l.length := by have := HLEN.out; omega
          have he := HEND2.out
          rw [← hi3] at he
          have HE := Lib.hid he
          have HOWN := Lib.hid hown
          have HHB := Lib.hid hB
          clear he hown hB hi3
          go_wp2_with fail
          go_ret
          exact ⟨vp, vc, by rw [← HE.out]; rfl, by rw [← HE.out]; exact Lies.own HOWN.out, HHB.out⟩
end Go.Proofs.YtffoklhopmhjaaaGreatDoor
