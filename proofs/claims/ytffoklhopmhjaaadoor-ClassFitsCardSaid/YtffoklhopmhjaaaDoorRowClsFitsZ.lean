/- For every input ClassFits returns true and leaves its arguments as they were; the condition: before the call the listed variables read as start-up lays them, which is tied to the program's text. -/
import Derived.Test.YtffoklhopmhjaaaDoorClsOk
import Derived.Test.YtffoklhopmhjaaaDoorValLayN
import Derived.Test.YtffoklhopmhjaaaDoorClsSame
import Derived.Test.YtffoklhopmhjaaaDoorClsReadW
import Derived.Deep.RegionHeld3
import Derived.Test.YtffoklhopmhjaaaDoorValFits
import Derived.Test.YtffoklhopmhjaaaDoorClsPrs
import Derived.Test.YtffoklhopmhjaaaDoorVBox
import Derived.Test.YtffoklhopmhjaaaDoorClsTurn
import Derived.IntWalk
import Derived.Deep.AppendLies
import Derived.OwnWalk
import Derived.Test.YtffoklhopmhjaaaDoorClsOf
import Derived.Laws.OwnMore
import Derived.Test.YtffoklhopmhjaaaDoorOwned
import Derived.Test.YtffoklhopmhjaaaDoorValDef
import Derived.Laws.AppendOwnNone
import Derived.Test.YtffoklhopmhjaaaDoorLies
import Derived.Deep.CutRange
import Derived.Deep.QuietTactic
import Derived.BigQuiet
import Derived.Test.YtffoklhopmhjaaaDoorRows
import Derived.WalkKit
import Derived.ProofKit
import Derived.OpenShut
import Derived.Below
import Derived.Deep.DeepHandedRow
import Derived.LaidLaws
import Derived.Carry
import Derived.ChangeSlices
import Derived.Deep.Slices
import Derived.Lib.SmallJoins
import Derived.Test.YtffoklhopmhjaaaDoorCards
import Derived.Test.YtffoklhopmhjaaaDoorTie
import Derived.Test.YtffoklhopmhjaaaDoorWireShown
import Derived.Test.YtffoklhopmhjaaaDoorWords
import Derived.Deep.DeepWitnessRowRef
import Derived.Lay
import Derived.PinnedBridge
import Derived.Lib.LaidU8T
import Derived.Stop.LaidErr
import Derived.MakeChecks
import Derived.SevenTiedAt
import Derived.Test.YtffoklhopmhjaaaDoorClsRaw
import Derived.Deep.Strs
/- class.Encode: two closures over a builder. -/
set_option linter.unusedSimpArgs false
set_option linter.unusedVariables false
namespace Go.Proofs.YtffoklhopmhjaaaDoor
open Go Go.RowKit Go.Shelf

theorem Laid.refl {b : Nat} {l : List UInt8} {w : World} {B : Nat} (h : Holds B b l w) : Laid B b l w w := ⟨h, Below.refl _ _, Lib.OthersKept.refl _ _ _⟩
theorem Laid.call {B b : Nat} {l : List UInt8} {w w0 w1 : World} (h : Laid B b l w w0) (hB : Below w0.heap.size w0 w1) (hlt : B ≤ w0.heap.size) : Laid B b l w w1 := by
  have hl : ∀ {i : Nat} {o : Obj}, w0.heap[i]? = some o → w1.heap[i]? = some o := fun {i o} hi => (hB.block i (Array.getElem?_eq_some_iff.1 hi).1).trans hi
  exact ⟨Holds.below h.1 hB, h.2.1.trans (hB.mono hlt), fun i o hi hne hc => hl (h.2.2 i o hi hne hc)⟩
theorem Laid.then {B b : Nat} {l t : List UInt8} {w w0 w1 : World} (h : Laid B b l w w0) (h1 : Laid B b t w0 w1) : Laid B b t w w1 := ⟨h1.1, h.2.1.trans h1.2.1, h.2.2.trans h1.2.2⟩
theorem Laid.fbox {B b : Nat} {l : List UInt8} {w w' : World} (h : Laid B b l w w') {q : Nat} {f : Fl} (hq : FBox w q f) (hb : q ≠ b) : FBox w' q f := h.2.2 q _ hq (by simpa using hb) (by rintro c fz ⟨⟩)
theorem Laid.cbox {B b : Nat} {l : List UInt8} {w w' : World} (h : Laid B b l w w') {q : Nat} {nm : ByteArray} {p : Option Addr} {m c : Nat} (hq : CBox w q nm p m c) (hb : q ≠ b) : CBox w' q nm p m c := h.2.2 q _ hq (by simpa using hb) (by rintro c fz ⟨⟩)

set_option maxHeartbeats 1000000 in
set_option maxRecDepth 100000 in
theorem encNum (B b : Nat) (l : List UInt8) (n : Int) (hn0 : -9223372036854775808 ≤ n) (hn1 : n ≤ 9223372036854775807) (w : World) (h : Holds B b l w) (hlen : l.length ≤ 100000) :
    Calls Tryd.prog 28 #[.int .i64 n, .pointer (some ⟨b, 0, none⟩)] w fun e w' => e = .returned (.tuple #[]) ∧ Laid B b (l ++ Wire.num n) w w' := by
  have hlt := holds_lt h
  have hnl := Wire.num_len n ⟨by omega, by omega⟩
  have h0 := Laid.refl h
  go_enter Tryd.func28, Tryd.ntmps28
  go_wp2_with fail
  refine (num_any n hn0 hn1 _).mono ?_
  rintro e w1 ⟨rfl, hB1⟩
  have h1 := h0.call hB1 (by omega)
  go_wp2_with fail
  refine (writeString_laid B b l _ _ h1.1 (by omega)).mono ?_
  rintro e w2 ⟨rfl, hL⟩
  have h2 := h1.then hL
  go_wp2_with fail
  go_end0
  exact ⟨rfl, h2⟩

set_option maxHeartbeats 1000000 in
set_option maxRecDepth 100000 in
theorem encName (B b : Nat) (l : List UInt8) (s : ByteArray) (hs : s.size ≤ 1000) (w : World) (h : Holds B b l w) (hlen : l.length ≤ 100000) :
    Calls Tryd.prog 31 #[.string s, .pointer (some ⟨b, 0, none⟩)] w fun e w' => e = .returned (.tuple #[]) ∧ Laid B b (l ++ txtB s) w w' := by
  have hlt := holds_lt h
  have hnl := Wire.num_len (s.size : Int) ⟨by omega, by omega⟩
  have h0 := Laid.refl h
  have hsl : (Wire.num s.size ++ s.data.toList).length ≤ 2000 := by rw [List.length_append, nm_size]; omega
  have HT := Lib.hid (fun W => text_any s (by omega) W)
  have htb : Wire.num s.size ++ s.data.toList = txtB s := rfl
  rw [htb] at hsl
  go_enter Tryd.func31, Tryd.ntmps31
  go_wp2_with fail
  refine (HT.out _).mono ?_
  rintro e w1 ⟨rfl, hB1⟩
  have h1 := h0.call hB1 (by omega)
  rw [htb]
  go_wp2_with fail
  refine (writeString_laid B b l _ _ h1.1 (by omega)).mono ?_
  rintro e w2 ⟨rfl, hL⟩
  have h2 := h1.then hL
  go_wp2_with fail
  go_end0
  exact ⟨rfl, h2⟩

def clsHead (cn : ByteArray) (n : Nat) : List UInt8 := txtB cn ++ Wire.num n
def clsTo (cn : ByteArray) (fs : List Fl) (k : Nat) : List UInt8 := clsHead cn fs.length ++ (fs.take k).flatMap Fl.bytes
theorem clsTo_zero (cn : ByteArray) (fs : List Fl) : clsTo cn fs 0 = clsHead cn fs.length := by unfold clsTo; simp
theorem clsTo_succ (cn : ByteArray) (fs : List Fl) (k : Nat) (h : k < fs.length) : clsTo cn fs (k + 1) = clsTo cn fs k ++ txtB fs[k].nm ++ Wire.num fs[k].k ++ Wire.num fs[k].o ++ Wire.num (if fs[k].ix then 1 else 0) := by
  unfold clsTo
  rw [List.take_succ_eq_append_getElem h, List.flatMap_append]
  simp [Fl.bytes]
theorem clsTo_end (cn : ByteArray) (fs : List Fl) : clsTo cn fs fs.length = (Cl.mk cn fs).bytes := by
  unfold clsTo clsHead Cl.bytes
  rw [List.take_length]
theorem txtB_len {s : ByteArray} (h : s.size ≤ 1000) : (txtB s).length ≤ 1010 := by
  have := Wire.num_len (s.size : Int) ⟨by omega, by omega⟩
  unfold txtB
  rw [List.length_append, nm_size]; omega
theorem fl_len {f : Fl} (h : f.ok = true) : f.bytes.length ≤ 60 := by
  obtain ⟨_, h2, _, _, h3, h4⟩ := Fl.ok_parts h
  have a1 := Wire.num_len (f.nm.size : Int) ⟨by omega, by omega⟩
  have a2 := Wire.num_len f.k ⟨by omega, by omega⟩
  have a3 := Wire.num_len f.o ⟨by omega, by omega⟩
  have a4 := Wire.num_len (if f.ix then 1 else 0) (by cases f.ix <;> exact ⟨by decide, by decide⟩)
  unfold Fl.bytes txtB
  simp only [List.length_append, nm_size]
  omega
theorem fls_len : ∀ (fs : List Fl), (∀ f ∈ fs, f.ok = true) → (fs.flatMap Fl.bytes).length ≤ 60 * fs.length
  | [], _ => by simp
  | f :: fs, h => by
    have h1 := fl_len (h f List.mem_cons_self)
    have h2 := fls_len fs (fun x hx => h x (List.mem_cons_of_mem _ hx))
    rw [List.flatMap_cons, List.length_append, List.length_cons]; omega
theorem clsTo_len {cn : ByteArray} {fs : List Fl} (h : (Cl.mk cn fs).ok = true) (k : Nat) : (clsTo cn fs k).length ≤ 2000 := by
  obtain ⟨h1, h2, h3⟩ := Cl.ok_parts h
  simp only at h1 h2
  have a := fls_len (fs.take k) (fun f hf => by
    obtain ⟨i, hi, e⟩ := List.getElem_of_mem (List.mem_of_mem_take hf)
    rw [← e]; exact (h3 i hi).1)
  have a1 := Wire.num_len (cn.size : Int) ⟨by omega, by omega⟩
  have a2 := Wire.num_len (fs.length : Int) ⟨by omega, by omega⟩
  have a3 : (fs.take k).length ≤ 8 := by rw [List.length_take]; omega
  unfold clsTo clsHead txtB
  simp only [List.length_append, nm_size]
  omega

/-- what Encode answers -/
def encCPost (cl : Cl) (w : World) (e : Ending) (w' : World) : Prop :=
  e = .returned (.tuple #[.string ⟨(if cl.ok then cl.bytes else []).toArray⟩, .int .i64 (if cl.ok then 0 else 40)]) ∧ Below w.heap.size w w'

set_option maxHeartbeats 4000000 in
set_option maxRecDepth 100000 in
theorem clsEncode_any (cn : ByteArray) (p : Option Addr) (m c : Nat) (fs : List Fl) (hcn : cn.size ≤ 9223372036854775807) (hff : ∀ f ∈ fs, f.fine) (w : World) (hl : FLies w p m c fs) (hm : m ≤ 9223372036854775807) (hT : Tabs w) :
    Calls Tryd.prog 14 #[clV cn p m c] w (encCPost (Cl.mk cn fs) w) := by
  have hright := fun W (h : Below w.heap.size w W) => clsRight_any cn p m c fs hcn hff W (hl.below h) hm (hT.below h)
  obtain ⟨rfl, hL⟩ := hl
  unfold encCPost
  have hb : Below w.heap.size w (w.alloc (.cells #[.string cn, .slice p fs.length c] 27)) := (Below.refl _ _).alloc (Nat.le_refl _) _
  have hC := CBox.new w cn p fs.length c
  cases hok : (Cl.mk cn fs).ok with
  | false =>
    rw [hok] at hright
    have HR := Lib.hid hright
    have HB := Lib.hid hb
    obtain ⟨c0, c1⟩ := hC.facts
    clear hright hb hC hff hL hT hok
    go_enter Tryd.func14, Tryd.ntmps14
    go_wp2_with fail
    refine (HR.out _ HB.out).mono ?_
    rintro e W1 ⟨rfl, hB1⟩
    go_wp2_with fail
    exact bodyPost_ret (v := .tuple #[.string ⟨#[]⟩, .int .i64 40]) (by simp [results, Tryd.results14, go_sem]) rfl ⟨rfl, HB.out.trans (hB1.mono HB.out.size)⟩
  | true =>
    rw [hok] at hright
    obtain ⟨p1, p2, p3⟩ := Cl.ok_parts hok
    simp only at p1 p2 p3
    have hnl : cn.size ≤ 1000 := by omega
    have hhl : (txtB cn).length ≤ 1010 := txtB_len hnl
    have hlen := clsTo_len hok
    have hfb : ∀ k (h : k < fs.length), fs[k].nm.size ≤ 1000 ∧ (1 ≤ fs[k].k ∧ fs[k].k ≤ 5) ∧ (0 ≤ fs[k].o ∧ fs[k].o ≤ 4) := fun k h => by
      obtain ⟨_, b2, _, _, b3, b4⟩ := Fl.ok_parts (p3 k h).1
      exact ⟨by omega, b3, b4⟩
    have HSUCC := Lib.hid (clsTo_succ cn fs)
    have HZERO := Lib.hid (clsTo_zero cn fs)
    have HEND := Lib.hid (clsTo_end cn fs)
    have hhd : txtB cn ++ Wire.num fs.length = clsHead cn fs.length := rfl
    have HHD := Lib.hid hhd
    generalize hG : clsTo cn fs = G at hlen
    have HG := Lib.hid hG
    have HR := Lib.hid hright
    have HB := Lib.hid hb
    have HC := Lib.hid hC
    have HLEN := Lib.hid hlen
    have HFB := Lib.hid hfb
    have HL := Lib.hid hL
    obtain ⟨c0, c1⟩ := hC.facts
    clear hright hb hC hff hL hT hok hlen hfb p3 hhd hG
    go_enter Tryd.func14, Tryd.ntmps14
    go_wp2_with fail
    refine (HR.out _ HB.out).mono ?_
    rintro e W1 ⟨rfl, hB1⟩
    have hBw := HB.out.trans (hB1.mono HB.out.size)
    have hC1 := (HC.out.below hB1)
    have hz1 : w.heap.size < W1.heap.size := hC1.lt
    have h0 : Holds W1.heap.size W1.heap.size [] (W1.alloc (.cells #[.pointer none, .slice none 0 0] 69)) := Lib.IsBuilderF.of (Lib.fresh_isBuilder _ _ _)
    have hC2 := hC1.alloc (.cells #[.pointer none, .slice none 0 0] 69)
    have hB2 : Below W1.heap.size W1 (W1.alloc (.cells #[.pointer none, .slice none 0 0] 69)) := (Below.refl _ _).alloc (Nat.le_refl _) _
    clear c0 c1 hB1 hC1
    obtain ⟨c0, c1⟩ := hC2.facts
    have H0 := Lib.hid h0
    have HC2 := Lib.hid hC2
    have HBW := Lib.hid hBw
    have HB2 := Lib.hid hB2
    clear h0 hC2 hBw hB2 HB HC
    go_wp2_with fail
    generalize hbb : W1.heap.size = bb at *
    generalize W1.alloc (.cells #[.pointer none, .slice none 0 0] 69) = U at *
    refine (encName bb bb [] cn hnl _ H0.out (by simp)).mono ?_
    rintro e W3 ⟨rfl, hL3⟩
    rw [List.nil_append] at hL3
    have hC3 := hL3.cbox HC2.out (by omega)
    have HL3 := Lib.hid hL3
    clear c0 c1 hL3
    obtain ⟨c0, c1⟩ := hC3.facts
    have HC3 := Lib.hid hC3
    clear hC3
    go_wp2_with fail
    refine (encNum bb bb (txtB cn) (fs.length : Int) (by omega) (by omega) _ HL3.out.1 (by omega)).mono ?_
    rintro e W4 ⟨rfl, hL4⟩
    rw [HHD.out, ← HZERO.out, HG.out] at hL4
    have hC4 := hL4.cbox HC3.out (by omega)
    have HL4 := Lib.hid (HL3.out.then hL4)
    clear c0 c1 hL4
    obtain ⟨c0, c1⟩ := hC4.facts
    have HC4 := Lib.hid hC4
    clear hC4 HC3 HL3 H0 HC2
    go_wp2_with fail
    clear c0 c1
    go_loopw [26] (fun i wr => ∃ k : Nat, k ≤ fs.length ∧ i = .int .i64 (k : Int) ∧ Laid bb bb (G k) U wr ∧ CBox wr w.heap.size cn p fs.length c) (fun i _ => fs.length - (intOf i).toNat)
    case atStart => exact ⟨0, by omega, rfl, HL4.out, HC4.out⟩
    case round =>
      obtain ⟨k, hk, rfl, hLr, hCr⟩ := hrel
      clear HL4 HC4
      have hbl := holds_lt hLr.1
      have hlen := HLEN.out k
      by_cases hlt : k < fs.length
      · have e1 : decide ((k : Int) < (fs.length : Int)) = true := decide_eq_true (by omega)
        have e1' : (k : Int) < (fs.length : Int) := by omega
        have e0 : (0 : Int) ≤ (k : Int) := by omega
        obtain ⟨b, off, rfl, hbb2, hc⟩ := HL.out.at (by omega)
        have hbw2 : Below w.heap.size w wr := (HBW.out.trans (HB2.out.mono (by omega))).trans (hLr.2.1.mono (by omega))
        have hcx : ∀ (i : Nat) (u : Value), ((fs[k]'hlt).cells)[i]? = some u → wr.cell? ⟨b, off + k * 4 + i, none⟩ = some u := fun i u hu => by
          rw [hbw2.cell (p := ⟨b, off + k * 4 + i, none⟩) hbb2, Nat.add_assoc]
          exact hc _ _ (flCells_at fs k hlt i u hu)
        have hf := HFB.out k hlt
        have hsucc := HSUCC.out k hlt
        rw [HG.out] at hsucc
        have hlen1 := HLEN.out (k + 1)
        rw [hsucc] at hlen1
        generalize fs[k]'hlt = f at hcx hf hsucc hlen1
        obtain ⟨fn, fk, fo, fx⟩ := f
        simp only at hf hsucc hlen1
        simp only [List.length_append] at hlen1
        have z0 : wr.cell? ⟨b, off + k * 4, none⟩ = some (.string fn) := hcx 0 _ rfl
        have z1 : wr.cell? ⟨b, off + k * 4 + 1, none⟩ = some (.int .i64 fk) := hcx 1 _ rfl
        have z2 : wr.cell? ⟨b, off + k * 4 + 2, none⟩ = some (.int .i64 fo) := hcx 2 _ rfl
        have z3 : wr.cell? ⟨b, off + k * 4 + 3, none⟩ = some (.bool fx) := hcx 3 _ rfl
        have hal : Below wr.heap.size wr (wr.alloc (.cells #[.string fn, .int .i64 fk, .int .i64 fo, .bool fx] 53)) := (Below.refl _ _).alloc (Nat.le_refl _) _
        have M0 := Lib.hid (hLr.call hal (by omega))
        have F0 := Lib.hid (FBox.new wr ⟨fn, fk, fo, fx⟩)
        have K0 := Lib.hid (hCr.below hal)
        have HS := Lib.hid hsucc
        have hne : wr.heap.size ≠ bb := by omega
        have hne2 : w.heap.size ≠ bb := by omega
        clear hcx hc hsucc hal hLr hCr hbw2
        obtain ⟨y0, y1, y2, y3⟩ := F0.out.facts
        simp only at y0 y1 y2 y3
        go_wp2_with fail
        generalize wr.alloc (.cells #[.string fn, .int .i64 fk, .int .i64 fo, .bool fx] 53) = X at M0 F0 K0 y0 y1 y2 y3 ⊢
        generalize wr.heap.size = bf at F0 hne y0 y1 y2 y3 ⊢
        clear z0 z1 z2 z3
        go_wp2_with fail
        refine (encName bb bb (G k) fn hf.1 _ M0.out.1 (by omega)).mono ?_
        rintro e Y1 ⟨rfl, hL⟩
        have F1 := Lib.hid (hL.fbox F0.out hne)
        have K1 := Lib.hid (hL.cbox K0.out hne2)
        have M1 := Lib.hid (M0.out.then hL)
        clear hL M0 F0 K0 y0 y1 y2 y3
        obtain ⟨y0, y1, y2, y3⟩ := F1.out.facts
        simp only at y0 y1 y2 y3
        go_wp2_with fail
        refine (encNum bb bb (G k ++ txtB fn) fk (by omega) (by omega) _ M1.out.1 (by rw [List.length_append]; omega)).mono ?_
        rintro e Y2 ⟨rfl, hL⟩
        have F2 := Lib.hid (hL.fbox F1.out hne)
        have K2 := Lib.hid (hL.cbox K1.out hne2)
        have M2 := Lib.hid (M1.out.then hL)
        clear hL M1 F1 K1 y0 y1 y2 y3
        obtain ⟨y0, y1, y2, y3⟩ := F2.out.facts
        simp only at y0 y1 y2 y3
        go_wp2_with fail
        refine (encNum bb bb (G k ++ txtB fn ++ Wire.num fk) fo (by omega) (by omega) _ M2.out.1 (by rw [List.length_append, List.length_append]; omega)).mono ?_
        rintro e Y3 ⟨rfl, hL⟩
        have F3 := Lib.hid (hL.fbox F2.out hne)
        have K3 := Lib.hid (hL.cbox K2.out hne2)
        have M3 := Lib.hid (M2.out.then hL)
        clear hL M2 F2 K2 y0 y1 y2 y3
        obtain ⟨y0, y1, y2, y3⟩ := F3.out.facts
        simp only at y0 y1 y2 y3
        cases fx with
        | true =>
          go_wp2_with fail
          refine (encNum bb bb (G k ++ txtB fn ++ Wire.num fk ++ Wire.num fo) 1 (by decide) (by decide) _ M3.out.1 (by rw [List.length_append, List.length_append, List.length_append]; omega)).mono ?_
          rintro e Y4 ⟨rfl, hL⟩
          have K4 := Lib.hid (hL.cbox K3.out hne2)
          have M4 := Lib.hid (M3.out.then hL)
          clear hL M3 K3 F3 y0 y1 y2 y3
          have hgo : Laid bb bb (G (k + 1)) U Y4 := by
            have h := M4.out
            rw [HS.out]
            exact h
          have HGO := Lib.hid hgo
          clear hgo M4
          go_wp2_with fail
          exact ⟨⟨k + 1, by omega, by go_num, HGO.out, K4.out⟩, by simp [intOf]; omega⟩
        | false =>
          go_wp2_with fail
          refine (encNum bb bb (G k ++ txtB fn ++ Wire.num fk ++ Wire.num fo) 0 (by decide) (by decide) _ M3.out.1 (by rw [List.length_append, List.length_append, List.length_append]; omega)).mono ?_
          rintro e Y4 ⟨rfl, hL⟩
          have K4 := Lib.hid (hL.cbox K3.out hne2)
          have M4 := Lib.hid (M3.out.then hL)
          clear hL M3 K3 F3 y0 y1 y2 y3
          have hgo : Laid bb bb (G (k + 1)) U Y4 := by
            have h := M4.out
            rw [HS.out]
            exact h
          have HGO := Lib.hid hgo
          clear hgo M4
          go_wp2_with fail
          exact ⟨⟨k + 1, by omega, by go_num, HGO.out, K4.out⟩, by simp [intOf]; omega⟩
      · obtain rfl : k = fs.length := by omega
        have e1 : decide ((fs.length : Int) < (fs.length : Int)) = false := decide_eq_false (by omega)
        have HLR := Lib.hid hLr
        clear hLr
        go_wp2_with fail
        refine (Tryd.Builder_String_any_k _ _ (G fs.length) _ HLR.out.1 (by omega)).mono ?_
        rintro e w4 ⟨rfl, _, hB4, _⟩
        have hfin : Below w.heap.size w w4 := (HBW.out.trans (HB2.out.mono (by omega))).trans ((HLR.out.2.1.trans hB4).mono (by omega))
        have he : G fs.length = (Cl.mk cn fs).bytes := by rw [← HG.out]; exact HEND.out
        rw [he]
        go_wp2_with fail
        go_ret2
        exact ⟨rfl, hfin⟩
end Go.Proofs.YtffoklhopmhjaaaDoor

/- moraineref04.Same. -/
set_option linter.unusedSimpArgs false
set_option linter.unusedVariables false
namespace Go.Proofs.YtffoklhopmhjaaaDoor
open Go Go.RowKit Go.Shelf

set_option maxHeartbeats 2000000 in
set_option maxRecDepth 100000 in
theorem rsame_any (cn : ByteArray) (p : Option Addr) (m c : Nat) (fs : List Fl) (dn : ByteArray) (p' : Option Addr) (m' c' : Nat) (gs : List Fl) (w : World) (hl : FLies w p m c fs) (hl' : FLies w p' m' c' gs) (hm : m ≤ 9223372036854775807) (hm' : m' ≤ 9223372036854775807) :
    Calls Tryd.prog 21 #[clV cn p m c, clV dn p' m' c'] w fun e w' => e = .returned (.bool (sameC ⟨cn, fs⟩ ⟨dn, gs⟩)) ∧ Below w.heap.size w w' := by
  rw [sameC_split]
  simp only
  have b2 : Below w.heap.size w ((w.alloc (.cells #[.string cn, .slice p m c] 27)).alloc (.cells #[.string dn, .slice p' m' c'] 27)) := below_two _ _
  have hc1 := (CBox.new w cn p m c).alloc (.cells #[.string dn, .slice p' m' c'] 27)
  have hc2 := CBox.new (w.alloc (.cells #[.string cn, .slice p m c] 27)) dn p' m' c'
  rw [World.size_alloc] at hc2
  obtain ⟨rfl, hL⟩ := hl
  obtain ⟨rfl, hL'⟩ := hl'
  obtain ⟨s0, s1⟩ := hc1.facts
  obtain ⟨t0, t1⟩ := hc2.facts
  have HB2 := Lib.hid b2
  have HC1 := Lib.hid hc1
  have HC2 := Lib.hid hc2
  have HL := Lib.hid hL
  have HL' := Lib.hid hL'
  clear b2 hc1 hc2 hL hL'
  generalize hq : (cn.toList == dn.toList) = q
  cases q with
  | false =>
    have q0 : ¬ cn.toList = dn.toList := by simpa using hq
    go_enter Tryd.func21, Tryd.ntmps21
    go_wp2_with fail
    go_ret
    exact ⟨rfl, HB2.out⟩
  | true =>
  have q0 : cn.toList = dn.toList := by simpa using hq
  clear hq
  rw [Bool.true_and]
  by_cases hlen : fs.length = gs.length
  · have hat := fun k h h' => flsEq_at (fs := fs) (gs := gs) (k := k) h h'
    have hall := fun h => flsEq_all (fs := fs) (gs := gs) hlen h
    generalize flsEq fs gs = r at hat hall ⊢
    have HAT := Lib.hid hat
    have HALL := Lib.hid hall
    have HLEN := Lib.hid hlen
    rw [← hlen] at HB2 HC1 HC2 HL' s0 s1 t0 t1 hm' ⊢
    clear hlen
    clear hat hall
    go_enter Tryd.func21, Tryd.ntmps21
    go_wp2_with fail
    go_loopw [5] (fun i wr => ∃ k : Nat, k ≤ fs.length ∧ i = .int .i64 (k : Int) ∧ (∀ j (h : j < fs.length) (h' : j < gs.length), j < k → fs[j].eqB gs[j] = true) ∧ Below w.heap.size w wr ∧ CBox wr w.heap.size cn p fs.length c ∧ CBox wr (w.heap.size + 1) dn p' fs.length c') (fun i _ => fs.length - (intOf i).toNat)
    case atStart => exact ⟨0, by omega, rfl, fun j _ _ h => absurd h (by omega), HB2.out, HC1.out, HC2.out⟩
    case round =>
      obtain ⟨k, hk, rfl, he, hB, hX, hY⟩ := hrel
      obtain ⟨v0, v1⟩ := hX.facts
      obtain ⟨v2, v3⟩ := hY.facts
      have HX := Lib.hid hX
      have HY := Lib.hid hY
      clear hX hY
      have HE := Lib.hid he; clear he
      by_cases hlt : k < fs.length
      · have hlt' : k < gs.length := by rw [← HLEN.out]; exact hlt
        have e1 : decide ((k : Int) < (fs.length : Int)) = true := decide_eq_true (by omega)
        have e1' : (k : Int) < (fs.length : Int) := by omega
        have e0 : (0 : Int) ≤ (k : Int) := by omega
        obtain ⟨b, off, rfl, hb, hc⟩ := HL.out.at (by omega)
        obtain ⟨b', off', rfl, hb', hc'⟩ := HL'.out.at (by omega)
        have hd : Below w.heap.size w wr.drew := hB.drew
        have hXd := HX.out.below (Below.refl _ _).drew
        have hYd := HY.out.below (Below.refl _ _).drew
        have HXD := Lib.hid hXd
        have HYD := Lib.hid hYd
        obtain ⟨u0, u1⟩ := hXd.facts
        obtain ⟨u2, u3⟩ := hYd.facts
        clear hXd hYd
        have hcx : ∀ (i : Nat) (u : Value), ((fs[k]'hlt).cells)[i]? = some u → wr.drew.cell? ⟨b, off + k * 4 + i, none⟩ = some u := fun i u hu => by
          rw [hd.cell (p := ⟨b, off + k * 4 + i, none⟩) hb, Nat.add_assoc]
          exact hc _ _ (flCells_at fs k hlt i u hu)
        have hcy : ∀ (i : Nat) (u : Value), ((gs[k]'hlt').cells)[i]? = some u → wr.drew.cell? ⟨b', off' + k * 4 + i, none⟩ = some u := fun i u hu => by
          rw [hd.cell (p := ⟨b', off' + k * 4 + i, none⟩) hb', Nat.add_assoc]
          exact hc' _ _ (flCells_at gs k hlt' i u hu)
        have hat := HAT.out k hlt hlt'
        have hnx : (fs[k]'hlt).eqB (gs[k]'hlt') = true → ∀ j (h : j < fs.length) (h' : j < gs.length), j < k + 1 → fs[j].eqB gs[j] = true := fun h j hj hj' hjk => by
          rcases Nat.lt_or_ge j k with h1 | h1
          · exact HE.out j hj hj' h1
          · have e : j = k := by omega
            subst e; exact h
        generalize fs[k]'hlt = f at hcx hat hnx
        generalize gs[k]'hlt' = g at hcy hat hnx
        obtain ⟨fn, fk, fo, fx⟩ := f
        obtain ⟨gn, gk, go, gx⟩ := g
        unfold Fl.eqB at hat hnx
        simp only at hat hnx
        have z0 : wr.drew.cell? ⟨b, off + k * 4, none⟩ = some (.string fn) := hcx 0 _ rfl
        have z1 : wr.drew.cell? ⟨b, off + k * 4 + 1, none⟩ = some (.int .i64 fk) := hcx 1 _ rfl
        have z2 : wr.drew.cell? ⟨b, off + k * 4 + 2, none⟩ = some (.int .i64 fo) := hcx 2 _ rfl
        have z3 : wr.drew.cell? ⟨b, off + k * 4 + 3, none⟩ = some (.bool fx) := hcx 3 _ rfl
        have y0 : wr.drew.cell? ⟨b', off' + k * 4, none⟩ = some (.string gn) := hcy 0 _ rfl
        have y1 : wr.drew.cell? ⟨b', off' + k * 4 + 1, none⟩ = some (.int .i64 gk) := hcy 1 _ rfl
        have y2 : wr.drew.cell? ⟨b', off' + k * 4 + 2, none⟩ = some (.int .i64 go) := hcy 2 _ rfl
        have y3 : wr.drew.cell? ⟨b', off' + k * 4 + 3, none⟩ = some (.bool gx) := hcy 3 _ rfl
        have HATT := Lib.hid hat
        have HNX := Lib.hid hnx
        have HD := Lib.hid hd
        clear hcx hcy hc hc' hat hnx hd hB
        by_cases q0 : fn.toList = gn.toList
        · skip
          by_cases q1 : fk = gk
          · skip
            by_cases q2 : fo = go
            · skip
              by_cases q3 : fx = gx
              · skip
                have hnx := HNX.out (by rw [beq_iff_eq.2 q0, beq_iff_eq.2 q1, beq_iff_eq.2 q2, beq_iff_eq.2 q3]; rfl)
                have HN2 := Lib.hid hnx
                clear hnx
                go_wp2_with fail
                go_region
                go_wp2_with fail
                exact ⟨⟨k + 1, by omega, by go_num, HN2.out, HD.out, HXD.out, HYD.out⟩, by simp [intOf]; omega⟩
              · have hz := HATT.out (by rw [beq_iff_eq.2 q0, beq_iff_eq.2 q1, beq_iff_eq.2 q2, beq_eq_false_iff_ne.2 q3]; rfl)
                have HZ := Lib.hid hz
                clear hz
                go_wp2_with fail
                go_region
                go_wp2_with fail
                go_ret
                exact ⟨by rw [HZ.out] <;> rfl, HD.out⟩
            · have hz := HATT.out (by rw [beq_iff_eq.2 q0, beq_iff_eq.2 q1, beq_eq_false_iff_ne.2 q2]; rfl)
              have HZ := Lib.hid hz
              clear hz
              go_wp2_with fail
              go_region
              go_wp2_with fail
              go_ret
              exact ⟨by rw [HZ.out] <;> rfl, HD.out⟩
          · have hz := HATT.out (by rw [beq_iff_eq.2 q0, beq_eq_false_iff_ne.2 q1]; rfl)
            have HZ := Lib.hid hz
            clear hz
            go_wp2_with fail
            go_region
            go_wp2_with fail
            go_ret
            exact ⟨by rw [HZ.out] <;> rfl, HD.out⟩
        · have hz := HATT.out (by rw [beq_eq_false_iff_ne.2 q0]; rfl)
          have HZ := Lib.hid hz
          clear hz
          go_wp2_with fail
          go_region
          go_wp2_with fail
          go_ret
          exact ⟨by rw [HZ.out] <;> rfl, HD.out⟩
      · obtain rfl : k = fs.length := by omega
        have e1 : decide ((fs.length : Int) < (fs.length : Int)) = false := decide_eq_false (by omega)
        have hz := HALL.out (fun j h h' => HE.out j h h' h)
        have HZ := Lib.hid hz
        clear hz
        go_wp2_with fail
        go_ret
        exact ⟨by rw [HZ.out] <;> rfl, hB⟩
  · have dne : ((fs.length : Int) != (gs.length : Int)) = true := by simp; omega
    have dne' : ¬ (fs.length : Int) = (gs.length : Int) := by omega
    have hz := flsEq_len hlen
    have HZ := Lib.hid hz
    clear hz
    go_enter Tryd.func21, Tryd.ntmps21
    go_wp2_with fail
    go_ret
    exact ⟨by rw [HZ.out] <;> rfl, HB2.out⟩
end Go.Proofs.YtffoklhopmhjaaaDoor

/- class.Decode. -/
set_option linter.unusedSimpArgs false
set_option linter.unusedVariables false
namespace Go.Proofs.YtffoklhopmhjaaaDoor
open Go Go.RowKit Go.Shelf Go.Sort

theorem textP_some {l : List UInt8} {x : List UInt8 × Nat} (h : textP l = some x) : x.1.length ≤ 10000 ∧ x.2 ≤ l.length := by
  unfold textP at h
  cases hn : textL l with
  | none => rw [hn] at h; cases h
  | some v =>
    rw [hn] at h
    cases h
    have h1 := textL_some hn
    have := h1.2.length_le
    rw [List.length_append] at this
    exact ⟨h1.1, this⟩
theorem numP_some {l : List UInt8} {x : Int × Nat} (h : numP l = some x) : (-9223372036854775808 ≤ x.1 ∧ x.1 ≤ 9223372036854775807) ∧ x.2 ≤ l.length := by
  unfold numP at h
  cases hn : numL l with
  | none => rw [hn] at h; cases h
  | some v =>
    rw [hn] at h
    cases h
    have h1 := numL_some hn
    exact ⟨⟨h1.1.1, h1.1.2⟩, h1.2.length_le⟩
theorem seqP_some {α β γ : Type} {P : Prs α} {Q : α → Prs β} {f : α → β → γ} {l : List UInt8} {z : γ × Nat} (h : seqP P Q f l = some z) : ∃ x y, P l = some x ∧ Q x.1 (l.drop x.2) = some y ∧ z = (f x.1 y.1, x.2 + y.2) := by
  unfold seqP at h
  cases hp : P l with
  | none => rw [hp] at h; cases h
  | some x =>
    rw [hp] at h
    simp only at h
    cases hq : Q x.1 (l.drop x.2) with
    | none => rw [hq] at h; cases h
    | some y =>
      rw [hq] at h
      exact ⟨x, y, rfl, hq, (Option.some.inj h).symm⟩
theorem fieldP_fine {l : List UInt8} {z : Fl × Nat} (h : fieldP l = some z) : z.1.fine ∧ z.2 ≤ l.length := by
  obtain ⟨x, y, h1, h2, rfl⟩ := seqP_some h
  obtain ⟨x2, y2, h3, h4, rfl⟩ := seqP_some h2
  obtain ⟨x3, y3, h5, h6, rfl⟩ := seqP_some h4
  have a := textP_some h1
  have b := numP_some h3
  have c := numP_some h5
  have d : y3.2 ≤ ((l.drop x.2).drop x2.2 |>.drop x3.2).length := by
    unfold ixP at h6
    cases hn : numP ((l.drop x.2).drop x2.2 |>.drop x3.2) with
    | none => rw [hn] at h6; cases h6
    | some v =>
      rw [hn] at h6
      simp only at h6
      have e := (numP_some hn).2
      split at h6
      · cases h6; exact e
      · split at h6
        · cases h6; exact e
        · cases h6
  simp only [List.length_drop] at b c d
  refine ⟨⟨?_, b.1, c.1⟩, ?_⟩
  · show (⟨x.1.toArray⟩ : ByteArray).size ≤ _
    have : (⟨x.1.toArray⟩ : ByteArray).size = x.1.length := List.size_toArray
    omega
  · show x.2 + (x2.2 + (x3.2 + y3.2)) ≤ l.length
    have := a.2
    omega
theorem fieldsP_fine : ∀ (n : Nat) (l : List UInt8) (z : List Fl × Nat), fieldsP n l = some z → (∀ f ∈ z.1, f.fine) ∧ z.2 ≤ l.length
  | 0, l, z, h => by cases h; exact ⟨by simp, Nat.zero_le _⟩
  | n + 1, l, z, h => by
    obtain ⟨x, y, h1, h2, rfl⟩ := seqP_some h
    have a := fieldP_fine h1
    have b := fieldsP_fine n _ _ h2
    rw [List.length_drop] at b
    refine ⟨fun f hf => ?_, ?_⟩
    · rcases List.mem_cons.1 hf with rfl | hf
      · exact a.1
      · exact b.1 f hf
    · show x.2 + y.2 ≤ l.length
      omega
theorem clsP_fine {l : List UInt8} {z : Cl × Nat} (h : clsP l = some z) : z.1.nm.size ≤ 10000 ∧ (∀ f ∈ z.1.fs, f.fine) ∧ z.2 ≤ l.length := by
  obtain ⟨x, y, h1, h2, rfl⟩ := seqP_some h
  obtain ⟨x2, y2, h3, h4, rfl⟩ := seqP_some h2
  have a := textP_some h1
  have b := fieldsP_fine _ _ _ h4
  have c : x2.2 ≤ (l.drop x.2).length := by
    unfold sizeP at h3
    cases hn : numP (l.drop x.2) with
    | none => rw [hn] at h3; cases h3
    | some v =>
      rw [hn] at h3
      simp only at h3
      have e := (numP_some hn).2
      split at h3
      · cases h3; exact e
      · cases h3
  simp only [List.length_drop] at b c
  refine ⟨?_, b.1, ?_⟩
  · show (⟨x.1.toArray⟩ : ByteArray).size ≤ _
    have : (⟨x.1.toArray⟩ : ByteArray).size = x.1.length := List.size_toArray
    omega
  · show x.2 + (x2.2 + y2.2) ≤ l.length
    have := a.2
    omega

theorem dec_fin {w W : World} {A : Nat} {nm : ByteArray} {p : Option Addr} {m c : Nat} (h : CBox W A nm p m c) (hb : Below w.heap.size w W) (hA : w.heap.size ≤ A) (nm' : ByteArray) (q : Option Addr) (m' c' : Nat) :
    CBox ((W.setCell ⟨A, 0, none⟩ (.string nm')).setCell ⟨A, 1, none⟩ (.slice q m' c')) A nm' q m' c' ∧ Below w.heap.size w ((W.setCell ⟨A, 0, none⟩ (.string nm')).setCell ⟨A, 1, none⟩ (.slice q m' c')) :=
  ⟨(h.set0 nm').set1 q m' c', (hb.setCell (p := ⟨A, 0, none⟩) hA _).setCell (p := ⟨A, 1, none⟩) hA _⟩
theorem below_kept {w W W' : World} {R : Nat} (h : Below w.heap.size w W) (hk : Kept R W W') (hR : w.heap.size ≤ R) : Below w.heap.size w W' := below_grown h hk hR
theorem lies_apart {W : World} {p : Option Addr} {m c : Nat} {fs : List Fl} (h : FLies W p m c fs) {A : Nat} {nm' : ByteArray} {p' : Option Addr} {m' c' : Nat} (hA : CBox W A nm' p' m' c') (i : Nat) (v : Value) : FLies (W.setCell ⟨A, i, none⟩ v) p m c fs := by
  obtain ⟨rfl, h1, h2⟩ := h
  refine ⟨rfl, h1, ?_⟩
  cases fs with
  | nil => exact .inl ⟨rfl, p, c, rfl⟩
  | cons f fs =>
    rcases h2 with ⟨h0, _⟩ | ⟨b, off, d, e, hb, hc⟩
    · simp at h0
    · have hbA : b ≠ A := by
        rintro rfl
        have k0 := hc 0 (.string f.nm) rfl
        have k1 := hc 1 (.int .i64 f.k) rfl
        rw [Lib.cell_of_heap hA] at k0 k1
        match off with
        | 0 => simp at k1
        | 1 => simp at k0
        | off + 2 => simp at k0
      refine .inr ⟨b, off, d, e, by simpa using hb, fun j u hu => ?_⟩
      have hh : (W.setCell ⟨A, i, none⟩ v).heap[b]? = W.heap[b]? := Below.heap_setCell W ⟨A, i, none⟩ v b hbA
      have := hc j u hu
      unfold World.cell? at this ⊢
      simp only at this ⊢
      rw [hh]
      exact this
theorem fieldsP_len : ∀ (n : Nat) (l : List UInt8) (z : List Fl × Nat), fieldsP n l = some z → z.1.length = n
  | 0, l, z, h => by cases h; rfl
  | n + 1, l, z, h => by
    obtain ⟨x, y, h1, h2, rfl⟩ := seqP_some h
    have := fieldsP_len n _ _ h2
    show (x.1 :: y.1).length = n + 1
    rw [List.length_cons, this]
theorem clsP_len {l : List UInt8} {z : Cl × Nat} (h : clsP l = some z) : z.1.fs.length ≤ 8 := by
  obtain ⟨x, y, h1, h2, rfl⟩ := seqP_some h
  obtain ⟨x2, y2, h3, h4, rfl⟩ := seqP_some h2
  have a := fieldsP_len _ _ _ h4
  show y2.1.length ≤ 8
  rw [a]
  unfold sizeP at h3
  cases hn : numP (l.drop x.2) with
  | none => rw [hn] at h3; cases h3
  | some v =>
    rw [hn] at h3
    simp only at h3
    split at h3
    · cases h3
      show v.1.toNat ≤ 8
      omega
    · cases h3

/-- what Decode answers -/
def decCPost (s : ByteArray) (p : Nat) (w : World) (e : Ending) (w' : World) : Prop :=
  Below w.heap.size w w' ∧ match decC (s.data.toList.drop p) with
    | none => e = .returned (.tuple #[clV ⟨#[]⟩ none 0 0, .int .i64 0, .int .i64 10])
    | some y => ∃ (q : Option Addr) (m c : Nat), e = .returned (.tuple #[clV y.1.nm q m c, .int .i64 ((p + y.2 : Nat) : Int), .int .i64 0]) ∧ FLies w' q m c y.1.fs ∧ m ≤ 8

set_option maxHeartbeats 8000000 in
set_option maxRecDepth 100000 in
theorem clsDecode_any (s : ByteArray) (hs : s.size ≤ 9223372036854775807) (p : Nat) (hp : p ≤ s.size) (ea : Addr) (w : World) (hT : Tabs w) (hE : errLies ea w) :
    Calls Tryd.prog 15 #[.string s, .int .i64 (p : Int)] w (decCPost s p w) := by
  have b2 : Below w.heap.size w ((w.alloc (.cells #[.string ⟨#[]⟩, .slice none 0 0] 27)).alloc (.cells #[.string s, .int .i64 (p : Int), .bool false] 95)) := below_two _ _
  have hA := (CBox.new w ⟨#[]⟩ none 0 0).alloc (.cells #[.string s, .int .i64 (p : Int), .bool false] 95)
  have hR : RrO w ea s (w.heap.size + 1) (some p) ((w.alloc (.cells #[.string ⟨#[]⟩, .slice none 0 0] 27)).alloc (.cells #[.string s, .int .i64 (p : Int), .bool false] 95)) := by
    refine ⟨hs, hE, b2, by omega, ?_, hp⟩
    have h := World.alloc_heap_new (w.alloc (.cells #[.string ⟨#[]⟩, .slice none 0 0] 27)) (.cells #[.string s, .int .i64 (p : Int), .bool false] 95)
    rw [World.size_alloc] at h
    exact h
  have hread := clsRead_any w ea s (w.heap.size + 1) (some p) _ hR (by omega)
  have hrun := clsRun_is s p
  unfold readCPost at hread
  generalize clsRun s (some p) = res at hread hrun
  generalize (⟨(textS s (some p)).1.toArray⟩ : ByteArray) = nm0 at hread hrun
  unfold decCPost
  have hdec : decC (s.data.toList.drop p) = match clsP (s.data.toList.drop p) with
    | none => none
    | some x => if x.1.ok = true then some x else none := rfl
  rw [hdec]
  clear hdec
  have HREAD := Lib.hid hread
  have HA := Lib.hid hA
  have HB2 := Lib.hid b2
  have HTT := Lib.hid (show ∀ W, Below w.heap.size w W → Tabs W from fun W h => hT.below h)
  have hnew := rdNew s (p : Int) (w.alloc (.cells #[.string ⟨#[]⟩, .slice none 0 0] 27))
  rw [World.size_alloc] at hnew
  have HNEW := Lib.hid hnew
  clear hread hA b2 hT hR hnew hE
  cases hcp : clsP (s.data.toList.drop p) with
  | none =>
    rw [hcp] at hrun
    simp only at hrun ⊢
    have HRUN := Lib.hid hrun
    clear hrun hcp
    go_enter Tryd.func15, Tryd.ntmps15
    go_wp2_with fail
    refine HNEW.out.mono ?_
    rintro e W2 ⟨rfl, rfl⟩
    go_wp2_with fail
    refine HREAD.out.mono ?_
    rintro e W3 ⟨hk, hr, cn, q, m, c, rfl, hok⟩
    have hB3 := below_kept HB2.out hk (by omega)
    have hA3 := HA.out.grown hk (fun e => by have := Option.some.inj e; omega)
    have hal : Below W3.heap.size W3 (W3.alloc (.cells #[.string cn, .slice q m c] 27)) := (Below.refl _ _).alloc (Nat.le_refl _) _
    have HA4 := Lib.hid (hA3.below hal)
    have HB4 := Lib.hid (hB3.trans (hal.mono hB3.size))
    have hr4 := hr.below hal
    obtain ⟨p', bad, hr5, hbad⟩ : ∃ p' bad, Rr w ea s (w.heap.size + 1) p' bad (W3.alloc (.cells #[.string cn, .slice q m c] 27)) ∧ (res.1 = false ∨ bad = true) := by
      obtain ⟨r1, r2, r3⟩ := res
      simp only at hr4 HRUN
      cases r3 with
      | none =>
        obtain ⟨p', h⟩ := hr4
        exact ⟨p', true, h, .inr rfl⟩
      | some p' => exact ⟨p', false, hr4, .inl (HRUN.out.resolve_right (by simp))⟩
    have hend := rdEnd w ea s (w.heap.size + 1) p' bad _ hr5
    have HEND := Lib.hid hend
    generalize res.1 = ok at hbad ⊢
    clear hk hr hok hB3 hA3 hal hr4 hr5 hend
    go_wp2_with fail
    generalize W3.alloc (.cells #[.string cn, .slice q m c] 27) = W4 at HA4 HB4 HEND ⊢
    refine HEND.out.mono ?_
    rintro e W5 ⟨rfl, hB5⟩
    have HA9 := Lib.hid (HA4.out.below hB5)
    have HB9 := Lib.hid (HB4.out.trans (hB5.mono HB4.out.size))
    clear hB5 HA4 HB4 HEND
    cases ok with
    | false =>
      have hf := dec_fin HA9.out HB9.out (Nat.le_refl _) ⟨#[]⟩ none 0 0
      have HF := Lib.hid hf
      obtain ⟨g0, g1⟩ := HA9.out.facts
      obtain ⟨g2, g3⟩ := HA9.out.free
      clear hf
      go_wp2_with fail
      have hf := HF.out
      generalize ((W5.setCell ⟨w.heap.size, 0, none⟩ (.string ⟨#[]⟩)).setCell ⟨w.heap.size, 1, none⟩ (.slice none 0 0)) = W9 at hf ⊢
      obtain ⟨x0, x1⟩ := hf.1.facts
      exact bodyPost_ret (v := .tuple #[clV ⟨#[]⟩ none 0 0, .int .i64 0, .int .i64 10]) (by simp [results, Tryd.results15, go_sem, x0, x1]) rfl (⟨hf.2, rfl⟩)
    | true =>
      obtain rfl : bad = true := hbad.resolve_left (by simp)
      have hf := dec_fin HA9.out HB9.out (Nat.le_refl _) ⟨#[]⟩ none 0 0
      have HF := Lib.hid hf
      obtain ⟨g0, g1⟩ := HA9.out.facts
      obtain ⟨g2, g3⟩ := HA9.out.free
      clear hf
      go_wp2_with fail
      have hf := HF.out
      generalize ((W5.setCell ⟨w.heap.size, 0, none⟩ (.string ⟨#[]⟩)).setCell ⟨w.heap.size, 1, none⟩ (.slice none 0 0)) = W9 at hf ⊢
      obtain ⟨x0, x1⟩ := hf.1.facts
      exact bodyPost_ret (v := .tuple #[clV ⟨#[]⟩ none 0 0, .int .i64 0, .int .i64 10]) (by simp [results, Tryd.results15, go_sem, x0, x1]) rfl (⟨hf.2, rfl⟩)
  | some y =>
    rw [hcp] at hrun
    simp only at hrun ⊢
    obtain ⟨hres, hnm⟩ := hrun
    obtain ⟨yf1, yf2, yf3⟩ := clsP_fine hcp
    have yf4 := clsP_len hcp
    subst hres
    subst hnm
    clear hcp
    obtain ⟨⟨cn, fs⟩, n⟩ := y
    simp only at yf1 yf2 yf3 yf4 HREAD ⊢
    have hrt := fun q c W (h : FLies W q fs.length c fs) (hT : Tabs W) => clsRight_any cn q fs.length c fs (by omega) yf2 W h (by omega) hT
    generalize (Cl.mk cn fs).ok = okk at hrt ⊢
    have HRT := Lib.hid hrt
    clear hrt yf2
    cases okk with
    | false =>
      rw [if_neg (by decide)]
      simp only
      go_enter Tryd.func15, Tryd.ntmps15
      go_wp2_with fail
      refine HNEW.out.mono ?_
      rintro e W2 ⟨rfl, rfl⟩
      go_wp2_with fail
      refine HREAD.out.mono ?_
      rintro e W3 ⟨hk, hr, cn', q, m, c, rfl, hok⟩
      obtain ⟨rfl, hfl⟩ := hok (by trivial)
      have hml := hfl.1
      subst hml
      have hB3 := below_kept HB2.out hk (by omega)
      have hA3 := HA.out.grown hk (fun e => by have := Option.some.inj e; omega)
      have hal : Below W3.heap.size W3 (W3.alloc (.cells #[.string cn', .slice q fs.length c] 27)) := (Below.refl _ _).alloc (Nat.le_refl _) _
      have HA4 := Lib.hid (hA3.below hal)
      have HB4 := Lib.hid (hB3.trans (hal.mono hB3.size))
      have hr4 : Rr w ea s (w.heap.size + 1) (p + n) false _ := hr.below hal
      have hend := rdEnd w ea s (w.heap.size + 1) (p + n) false _ hr4
      have HC4 := Lib.hid (CBox.new W3 cn' q fs.length c)
      have HL4 := Lib.hid (hfl.below hal)
      have HEND := Lib.hid hend
      clear hk hr hok hB3 hA3 hal hr4 hend hfl
      go_wp2_with fail
      generalize W3.alloc (.cells #[.string cn', .slice q fs.length c] 27) = W4 at HA4 HB4 HC4 HL4 HEND ⊢
      generalize W3.heap.size = b8 at HC4 ⊢
      refine HEND.out.mono ?_
      rintro e W5 ⟨rfl, hB5⟩
      have HA5 := Lib.hid (HA4.out.below hB5)
      have HB5 := Lib.hid (HB4.out.trans (hB5.mono HB4.out.size))
      have HC5 := Lib.hid (HC4.out.below hB5)
      have HL5 := Lib.hid (HL4.out.below hB5)
      clear hB5 HA4 HB4 HEND HC4 HL4
      obtain ⟨k0, k1⟩ := HC5.out.facts
      go_wp2_with fail
      refine (HRT.out _ _ _ HL5.out (HTT.out _ HB5.out)).mono ?_
      rintro e W6 ⟨rfl, hB6⟩
      have HA9 := Lib.hid (HA5.out.below hB6)
      have HB9 := Lib.hid (HB5.out.trans (hB6.mono HB5.out.size))
      have HC9 := Lib.hid (HC5.out.below hB6)
      have HL9 := Lib.hid (HL5.out.below hB6)
      clear hB6 HA5 HB5 HC5 HL5 k0 k1
      have hf := dec_fin HA9.out HB9.out (Nat.le_refl _) ⟨#[]⟩ none 0 0
      have HF := Lib.hid hf
      obtain ⟨g0, g1⟩ := HA9.out.facts
      obtain ⟨g2, g3⟩ := HA9.out.free
      clear hf
      go_wp2_with fail
      have hf := HF.out
      generalize ((W6.setCell ⟨w.heap.size, 0, none⟩ (.string ⟨#[]⟩)).setCell ⟨w.heap.size, 1, none⟩ (.slice none 0 0)) = W9 at hf ⊢
      obtain ⟨x0, x1⟩ := hf.1.facts
      exact bodyPost_ret (v := .tuple #[clV ⟨#[]⟩ none 0 0, .int .i64 0, .int .i64 10]) (by simp [results, Tryd.results15, go_sem, x0, x1]) rfl (⟨hf.2, rfl⟩)
    | true =>
      rw [if_pos rfl]
      simp only
      go_enter Tryd.func15, Tryd.ntmps15
      go_wp2_with fail
      refine HNEW.out.mono ?_
      rintro e W2 ⟨rfl, rfl⟩
      go_wp2_with fail
      refine HREAD.out.mono ?_
      rintro e W3 ⟨hk, hr, cn', q, m, c, rfl, hok⟩
      obtain ⟨rfl, hfl⟩ := hok (by trivial)
      have hml := hfl.1
      subst hml
      have hB3 := below_kept HB2.out hk (by omega)
      have hA3 := HA.out.grown hk (fun e => by have := Option.some.inj e; omega)
      have hal : Below W3.heap.size W3 (W3.alloc (.cells #[.string cn', .slice q fs.length c] 27)) := (Below.refl _ _).alloc (Nat.le_refl _) _
      have HA4 := Lib.hid (hA3.below hal)
      have HB4 := Lib.hid (hB3.trans (hal.mono hB3.size))
      have hr4 : Rr w ea s (w.heap.size + 1) (p + n) false _ := hr.below hal
      have hend := rdEnd w ea s (w.heap.size + 1) (p + n) false _ hr4
      have HC4 := Lib.hid (CBox.new W3 cn' q fs.length c)
      have HL4 := Lib.hid (hfl.below hal)
      have HEND := Lib.hid hend
      clear hk hr hok hB3 hA3 hal hr4 hend hfl
      go_wp2_with fail
      generalize W3.alloc (.cells #[.string cn', .slice q fs.length c] 27) = W4 at HA4 HB4 HC4 HL4 HEND ⊢
      generalize W3.heap.size = b8 at HC4 ⊢
      refine HEND.out.mono ?_
      rintro e W5 ⟨rfl, hB5⟩
      have HA5 := Lib.hid (HA4.out.below hB5)
      have HB5 := Lib.hid (HB4.out.trans (hB5.mono HB4.out.size))
      have HC5 := Lib.hid (HC4.out.below hB5)
      have HL5 := Lib.hid (HL4.out.below hB5)
      clear hB5 HA4 HB4 HEND HC4 HL4
      obtain ⟨k0, k1⟩ := HC5.out.facts
      go_wp2_with fail
      refine (HRT.out _ _ _ HL5.out (HTT.out _ HB5.out)).mono ?_
      rintro e W6 ⟨rfl, hB6⟩
      have HA9 := Lib.hid (HA5.out.below hB6)
      have HB9 := Lib.hid (HB5.out.trans (hB6.mono HB5.out.size))
      have HC9 := Lib.hid (HC5.out.below hB6)
      have HL9 := Lib.hid (HL5.out.below hB6)
      clear hB6 HA5 HB5 HC5 HL5 k0 k1
      obtain ⟨k0, k1⟩ := HC9.out.facts
      have hf := dec_fin HA9.out HB9.out (Nat.le_refl _) cn' q fs.length c
      have HF := Lib.hid hf
      have hf2 := lies_apart (lies_apart HL9.out HA9.out 0 (.string cn')) (HA9.out.set0 cn') 1 (.slice q fs.length c)
      have HF2 := Lib.hid hf2
      obtain ⟨g0, g1⟩ := HA9.out.facts
      obtain ⟨g2, g3⟩ := HA9.out.free
      clear hf hf2
      go_wp2_with fail
      have hf := HF.out
      have hf2 := HF2.out
      generalize ((W6.setCell ⟨w.heap.size, 0, none⟩ (.string cn')).setCell ⟨w.heap.size, 1, none⟩ (.slice q fs.length c)) = W9 at hf hf2 ⊢
      obtain ⟨x0, x1⟩ := hf.1.facts
      exact bodyPost_ret (v := .tuple #[clV cn' q fs.length c, .int .i64 ((p + n : Nat) : Int), .int .i64 0]) (by simp [results, Tryd.results15, go_sem, x0, x1]) rfl (⟨hf.2, q, fs.length, c, rfl, hf2, yf4⟩)
end Go.Proofs.YtffoklhopmhjaaaDoor

/- class.Check. -/
set_option linter.unusedSimpArgs false
set_option linter.unusedVariables false
namespace Go.Proofs.YtffoklhopmhjaaaDoor
open Go Go.RowKit Go.Shelf

/-- the k-th value fits the k-th field -/
def fitAt (fs : List Fl) (vs : List V) (k : Nat) : Bool := ((fs[k]?).bind (fun f => (vs[k]?).map (fun v => fitsB v f.k f.o))).getD true
theorem fitAt_of {fs : List Fl} {vs : List V} {k : Nat} (h : k < fs.length) (h' : k < vs.length) : fitAt fs vs k = fitsB vs[k] fs[k].k fs[k].o := by
  unfold fitAt
  rw [List.getElem?_eq_getElem h, List.getElem?_eq_getElem h']; rfl
/-- the first value that doesn't fit -/
def misfit (fs : List Fl) (vs : List V) : Option Nat := (List.range fs.length).find? (fun k => !fitAt fs vs k)
theorem misfit_at {fs : List Fl} {vs : List V} {k : Nat} (h : k < fs.length) (hb : ∀ j, j < k → fitAt fs vs j = true) (hk : fitAt fs vs k = false) : misfit fs vs = some k := by
  unfold misfit
  rw [List.find?_range_eq_some]
  exact ⟨by rw [hk]; rfl, List.mem_range.2 h, fun j hj => by rw [hb j hj]; rfl⟩
theorem misfit_none {fs : List Fl} {vs : List V} (hb : ∀ j, j < fs.length → fitAt fs vs j = true) : misfit fs vs = none := by
  unfold misfit
  rw [List.find?_eq_none]
  intro j hj
  rw [hb j (List.mem_range.1 hj)]; decide
/-- what Check answers -/
def checkC (cl : Cl) (vs : List V) : Int × Int :=
  if cl.ok = false then (0, 40) else if vs.length ≠ cl.fs.length then (min (vs.length : Int) (cl.fs.length : Int), 42) else match misfit cl.fs vs with
  | some k => ((k : Int), 42)
  | none => (0, 0)
/-- values lie in a slice -/
def VsAt (d : Nat) (W : World) (vs : List V) (p : Option Addr) (m c : Nat) : Prop := ∃ ys : List It, m = ys.length ∧ ys.length = vs.length ∧ Lies W (.slice p ys.length c) ys.length 4 (itsCells ys) ∧ ∀ (i : Nat) (h : i < ys.length) (h' : i < vs.length), VAt d W vs[i] ys[i]
theorem VsAt.below {d : Nat} {W W' : World} {vs : List V} {p : Option Addr} {m c : Nat} (h : VsAt d W vs p m c) (hb : Below W.heap.size W W') : VsAt d W' vs p m c := by
  obtain ⟨ys, h1, h2, h3, h4⟩ := h
  exact ⟨ys, h1, h2, h3.below hb, fun i a b => (h4 i a b).below hb⟩

set_option maxHeartbeats 4000000 in
set_option maxRecDepth 100000 in
theorem clsCheck_any (d : Nat) (cn : ByteArray) (p : Option Addr) (m c : Nat) (fs : List Fl) (hcn : cn.size ≤ 9223372036854775807) (hff : ∀ f ∈ fs, f.fine) (vs : List V) (q : Option Addr) (m2 c2 : Nat) (w : World) (hl : FLies w p m c fs) (hm : m ≤ 9223372036854775807) (hv : VsAt d w vs q m2 c2) (hm2 : m2 ≤ 9223372036854775807) (hT : Tabs w) :
    Calls Tryd.prog 12 #[clV cn p m c, .slice q m2 c2] w fun e w' => e = .returned (.tuple #[.int .i64 (checkC ⟨cn, fs⟩ vs).1, .int .i64 (checkC ⟨cn, fs⟩ vs).2]) ∧ Below w.heap.size w w' := by
  have hb : Below w.heap.size w (w.alloc (.cells #[.string cn, .slice p m c] 27)) := (Below.refl _ _).alloc (Nat.le_refl _) _
  have hright := clsRight_any cn p m c fs hcn hff _ (hl.below hb) hm (hT.below hb)
  obtain ⟨rfl, hL⟩ := hl
  obtain ⟨ys, rfl, hlen, hvl, hvi⟩ := hv
  have hC := CBox.new w cn p fs.length c
  have hbad1 : (Cl.mk cn fs).ok = false → checkC ⟨cn, fs⟩ vs = (0, 40) := fun h => by unfold checkC; rw [if_pos h]
  have hbad2 : (Cl.mk cn fs).ok = true → vs.length ≠ fs.length → checkC ⟨cn, fs⟩ vs = (min (vs.length : Int) (fs.length : Int), 42) := fun h h2 => by unfold checkC; rw [if_neg (by rw [h]; decide), if_pos h2]
  have hbad3 : (Cl.mk cn fs).ok = true → vs.length = fs.length → ∀ k, k < fs.length → (∀ j, j < k → fitAt fs vs j = true) → fitAt fs vs k = false → checkC ⟨cn, fs⟩ vs = ((k : Int), 42) := fun h h2 k hk hj hk2 => by unfold checkC; rw [if_neg (by rw [h]; decide), if_neg (fun e => e h2), show (Cl.mk cn fs).fs = fs from rfl, misfit_at hk hj hk2]
  have hgood : (Cl.mk cn fs).ok = true → vs.length = fs.length → (∀ j, j < fs.length → fitAt fs vs j = true) → checkC ⟨cn, fs⟩ vs = (0, 0) := fun h h2 hj => by unfold checkC; rw [if_neg (by rw [h]; decide), if_neg (fun e => e h2), show (Cl.mk cn fs).fs = fs from rfl, misfit_none hj]
  generalize checkC ⟨cn, fs⟩ vs = r at hbad1 hbad2 hbad3 hgood ⊢
  obtain ⟨r1, r2⟩ := r
  simp only
  generalize (Cl.mk cn fs).ok = ok at hright hbad1 hbad2 hbad3 hgood
  have HL := Lib.hid hL
  have HB := Lib.hid hb
  have HC := Lib.hid hC
  have HR := Lib.hid hright
  have HBAD1 := Lib.hid hbad1
  have HBAD2 := Lib.hid hbad2
  have HBAD3 := Lib.hid hbad3
  have HGOOD := Lib.hid hgood
  have HVL := Lib.hid hvl
  have HVI := Lib.hid hvi
  have HLEN := Lib.hid hlen
  have HTT := Lib.hid (show ∀ W, Below w.heap.size w W → Tabs W from fun W h => hT.below h)
  clear hL hb hC hright hbad1 hbad2 hbad3 hgood hvl hvi hlen hT
  go_enter Tryd.func12, Tryd.ntmps12
  go_wp2_with fail
  refine HR.out.mono ?_
  rintro e W1 ⟨rfl, hB1⟩
  have hC1 := HC.out.below hB1
  have hBw := HB.out.trans (hB1.mono HB.out.size)
  have HC1 := Lib.hid hC1
  have HBW := Lib.hid hBw
  obtain ⟨c0, c1⟩ := hC1.facts
  clear hB1 hC1 hBw HB HC HR
  cases ok with
  | false =>
    have hz := HBAD1.out rfl
    have HZ1 := Lib.hid (congrArg Prod.fst hz)
    have HZ2 := Lib.hid (congrArg Prod.snd hz)
    clear hz
    go_wp2_with fail
    go_ret2
    exact ⟨by rw [HZ1.out, HZ2.out] <;> rfl, HBW.out⟩
  | true =>
    by_cases hn : ys.length = fs.length
    · have n1 : ((ys.length : Int) != (fs.length : Int)) = false := by rw [bne_eq_false_iff_eq]; omega
      have HN := Lib.hid hn
      clear hn
      go_wp2_with fail
      go_loopw [25] (fun i wr => ∃ k : Nat, k ≤ fs.length ∧ i = .int .i64 (k : Int) ∧ (∀ j, j < k → fitAt fs vs j = true) ∧ Below w.heap.size w wr ∧ CBox wr w.heap.size cn p fs.length c) (fun i _ => fs.length - (intOf i).toNat)
      case atStart => exact ⟨0, by omega, rfl, fun j h => absurd h (by omega), HBW.out, HC1.out⟩
      case round =>
        obtain ⟨k, hk, rfl, he, hB, hCr⟩ := hrel
        have HE := Lib.hid he; clear he
        by_cases hlt : k < fs.length
        · have hlt2 : k < ys.length := by rw [HN.out]; exact hlt
          have hlt3 : k < vs.length := by rw [← HLEN.out]; exact hlt2
          have e1 : decide ((k : Int) < (ys.length : Int)) = true := decide_eq_true (by omega)
          have e1' : (k : Int) < (ys.length : Int) := by omega
          have e1'' : (k : Int) < (fs.length : Int) := by omega
          have e0 : (0 : Int) ≤ (k : Int) := by omega
          obtain ⟨b, off, rfl, hbb, hc⟩ := HL.out.at (by omega)
          obtain ⟨b', off', rfl, hbb', hc'⟩ := HVL.out.at (by omega)
          have hcx : ∀ (i : Nat) (u : Value), ((fs[k]'hlt).cells)[i]? = some u → wr.cell? ⟨b, off + k * 4 + i, none⟩ = some u := fun i u hu => by
            rw [hB.cell (p := ⟨b, off + k * 4 + i, none⟩) hbb, Nat.add_assoc]
            exact hc _ _ (flCells_at fs k hlt i u hu)
          have hcy : ∀ (i : Nat) (u : Value), ((ys[k]'hlt2).cells)[i]? = some u → wr.cell? ⟨b', off' + k * 4 + i, none⟩ = some u := fun i u hu => by
            rw [hB.cell (p := ⟨b', off' + k * 4 + i, none⟩) hbb', Nat.add_assoc]
            exact hc' _ _ (itsCells_at ys k hlt2 i u hu)
          have hfa := fitAt_of hlt hlt3
          have hva := HVI.out k hlt2 hlt3
          have hbad := fun h1 => HBAD3.out (by simp) (by rw [← HLEN.out]; exact HN.out) k hlt HE.out h1
          have hnx : fitAt fs vs k = true → ∀ j, j < k + 1 → fitAt fs vs j = true := fun h j hj => by
            rcases Nat.lt_or_ge j k with h1 | h1
            · exact HE.out j h1
            · have e : j = k := by omega
              subst e; exact h
          generalize fitAt fs vs k = ft at hfa hbad hnx
          have hfit := fun W (h : Below wr.heap.size wr W) => fits_V d vs[k] ys[k] fs[k].k fs[k].o W ((hva.below hB).below h) ((HTT.out wr hB).below h)
          rw [← hfa] at hfit
          generalize fs[k]'hlt = f at hcx hfit hfa
          generalize ys[k]'hlt2 = y at hcy hfit hva
          obtain ⟨fn, fk, fo, fx⟩ := f
          obtain ⟨yk, yn, yz, yp, ym, yc⟩ := y
          have hfit2 : ∀ W, Below wr.heap.size wr W → Calls Tryd.prog 24 #[.agg #[.int .i64 yk, .int .i64 yn, .string yz, .slice yp ym yc], .agg #[.int .i64 fk, .int .i64 fo]] W fun e w' => e = .returned (.bool ft) ∧ Below W.heap.size W w' := hfit
          have z1 : wr.cell? ⟨b, off + k * 4 + 1, none⟩ = some (.int .i64 fk) := hcx 1 _ rfl
          have z2 : wr.cell? ⟨b, off + k * 4 + 2, none⟩ = some (.int .i64 fo) := hcx 2 _ rfl
          have y0 : wr.cell? ⟨b', off' + k * 4, none⟩ = some (.int .i64 yk) := hcy 0 _ rfl
          have y1 : wr.cell? ⟨b', off' + k * 4 + 1, none⟩ = some (.int .i64 yn) := hcy 1 _ rfl
          have y2 : wr.cell? ⟨b', off' + k * 4 + 2, none⟩ = some (.string yz) := hcy 2 _ rfl
          have y3 : wr.cell? ⟨b', off' + k * 4 + 3, none⟩ = some (.slice yp ym yc) := hcy 3 _ rfl
          have hal : Below wr.heap.size wr (wr.alloc (.cells #[.int .i64 yk, .int .i64 yn, .string yz, .slice yp ym yc] 31)).drew := ((Below.refl _ _).alloc (Nat.le_refl _) _).drew
          have hbz : b < wr.heap.size := Nat.lt_of_lt_of_le hbb hB.size
          have hS0 : (wr.alloc (.cells #[.int .i64 yk, .int .i64 yn, .string yz, .slice yp ym yc] 31)).drew.cell? ⟨b, off + k * 4 + 1, none⟩ = some (.int .i64 fk) ∧ (wr.alloc (.cells #[.int .i64 yk, .int .i64 yn, .string yz, .slice yp ym yc] 31)).drew.cell? ⟨b, off + k * 4 + 2, none⟩ = some (.int .i64 fo) ∧ (wr.alloc (.cells #[.int .i64 yk, .int .i64 yn, .string yz, .slice yp ym yc] 31)).drew.cell? ⟨w.heap.size, 1, none⟩ = some (.slice (some ⟨b, off, none⟩) fs.length c) ∧ (wr.alloc (.cells #[.int .i64 yk, .int .i64 yn, .string yz, .slice yp ym yc] 31)).drew.cell? ⟨wr.heap.size, 0, none⟩ = some (.int .i64 yk) ∧ (wr.alloc (.cells #[.int .i64 yk, .int .i64 yn, .string yz, .slice yp ym yc] 31)).drew.cell? ⟨wr.heap.size, 1, none⟩ = some (.int .i64 yn) ∧ (wr.alloc (.cells #[.int .i64 yk, .int .i64 yn, .string yz, .slice yp ym yc] 31)).drew.cell? ⟨wr.heap.size, 2, none⟩ = some (.string yz) ∧ (wr.alloc (.cells #[.int .i64 yk, .int .i64 yn, .string yz, .slice yp ym yc] 31)).drew.cell? ⟨wr.heap.size, 3, none⟩ = some (.slice yp ym yc) := by
            have hbx : (wr.alloc (.cells #[.int .i64 yk, .int .i64 yn, .string yz, .slice yp ym yc] 31)).drew.heap[wr.heap.size]? = some (.cells #[.int .i64 yk, .int .i64 yn, .string yz, .slice yp ym yc] 31 (0, 0)) := World.alloc_heap_new _ _
            refine ⟨(hal.cell (p := ⟨b, off + k * 4 + 1, none⟩) hbz).trans z1, (hal.cell (p := ⟨b, off + k * 4 + 2, none⟩) hbz).trans z2, (hCr.below hal).facts.2, ?_, ?_, ?_, ?_⟩ <;> (rw [Lib.cell_of_heap hbx]; rfl)
          have hzz : b < (wr.alloc (.cells #[.int .i64 yk, .int .i64 yn, .string yz, .slice yp ym yc] 31)).drew.heap.size ∧ w.heap.size < (wr.alloc (.cells #[.int .i64 yk, .int .i64 yn, .string yz, .slice yp ym yc] 31)).drew.heap.size ∧ wr.heap.size < (wr.alloc (.cells #[.int .i64 yk, .int .i64 yn, .string yz, .slice yp ym yc] 31)).drew.heap.size := by
            have h1 := hal.size
            have h2 := hCr.lt
            refine ⟨by omega, by omega, ?_⟩
            show wr.heap.size < (wr.heap.push _).size
            simp
          have hsw : ∀ W', Below (wr.alloc (.cells #[.int .i64 yk, .int .i64 yn, .string yz, .slice yp ym yc] 31)).drew.heap.size (wr.alloc (.cells #[.int .i64 yk, .int .i64 yn, .string yz, .slice yp ym yc] 31)).drew W' → W'.cell? ⟨b, off + k * 4 + 1, none⟩ = some (.int .i64 fk) ∧ W'.cell? ⟨b, off + k * 4 + 2, none⟩ = some (.int .i64 fo) ∧ W'.cell? ⟨w.heap.size, 1, none⟩ = some (.slice (some ⟨b, off, none⟩) fs.length c) ∧ W'.cell? ⟨wr.heap.size, 0, none⟩ = some (.int .i64 yk) ∧ W'.cell? ⟨wr.heap.size, 1, none⟩ = some (.int .i64 yn) ∧ W'.cell? ⟨wr.heap.size, 2, none⟩ = some (.string yz) ∧ W'.cell? ⟨wr.heap.size, 3, none⟩ = some (.slice yp ym yc) := fun W' h => by
            obtain ⟨a1, a2, a3, a4, a5, a6, a7⟩ := hS0
            obtain ⟨d1, d2, d3⟩ := hzz
            exact ⟨(h.cell (p := ⟨b, off + k * 4 + 1, none⟩) d1).trans a1, (h.cell (p := ⟨b, off + k * 4 + 2, none⟩) d1).trans a2, (h.cell (p := ⟨w.heap.size, 1, none⟩) d2).trans a3, (h.cell (p := ⟨wr.heap.size, 0, none⟩) d3).trans a4, (h.cell (p := ⟨wr.heap.size, 1, none⟩) d3).trans a5, (h.cell (p := ⟨wr.heap.size, 2, none⟩) d3).trans a6, (h.cell (p := ⟨wr.heap.size, 3, none⟩) d3).trans a7⟩
          have HSW := Lib.hid hsw
          clear hsw hzz
          have hw9 := hB.trans (hal.mono hB.size)
          have hc9 := hCr.below hal
          have hf9 := hfit2 _ hal
          have HW9 := Lib.hid hw9
          have HC9 := Lib.hid hc9
          have HF9 := Lib.hid hf9
          have HBAD := Lib.hid hbad
          have HNX := Lib.hid hnx
          obtain ⟨g0, g1⟩ := hCr.facts
          clear hcx hcy hc hc' hfa hva hbad hnx hfit hfit2 hw9 hc9 hf9 hal hCr hB z1 z2
          go_wp2_with fail
          go_region_held3 (fun W : World => W.cell? ⟨b, off + k * 4 + 1, none⟩ = some (.int .i64 fk) ∧ W.cell? ⟨b, off + k * 4 + 2, none⟩ = some (.int .i64 fo) ∧ W.cell? ⟨w.heap.size, 1, none⟩ = some (.slice (some ⟨b, off, none⟩) fs.length c) ∧ W.cell? ⟨wr.heap.size, 0, none⟩ = some (.int .i64 yk) ∧ W.cell? ⟨wr.heap.size, 1, none⟩ = some (.int .i64 yn) ∧ W.cell? ⟨wr.heap.size, 2, none⟩ = some (.string yz) ∧ W.cell? ⟨wr.heap.size, 3, none⟩ = some (.slice yp ym yc))
            (first | assumption)
            (first | (go_at_call 24; (with_reducible refine HF9.out.mono ?_); rintro e Y1 ⟨rfl, hBY⟩; have hS1 := HSW.out _ hBY))
          have hBz := HW9.out.trans (hBY.mono HW9.out.size)
          have hCz := HC9.out.below hBY
          have HBZ := Lib.hid hBz
          have HCZ := Lib.hid hCz
          obtain ⟨g2, g3⟩ := hCz.facts
          clear hBz hCz
          cases ft with
          | true =>
            have hnx := HNX.out (by simp)
            have HN2 := Lib.hid hnx
            clear hnx
            go_wp2_with fail
            exact ⟨⟨k + 1, by omega, by go_num, HN2.out, HBZ.out, HCZ.out⟩, by simp [intOf]; have := HN.out; omega⟩
          | false =>
            have hz := HBAD.out (by simp)
            have HZ1 := Lib.hid (congrArg Prod.fst hz)
            have HZ2 := Lib.hid (congrArg Prod.snd hz)
            clear hz
            go_wp2_with fail
            go_ret2
            exact ⟨by rw [HZ1.out, HZ2.out] <;> rfl, HBZ.out⟩
        · obtain rfl : k = fs.length := by omega
          have e1 : decide ((fs.length : Int) < (ys.length : Int)) = false := decide_eq_false (by have := HN.out; omega)
          have e1' : ¬ (fs.length : Int) < (ys.length : Int) := by have := HN.out; omega
          have hz := HGOOD.out (by simp) (by rw [← HLEN.out]; exact HN.out) HE.out
          have HZ1 := Lib.hid (congrArg Prod.fst hz)
          have HZ2 := Lib.hid (congrArg Prod.snd hz)
          clear hz
          go_wp2_with fail
          go_ret2
          exact ⟨by rw [HZ1.out, HZ2.out] <;> rfl, hB⟩
    · have n1 : ((ys.length : Int) != (fs.length : Int)) = true := by rw [bne_iff_ne]; omega
      have hz := HBAD2.out (by simp) (by rw [← HLEN.out]; exact hn)
      rw [← HLEN.out] at hz
      have HZ1 := Lib.hid (congrArg Prod.fst hz)
      have HZ2 := Lib.hid (congrArg Prod.snd hz)
      clear hz
      go_wp2_with fail
      go_ret2
      exact ⟨by rw [HZ1.out, HZ2.out] <;> rfl, HBW.out⟩
end Go.Proofs.YtffoklhopmhjaaaDoor

/- The examples of classes: what they come to. -/
set_option linter.unusedSimpArgs false
set_option linter.unusedVariables false
namespace Go.Proofs.YtffoklhopmhjaaaDoor
open Go Go.RowKit Go.Shelf

def exF : List Fl := [⟨⟨#[97]⟩, 1, 0, true⟩, ⟨⟨#[98]⟩, 3, 0, false⟩]
def exCl : Cl := ⟨⟨#[110]⟩, exF⟩
def ex15 : V := .mk 1 5 ⟨#[]⟩ []
def ex33 : V := .mk 3 3 ⟨#[]⟩ []
def ex0 : V := .mk 0 0 ⟨#[]⟩ []
theorem ex_ok : exCl.ok = true := by kernel_rfl
theorem ex_bad : (Cl.mk ⟨#[]⟩ []).ok = false := by kernel_rfl
theorem ex_c1 : checkC exCl [ex15, ex33] = (0, 0) := by kernel_rfl
theorem ex_c2 : checkC exCl [ex15, ex0] = (0, 0) := by kernel_rfl
theorem ex_c3 : checkC exCl [ex15] = (1, 42) := by kernel_rfl
theorem ex_c4 : checkC exCl [ex15, ex15] = (1, 42) := by kernel_rfl
theorem ex_fb : fieldAt exF ⟨#[98]⟩ = some 1 := by kernel_rfl
theorem ex_fc : fieldAt exF ⟨#[99]⟩ = none := by kernel_rfl
theorem ex_ne : sameC exCl ⟨⟨#[]⟩, []⟩ = false := by
  rw [sameC_split, show (exCl.nm.toList == (⟨#[]⟩ : ByteArray).toList) = false from by kernel_rfl]; rfl
theorem ex_rt : rtB 5 4 = true := by decide
theorem ex_rf : rtB 5 0 = false := by decide
theorem ex_bytes : exCl.bytes = [2, 110] ++ ([4] ++ ([2, 97, 2, 0, 2] ++ [2, 98, 6, 0, 0])) := by
  kernel_rfl
theorem ex_len : exCl.bytes.length = 13 := by kernel_rfl
theorem ex_cut : decC (exCl.bytes.drop 1) = none := by
  have ht : textL (exCl.bytes.drop 1) = none := by
    unfold textL
    rw [dif_neg]
    rintro ⟨t, ht, hp⟩
    rw [ex_bytes] at hp
    have n55 : Wire.num 55 = [110] := by kernel_rfl
    have e : (t.length : Int) = 55 := Wire.num_inj ⟨by omega, by omega⟩ ⟨by decide, by decide⟩ ((List.prefix_append _ _).trans hp) (by rw [n55]; exact ⟨_, rfl⟩)
    have := hp.length_le
    simp at this
    omega
  unfold decC clsP seqP textP
  rw [ht]; rfl
theorem ex_dec (r : List UInt8) : decC (([120] ++ exCl.bytes ++ r).drop 1) = some (exCl, 13) := by
  rw [List.append_assoc]
  show decC (exCl.bytes ++ r) = _
  rw [(undo_dec exCl ex_ok).app, ex_len]

/-- a block that is known whole, as a slice -/
theorem blk_lies {W : World} {b n size cap : Nat} {xs : List Value} {t : TypeId} (h : W.heap[b]? = some (.cells xs.toArray t (0, 0))) (hl : xs.length = n * size) : Lies W (.slice (some ⟨b, 0, none⟩) n cap) n size xs :=
  ⟨hl, .inr ⟨b, 0, cap, rfl, (Array.getElem?_eq_some_iff.1 h).1, fun j u hu => by
    rw [Nat.zero_add, Lib.cell_of_heap h]; simpa using hu⟩⟩
/-- what is carried along there -/
structure ExS (w W : World) : Prop where
  arr : FLies W (some ⟨w.heap.size, 0, none⟩) 2 2 exF
  box : CBox W (w.heap.size + 1) ⟨#[110]⟩ (some ⟨w.heap.size, 0, none⟩) 2 2
  vb : VBox W (w.heap.size + 1 + 1) 1 5 ⟨#[]⟩ (.slice none 0 0)
  below : Below w.heap.size w W
theorem ExS.go {w W W' : World} (h : ExS w W) (hb : Below W.heap.size W W') : ExS w W' :=
  ⟨h.arr.below hb, h.box.below hb, h.vb.below hb, h.below.trans (hb.mono h.below.size)⟩
theorem ex_fine : ∀ f ∈ exF, f.fine := by
  intro f hf
  simp only [exF, List.mem_cons, List.mem_nil_iff, or_false] at hf
  rcases hf with rfl | rfl <;> exact ⟨by decide, ⟨by decide, by decide⟩, ⟨by decide, by decide⟩⟩
abbrev exV (w : World) : Value := .agg #[.string ⟨#[110]⟩, .slice (some ⟨w.heap.size, 0, none⟩) 2 2]
theorem vat_none (d : Nat) (W : World) {u : V} (hf : u.fine) (hl : u.l = []) : VAt d W u ⟨u.k, u.n, u.s, none, 0, 0⟩ := by
  have ht : ∀ J, VTop W u ⟨u.k, u.n, u.s, none, 0, 0⟩ J := fun J => ⟨hf, rfl, rfl, rfl, [], by rw [hl]; rfl, ⟨rfl, .inl ⟨rfl, none, 0, rfl⟩⟩, fun i h => absurd h (by simp)⟩
  cases d with
  | zero => exact ht _
  | succ d => exact ht _
def itOf (u : V) : It := ⟨u.k, u.n, u.s, none, 0, 0⟩
theorem ex_vs {W : World} {b : Nat} {vs : List V} (hf : ∀ u ∈ vs, u.fine ∧ u.l = []) (h : W.heap[b]? = some (.cells (itsCells (vs.map itOf)).toArray 31 (0, 0))) : VsAt 0 W vs (some ⟨b, 0, none⟩) vs.length vs.length :=
  ⟨vs.map itOf, by simp, by simp, by
    rw [List.length_map]
    exact blk_lies h (by rw [itsCells_length, List.length_map]), fun i h1 h2 => by
    rw [List.getElem_map]
    exact vat_none 0 W (hf _ (List.getElem_mem h2)).1 (hf _ (List.getElem_mem h2)).2⟩
theorem ex_check {w X : World} (hS : ExS w X) (hT : Tabs w) (vs : List V) (hf : ∀ u ∈ vs, u.fine ∧ u.l = []) (hn : vs.length ≤ 9) :
    Calls Tryd.prog 12 #[exV w, .slice (some ⟨X.heap.size, 0, none⟩) vs.length vs.length] (X.alloc (.cells (itsCells (vs.map itOf)).toArray 31)) fun e w' => e = .returned (.tuple #[.int .i64 (checkC exCl vs).1, .int .i64 (checkC exCl vs).2]) ∧ Below X.heap.size X w' := by
  have hb : Below X.heap.size X (X.alloc (.cells (itsCells (vs.map itOf)).toArray 31)) := (Below.refl _ _).alloc (Nat.le_refl _) _
  have hc := clsCheck_any 0 ⟨#[110]⟩ (some ⟨w.heap.size, 0, none⟩) 2 2 exF (by decide) ex_fine vs (some ⟨X.heap.size, 0, none⟩) vs.length vs.length _ (hS.arr.below hb) (by decide) (ex_vs hf (World.alloc_heap_new X _)) (by omega) ((hT.below hS.below).below hb)
  refine hc.mono ?_
  rintro e w' ⟨h1, h2⟩
  exact ⟨h1, hb.trans (h2.mono hb.size)⟩
end Go.Proofs.YtffoklhopmhjaaaDoor

/- morainelaw04.examples. -/
set_option linter.unusedSimpArgs false
set_option linter.unusedVariables false
namespace Go.Proofs.YtffoklhopmhjaaaDoor
open Go Go.RowKit Go.Shelf

set_option maxHeartbeats 8000000 in
set_option maxRecDepth 100000 in
theorem clsEx_any (ea : Addr) (w : World) (hT : Tabs w) (hE : errLies ea w) :
    Calls Tryd.prog 7 #[] w fun e w' => e = .returned (.bool true) ∧ Below w.heap.size w w' := by
  have hb1 : Below w.heap.size w (w.alloc (.cells #[.string ⟨#[97]⟩, .int .i64 1, .int .i64 0, .bool true, .string ⟨#[98]⟩, .int .i64 3, .int .i64 0, .bool false] 53)) := (Below.refl _ _).alloc (Nat.le_refl _) _
  have hb2 := hb1.alloc hb1.size (.cells #[.string ⟨#[110]⟩, .slice (some ⟨w.heap.size, 0, none⟩) 2 2] 27)
  have hb3 := hb2.alloc hb2.size (.cells #[.int .i64 1, .int .i64 5, .string ⟨#[]⟩, .slice none 0 0] 31)
  have hfl : FLies (w.alloc (.cells #[.string ⟨#[97]⟩, .int .i64 1, .int .i64 0, .bool true, .string ⟨#[98]⟩, .int .i64 3, .int .i64 0, .bool false] 53)) (some ⟨w.heap.size, 0, none⟩) 2 2 exF := ⟨rfl, blk_lies (xs := flCells exF) (World.alloc_heap_new w _) rfl⟩
  have hS : ExS w (((w.alloc (.cells #[.string ⟨#[97]⟩, .int .i64 1, .int .i64 0, .bool true, .string ⟨#[98]⟩, .int .i64 3, .int .i64 0, .bool false] 53)).alloc (.cells #[.string ⟨#[110]⟩, .slice (some ⟨w.heap.size, 0, none⟩) 2 2] 27)).alloc (.cells #[.int .i64 1, .int .i64 5, .string ⟨#[]⟩, .slice none 0 0] 31)) := by
    refine ⟨(hfl.below ((Below.refl _ _).alloc (Nat.le_refl _) _)).below ((Below.refl _ _).alloc (Nat.le_refl _) _), ?_, ?_, hb3⟩
    · have h := (CBox.new (w.alloc (.cells #[.string ⟨#[97]⟩, .int .i64 1, .int .i64 0, .bool true, .string ⟨#[98]⟩, .int .i64 3, .int .i64 0, .bool false] 53)) ⟨#[110]⟩ (some ⟨w.heap.size, 0, none⟩) 2 2).alloc (.cells #[.int .i64 1, .int .i64 5, .string ⟨#[]⟩, .slice none 0 0] 31)
      rwa [World.size_alloc] at h
    · have h := VBox.new ((w.alloc (.cells #[.string ⟨#[97]⟩, .int .i64 1, .int .i64 0, .bool true, .string ⟨#[98]⟩, .int .i64 3, .int .i64 0, .bool false] 53)).alloc (.cells #[.string ⟨#[110]⟩, .slice (some ⟨w.heap.size, 0, none⟩) 2 2] 27)) 1 5 ⟨#[]⟩ (.slice none 0 0)
      rwa [World.size_alloc, World.size_alloc] at h
  have f1 : ex15.fine ∧ ex15.l = [] := ⟨⟨by decide, by decide, by decide, by decide⟩, rfl⟩
  have f3 : ex33.fine ∧ ex33.l = [] := ⟨⟨by decide, by decide, by decide, by decide⟩, rfl⟩
  have f0 : ex0.fine ∧ ex0.l = [] := ⟨⟨by decide, by decide, by decide, by decide⟩, rfl⟩
  have k1 : ∀ X, ExS w X → Calls Tryd.prog 12 #[exV w, .slice (some ⟨X.heap.size, 0, none⟩) 2 2] (X.alloc (.cells #[.int .i64 1, .int .i64 5, .string ⟨#[]⟩, .slice none 0 0, .int .i64 3, .int .i64 3, .string ⟨#[]⟩, .slice none 0 0] 31)) fun e w' => e = .returned (.tuple #[.int .i64 0, .int .i64 0]) ∧ ExS w w' := fun X h => by
    have := ex_check h hT [ex15, ex33] (by intro u hu; simp only [List.mem_cons, List.mem_nil_iff, or_false] at hu; rcases hu with rfl | rfl; exact f1; exact f3) (by decide)
    rw [ex_c1] at this
    exact this.mono (fun e w' hx => ⟨hx.1, h.go hx.2⟩)
  have k2 : ∀ X, ExS w X → Calls Tryd.prog 12 #[exV w, .slice (some ⟨X.heap.size, 0, none⟩) 2 2] (X.alloc (.cells #[.int .i64 1, .int .i64 5, .string ⟨#[]⟩, .slice none 0 0, .int .i64 0, .int .i64 0, .string ⟨#[]⟩, .slice none 0 0] 31)) fun e w' => e = .returned (.tuple #[.int .i64 0, .int .i64 0]) ∧ ExS w w' := fun X h => by
    have := ex_check h hT [ex15, ex0] (by intro u hu; simp only [List.mem_cons, List.mem_nil_iff, or_false] at hu; rcases hu with rfl | rfl; exact f1; exact f0) (by decide)
    rw [ex_c2] at this
    exact this.mono (fun e w' hx => ⟨hx.1, h.go hx.2⟩)
  have k3 : ∀ X, ExS w X → Calls Tryd.prog 12 #[exV w, .slice (some ⟨X.heap.size, 0, none⟩) 1 1] (X.alloc (.cells #[.int .i64 1, .int .i64 5, .string ⟨#[]⟩, .slice none 0 0] 31)) fun e w' => e = .returned (.tuple #[.int .i64 1, .int .i64 42]) ∧ ExS w w' := fun X h => by
    have := ex_check h hT [ex15] (by intro u hu; simp only [List.mem_cons, List.mem_nil_iff, or_false] at hu; rcases hu with rfl; exact f1) (by decide)
    rw [ex_c3] at this
    exact this.mono (fun e w' hx => ⟨hx.1, h.go hx.2⟩)
  have k4 : ∀ X, ExS w X → Calls Tryd.prog 12 #[exV w, .slice (some ⟨X.heap.size, 0, none⟩) 2 2] (X.alloc (.cells #[.int .i64 1, .int .i64 5, .string ⟨#[]⟩, .slice none 0 0, .int .i64 1, .int .i64 5, .string ⟨#[]⟩, .slice none 0 0] 31)) fun e w' => e = .returned (.tuple #[.int .i64 1, .int .i64 42]) ∧ ExS w w' := fun X h => by
    have := ex_check h hT [ex15, ex15] (by intro u hu; simp only [List.mem_cons, List.mem_nil_iff, or_false] at hu; rcases hu with rfl | rfl <;> exact f1) (by decide)
    rw [ex_c4] at this
    exact this.mono (fun e w' hx => ⟨hx.1, h.go hx.2⟩)
  obtain ⟨E, hEd⟩ : ∃ E : ByteArray, (⟨exCl.bytes.toArray⟩ : ByteArray) = E := ⟨_, rfl⟩
  have hE13 : E.size = 13 := by rw [← hEd]; exact ex_len
  have ken : ∀ X, ExS w X → Calls Tryd.prog 14 #[exV w] X fun e w' => e = .returned (.tuple #[.string E, .int .i64 0]) ∧ ExS w w' := fun X h => by
    have := clsEncode_any ⟨#[110]⟩ (some ⟨w.heap.size, 0, none⟩) 2 2 exF (by decide) ex_fine X h.arr (by decide) (hT.below h.below)
    unfold encCPost at this
    rw [show (Cl.mk ⟨#[110]⟩ exF).ok = true from ex_ok] at this
    rw [← hEd]
    exact this.mono (fun e w' hx => ⟨hx.1, h.go hx.2⟩)
  have kfb : ∀ X, ExS w X → Calls Tryd.prog 20 #[exV w, .string ⟨#[98]⟩] X fun e w' => e = .returned (.tuple #[.int .i64 1, .bool true]) ∧ Below X.heap.size X w' := fun X h => by
    have := field_any ⟨#[110]⟩ (some ⟨w.heap.size, 0, none⟩) 2 2 exF ⟨#[98]⟩ X h.arr (by decide)
    unfold fieldPost at this
    rw [ex_fb] at this
    exact this
  have kfc : ∀ X, ExS w X → Calls Tryd.prog 20 #[exV w, .string ⟨#[99]⟩] X fun e w' => e = .returned (.tuple #[.int .i64 0, .bool false]) ∧ Below X.heap.size X w' := fun X h => by
    have := field_any ⟨#[110]⟩ (some ⟨w.heap.size, 0, none⟩) 2 2 exF ⟨#[99]⟩ X h.arr (by decide)
    unfold fieldPost at this
    rw [ex_fc] at this
    exact this
  have hdl : E.data.toList = exCl.bytes := by rw [← hEd]
  have kd1 : ∀ X, ExS w X → Calls Tryd.prog 15 #[.string ((⟨#[120]⟩ : ByteArray) ++ E ++ (⟨#[121]⟩ : ByteArray)), .int .i64 1] X fun e w' => (∃ (q : Option Addr) (m c : Nat), e = .returned (.tuple #[clV ⟨#[110]⟩ q m c, .int .i64 14, .int .i64 0]) ∧ FLies w' q m c exF ∧ m ≤ 8) ∧ ExS w w' := fun X h => by
    have := clsDecode_any ((⟨#[120]⟩ : ByteArray) ++ E ++ (⟨#[121]⟩ : ByteArray)) (by rw [ByteArray.size_append, ByteArray.size_append, hE13]; decide) 1 (by rw [ByteArray.size_append, ByteArray.size_append, hE13]; decide) ea X (hT.below h.below) (hE.below h.below)
    refine this.mono ?_
    rintro e w' ⟨hb, hd⟩
    rw [show ((⟨#[120]⟩ : ByteArray) ++ E ++ (⟨#[121]⟩ : ByteArray)).data.toList = [120] ++ exCl.bytes ++ [121] from by rw [← hdl]; simp, ex_dec] at hd
    exact ⟨hd, h.go hb⟩
  have kd2 : ∀ X, ExS w X → Calls Tryd.prog 15 #[.string E, .int .i64 1] X fun e w' => e = .returned (.tuple #[clV ⟨#[]⟩ none 0 0, .int .i64 0, .int .i64 10]) ∧ Below X.heap.size X w' := fun X h => by
    have := clsDecode_any E (by rw [hE13]; decide) 1 (by rw [hE13]; decide) ea X (hT.below h.below) (hE.below h.below)
    refine this.mono ?_
    rintro e w' ⟨hb, hd⟩
    rw [hdl, ex_cut] at hd
    exact ⟨hd, hb⟩
  have ksm : ∀ X q m c, ExS w X ∧ FLies X q m c exF ∧ m ≤ 8 → Calls Tryd.prog 21 #[exV w, clV ⟨#[110]⟩ q m c] X fun e w' => e = .returned (.bool true) ∧ Below X.heap.size X w' := fun X q m c h => by
    have := rsame_any ⟨#[110]⟩ (some ⟨w.heap.size, 0, none⟩) 2 2 exF ⟨#[110]⟩ q m c exF X h.1.arr h.2.1 (by decide) (by have := h.2.2; omega)
    rw [show sameC ⟨⟨#[110]⟩, exF⟩ ⟨⟨#[110]⟩, exF⟩ = true from sameC_self _] at this
    exact this
  have kr1 : ∀ X, ExS w X → Calls Tryd.prog 18 #[exV w] X fun e w' => e = .returned (.bool true) ∧ Below X.heap.size X w' := fun X h => by
    have := clsRight_any ⟨#[110]⟩ (some ⟨w.heap.size, 0, none⟩) 2 2 exF (by decide) ex_fine X h.arr (by decide) (hT.below h.below)
    rw [show (Cl.mk ⟨#[110]⟩ exF).ok = true from ex_ok] at this
    exact this
  have hfl0 : ∀ X : World, FLies X none 0 0 [] := fun X => ⟨rfl, rfl, .inl ⟨rfl, none, 0, rfl⟩⟩
  have kr2 : ∀ X, ExS w X → Calls Tryd.prog 18 #[clV ⟨#[]⟩ none 0 0] X fun e w' => e = .returned (.bool false) ∧ Below X.heap.size X w' := fun X h => by
    have := clsRight_any ⟨#[]⟩ none 0 0 [] (by decide) (fun f hf => absurd hf (by simp)) X (hfl0 X) (by decide) (hT.below h.below)
    rw [ex_bad] at this
    exact this
  have kt1 : ∀ X, ExS w X → Calls Tryd.prog 22 #[.agg #[.int .i64 5, .int .i64 4]] X fun e w' => e = .returned (.bool true) ∧ Below X.heap.size X w' := fun X h => by
    have := clsRightType_any 5 4 (by decide) X (hT.below h.below)
    rw [ex_rt] at this
    exact this
  have kt2 : ∀ X, ExS w X → Calls Tryd.prog 22 #[.agg #[.int .i64 5, .int .i64 0]] X fun e w' => e = .returned (.bool false) ∧ Below X.heap.size X w' := fun X h => by
    have := clsRightType_any 5 0 (by decide) X (hT.below h.below)
    rw [ex_rf] at this
    exact this
  have ks1 : ∀ X, ExS w X → Calls Tryd.prog 16 #[exV w, exV w] X fun e w' => e = .returned (.bool true) ∧ Below X.heap.size X w' := fun X h => by
    have := clsSame_any ⟨#[110]⟩ (some ⟨w.heap.size, 0, none⟩) 2 2 exF ⟨#[110]⟩ (some ⟨w.heap.size, 0, none⟩) 2 2 exF X h.arr h.arr (by decide) (by decide)
    rw [show sameC ⟨⟨#[110]⟩, exF⟩ ⟨⟨#[110]⟩, exF⟩ = true from sameC_self _] at this
    exact this
  have ks2 : ∀ X, ExS w X → Calls Tryd.prog 16 #[exV w, clV ⟨#[]⟩ none 0 0] X fun e w' => e = .returned (.bool false) ∧ Below X.heap.size X w' := fun X h => by
    have := clsSame_any ⟨#[110]⟩ (some ⟨w.heap.size, 0, none⟩) 2 2 exF ⟨#[]⟩ none 0 0 [] X h.arr (hfl0 X) (by decide) (by decide)
    rw [show sameC ⟨⟨#[110]⟩, exF⟩ ⟨⟨#[]⟩, []⟩ = false from ex_ne] at this
    exact this
  have KSM := Lib.hid ksm
  have KR1 := Lib.hid kr1
  have KR2 := Lib.hid kr2
  have KT1 := Lib.hid kt1
  have KT2 := Lib.hid kt2
  have KS1 := Lib.hid ks1
  have KS2 := Lib.hid ks2
  clear ksm kr1 kr2 kt1 kt2 ks1 ks2 hfl0
  have KD1 := Lib.hid kd1
  have KD2 := Lib.hid kd2
  clear kd1 kd2 hEd hdl
  have k1w := k1 _ hS
  rw [World.size_alloc, World.size_alloc, World.size_alloc] at k1w
  have K1W := Lib.hid k1w
  have K2 := Lib.hid k2
  have K3 := Lib.hid k3
  have K4 := Lib.hid k4
  have KEN := Lib.hid ken
  have KFB := Lib.hid kfb
  have KFC := Lib.hid kfc
  have HT := Lib.hid hT
  have HE := Lib.hid hE
  clear hb1 hb2 hb3 hfl hS f1 f3 f0 k1 k1w k2 k3 k4 ken kfb kfc hT hE
  go_enter Tryd.func7, Tryd.ntmps7
  go_wp2_with fail
  refine (K1W.out).mono ?_
  rintro e X1 ⟨rfl, hX⟩
  have S1 := Lib.hid hX
  obtain ⟨c0, c1⟩ := hX.box.facts
  obtain ⟨v0, v1, v2, v3⟩ := hX.vb.facts.1
  clear hX
  go_wp2_with fail
  refine (K2.out _ S1.out).mono ?_
  rintro e X2 ⟨rfl, hX⟩
  have S2 := Lib.hid hX
  clear c0 c1 v0 v1 v2 v3
  obtain ⟨c0, c1⟩ := hX.box.facts
  obtain ⟨v0, v1, v2, v3⟩ := hX.vb.facts.1
  clear hX S1
  go_wp2_with fail
  refine (K3.out _ S2.out).mono ?_
  rintro e X3 ⟨rfl, hX⟩
  have S3 := Lib.hid hX
  clear c0 c1 v0 v1 v2 v3
  obtain ⟨c0, c1⟩ := hX.box.facts
  obtain ⟨v0, v1, v2, v3⟩ := hX.vb.facts.1
  clear hX S2
  go_wp2_with fail
  refine (K4.out _ S3.out).mono ?_
  rintro e X4 ⟨rfl, hX⟩
  have S4 := Lib.hid hX
  clear c0 c1 v0 v1 v2 v3
  obtain ⟨c0, c1⟩ := hX.box.facts
  obtain ⟨v0, v1, v2, v3⟩ := hX.vb.facts.1
  clear hX S3
  go_wp2_with fail
  refine (KEN.out _ S4.out).mono ?_
  rintro e X5 ⟨rfl, hX⟩
  have S5 := Lib.hid hX
  clear c0 c1 v0 v1 v2 v3
  obtain ⟨c0, c1⟩ := hX.box.facts
  obtain ⟨v0, v1, v2, v3⟩ := hX.vb.facts.1
  clear hX S4
  go_wp2_with fail
  refine (KD1.out _ S5.out).mono ?_
  rintro e X6 ⟨⟨q, m, c, rfl, hfl6, hm8⟩, hX⟩
  have S6 := Lib.hid hX
  have FL6 := Lib.hid hfl6
  clear c0 c1 v0 v1 v2 v3 S5 hX hfl6
  go_wp2_with fail
  have S7 := Lib.hid (S6.out.go ((Below.refl _ _).alloc (Nat.le_refl _) (.cells #[.string ⟨#[110]⟩, .slice q m c] 27)))
  have D7 := Lib.hid (CBox.new X6 ⟨#[110]⟩ q m c)
  have L7 := Lib.hid (FL6.out.below ((Below.refl _ _).alloc (Nat.le_refl _) (.cells #[.string ⟨#[110]⟩, .slice q m c] 27)))
  clear S6 FL6
  generalize X6.alloc (.cells #[.string ⟨#[110]⟩, .slice q m c] 27) = U7 at S7 D7 L7 ⊢
  generalize X6.heap.size = bd at D7 ⊢
  refine (KD2.out _ S7.out).mono ?_
  rintro e X8 ⟨rfl, hX⟩
  have S8 := Lib.hid (S7.out.go hX)
  have D8 := Lib.hid (D7.out.below hX)
  have L8 := Lib.hid (L7.out.below hX)
  clear S7 D7 L7 hX
  have hal : Below X8.heap.size X8 (X8.alloc (.cells #[.string ⟨#[]⟩, .slice none 0 0] 27)) := (Below.refl _ _).alloc (Nat.le_refl _) _
  have S9 := Lib.hid (S8.out.go hal)
  have D9 := Lib.hid (D8.out.below hal)
  have L9 := Lib.hid (L8.out.below hal)
  clear S8 D8 L8 hal
  obtain ⟨c0, c1⟩ := S9.out.box.facts
  go_wp2_with fail
  clear c0 c1
  generalize X8.alloc (.cells #[.string ⟨#[]⟩, .slice none 0 0] 27) = U9 at S9 D9 L9 ⊢
  refine (KFB.out _ S9.out).mono ?_
  rintro e X10 ⟨rfl, hX⟩
  have S10 := Lib.hid (S9.out.go hX)
  have D10 := Lib.hid (D9.out.below hX)
  have L10 := Lib.hid (L9.out.below hX)
  clear S9 D9 L9 hX
  obtain ⟨c0, c1⟩ := S10.out.box.facts
  go_wp2_with fail
  clear c0 c1
  refine (KFC.out _ S10.out).mono ?_
  rintro e X11 ⟨rfl, hX⟩
  have hS := S10.out.go hX
  obtain ⟨c0, c1⟩ := hS.box.facts
  obtain ⟨d0, d1⟩ := (D10.out.below hX).facts
  have ks := KSM.out X11 q m c ⟨hS, L10.out.below hX, hm8⟩
  have SA := Lib.hid hS
  have KS := Lib.hid ks
  clear S10 D10 L10 hX hS ks
  go_wp2_with fail
  refine KS.out.mono ?_
  rintro e Y0 ⟨rfl, hB⟩
  have S0 := Lib.hid (SA.out.go hB)
  clear c0 c1 d0 d1 SA hB KS
  obtain ⟨c0, c1⟩ := S0.out.box.facts
  go_wp2_with fail
  refine (KR1.out _ S0.out).mono ?_
  rintro e Y1 ⟨rfl, hB⟩
  have S1 := Lib.hid (S0.out.go hB)
  clear c0 c1 S0 hB
  obtain ⟨c0, c1⟩ := S1.out.box.facts
  go_wp2_with fail
  refine (KR2.out _ S1.out).mono ?_
  rintro e Y2 ⟨rfl, hB⟩
  have S2 := Lib.hid (S1.out.go hB)
  clear c0 c1 S1 hB
  obtain ⟨c0, c1⟩ := S2.out.box.facts
  go_wp2_with fail
  refine (KT1.out _ S2.out).mono ?_
  rintro e Y3 ⟨rfl, hB⟩
  have S3 := Lib.hid (S2.out.go hB)
  clear c0 c1 S2 hB
  obtain ⟨c0, c1⟩ := S3.out.box.facts
  go_wp2_with fail
  refine (KT2.out _ S3.out).mono ?_
  rintro e Y4 ⟨rfl, hB⟩
  have S4 := Lib.hid (S3.out.go hB)
  clear c0 c1 S3 hB
  obtain ⟨c0, c1⟩ := S4.out.box.facts
  go_wp2_with fail
  refine (KS1.out _ S4.out).mono ?_
  rintro e Y5 ⟨rfl, hB⟩
  have S5 := Lib.hid (S4.out.go hB)
  clear c0 c1 S4 hB
  obtain ⟨c0, c1⟩ := S5.out.box.facts
  go_wp2_with fail
  refine (KS2.out _ S5.out).mono ?_
  rintro e Y6 ⟨rfl, hB⟩
  have S6 := Lib.hid (S5.out.go hB)
  clear c0 c1 S5 hB
  have hfin := S6.out.below
  have HFIN := Lib.hid hfin
  clear hfin
  go_wp2_with fail
  go_ret
  exact ⟨rfl, HFIN.out⟩
end Go.Proofs.YtffoklhopmhjaaaDoor

/- Values of a class, of raw numbers: what they are, that they fit, and what fits with one of them turned. -/
set_option linter.unusedSimpArgs false
set_option linter.unusedVariables false
namespace Go.Proofs.YtffoklhopmhjaaaDoor
open Go Go.RowKit Go.Shelf

def vTexts : List (List UInt8) := [[], [97], [98, 99], [195, 169, 116, 195, 169], [97, 32, 98], [122, 122, 32, 116, 111, 112], [48], [45, 55]]
/-- of a raw number, a value that is no list -/
def vFlat (k n many : Int) : V :=
  if k = 1 then .mk 1 (pickI n 41 - 20) ⟨#[]⟩ []
  else if k = 2 then .mk 2 0 (nameIn vTexts (pickI n 8)) []
  else if pickI n 5 = 4 then .mk 0 0 ⟨#[]⟩ []
  else .mk k (1 + pickI n many) ⟨#[]⟩ []
/-- the first of a list -/
def vItems (o n many : Int) (m : Nat) : List V := (List.range m).map (fun i : Nat => vFlat o (n.tdiv 4 + (i : Int)) many)
/-- of a raw number, a value of a type -/
def vOf (k o n many : Int) : V := if k = 5 then .mk 5 0 ⟨#[]⟩ (vItems o n many (pickI n 4).toNat) else vFlat k n many
theorem vItems_len (o n many : Int) (m : Nat) : (vItems o n many m).length = m := by simp [vItems]
theorem vItems_succ (o n many : Int) (m : Nat) : vItems o n many (m + 1) = vItems o n many m ++ [vFlat o (n.tdiv 4 + (m : Int)) many] := by
  unfold vItems
  rw [List.range_succ, List.map_append]; rfl

def textGood (l : List UInt8) : Bool := decide (l.length ≤ 60) && textOk l
theorem vTexts_ok : vTexts.all textGood = true := by decide +kernel
theorem vText_at (i : Int) (h0 : 0 ≤ i) (h1 : i < 8) : (nameIn vTexts i).size ≤ 60 ∧ textOk (nameIn vTexts i).data.toList = true := by
  have hi : i.toNat < vTexts.length := by simp [vTexts]; omega
  have e : vTexts.getD i.toNat [] = vTexts[i.toNat] := by rw [List.getD_eq_getElem?_getD, List.getElem?_eq_getElem hi]; rfl
  have hx := List.all_eq_true.1 vTexts_ok _ (List.getElem_mem hi)
  unfold textGood at hx
  rw [Bool.and_eq_true] at hx
  unfold nameIn
  rw [e]
  refine ⟨?_, hx.2⟩
  have h2 := of_decide_eq_true hx.1
  rw [ba_size]
  exact h2
theorem vFlat_l (k n many : Int) : (vFlat k n many).l = [] := by
  unfold vFlat
  split
  · rfl
  · split
    · rfl
    · split <;> rfl
theorem vFlat_fits {k : Int} (hk : 1 ≤ k ∧ k ≤ 4) (n : Int) {many : Int} (hm : 1 ≤ many ∧ many ≤ 1000) : (vFlat k n many).flatOk = true ∧ fkB (vFlat k n many).k k = true ∧ (vFlat k n many).k ≠ 5 := by
  have hp1 := pickI_bd n 41 (by decide)
  have hp2 := pickI_bd n 8 (by decide)
  have hp3 := pickI_bd n many (by omega)
  unfold vFlat
  by_cases h1 : k = 1
  · subst h1
    rw [if_pos rfl]
    refine ⟨?_, rfl, by show (1 : Int) ≠ 5; decide⟩
    show flatOk 1 (pickI n 41 - 20) ⟨#[]⟩ 0 = true
    unfold flatOk
    rw [if_neg (by decide), if_pos rfl]
    exact decide_eq_true ⟨by omega, rfl, rfl⟩
  · rw [if_neg h1]
    by_cases h2 : k = 2
    · subst h2
      rw [if_pos rfl]
      refine ⟨?_, rfl, by show (2 : Int) ≠ 5; decide⟩
      show flatOk 2 0 (nameIn vTexts (pickI n 8)) 0 = true
      unfold flatOk
      rw [if_neg (by decide), if_neg (by decide), if_pos rfl]
      exact decide_eq_true ⟨rfl, vText_at _ hp2.1 hp2.2, rfl⟩
    · rw [if_neg h2]
      have h34 : k = 3 ∨ k = 4 := by omega
      split
      · refine ⟨rfl, ?_, by show (0 : Int) ≠ 5; decide⟩
        exact decide_eq_true (Or.inr ⟨rfl, h34⟩)
      · refine ⟨?_, decide_eq_true (Or.inl rfl), by show k ≠ 5; omega⟩
        show flatOk k (1 + pickI n many) ⟨#[]⟩ 0 = true
        unfold flatOk
        rw [if_neg (by omega), if_neg (by omega), if_neg (by omega), if_pos h34]
        exact decide_eq_true ⟨.inl ⟨by omega, by omega⟩, rfl, rfl⟩
theorem vFlat_fine {k : Int} (hk : 1 ≤ k ∧ k ≤ 4) (n : Int) {many : Int} (hm : 1 ≤ many ∧ many ≤ 1000) : (vFlat k n many).fine := by
  have h := (vFlat_fits hk n hm).1
  have hok : (vFlat k n many).ok = true := by unfold V.ok; rw [if_neg (vFlat_fits hk n hm).2.2]; exact h
  exact ok_fine hok
theorem vItems_okIn {o : Int} (ho : 1 ≤ o ∧ o ≤ 4) (n : Int) {many : Int} (hm : 1 ≤ many ∧ many ≤ 1000) (m : Nat) : ∀ u ∈ vItems o n many m, u.flatOk = true ∧ fkB u.k o = true ∧ u.okIn = true := by
  intro u hu
  unfold vItems at hu
  obtain ⟨i, _, rfl⟩ := List.mem_map.1 hu
  obtain ⟨h1, h2, h3⟩ := vFlat_fits ho (n.tdiv 4 + (i : Int)) hm
  refine ⟨h1, h2, ?_⟩
  unfold V.okIn
  rw [h1, Bool.and_true, Bool.not_eq_true', beq_eq_false_iff_ne]
  exact h3
theorem vOf_fits {k o : Int} (hr : rtB k o = true) (n : Int) {many : Int} (hm : 1 ≤ many ∧ many ≤ 1000) : fitsB (vOf k o n many) k o = true := by
  unfold fitsB vOf
  rw [hr, Bool.true_and]
  unfold rtB at hr
  by_cases h5 : k = 5
  · rw [if_pos h5] at hr
    have ho := of_decide_eq_true hr
    have hp := pickI_bd n 4 (by decide)
    have hin := vItems_okIn ho n hm (pickI n 4).toNat
    rw [if_pos h5, if_pos h5, Bool.and_eq_true, Bool.and_eq_true]
    refine ⟨?_, List.all_eq_true.2 (fun u hu => (hin u hu).2.1), rfl⟩
    show V.ok (.mk 5 0 ⟨#[]⟩ _) = true
    unfold V.ok
    rw [if_pos (show (V.mk 5 0 ⟨#[]⟩ (vItems o n many (pickI n 4).toNat)).k = 5 from rfl), Bool.and_eq_true, Bool.and_eq_true]
    refine ⟨decide_eq_true ⟨rfl, rfl⟩, decide_eq_true ?_, List.all_eq_true.2 (fun u hu => (hin u hu).2.2)⟩
    show (vItems o n many (pickI n 4).toNat).length ≤ 12
    rw [vItems_len]; omega
  · rw [if_neg h5] at hr
    have hk := (of_decide_eq_true hr).1
    rw [if_neg h5, if_neg h5]
    obtain ⟨h1, h2, h3⟩ := vFlat_fits hk n hm
    rw [h2, Bool.and_true]
    unfold V.ok
    rw [if_neg h3]
    exact h1
theorem fits_ok {v : V} {k o : Int} (h : fitsB v k o = true) : v.ok = true := by
  unfold fitsB at h
  rw [Bool.and_eq_true, Bool.and_eq_true] at h
  exact h.1.2

/-- the raw number of the i-th field -/
def numAt (l : List Int) (i : Nat) : Int := if l.length = 0 then (i : Int) else IntKind.i64.wrap (l.getD (i % l.length) 0 + (i : Int))
/-- values of the first fields of a class -/
def vsTo (fs : List Fl) (l : List Int) (many : Int) (n : Nat) : List V := (List.range n).map (fun i => vOf (fs.getD i ⟨⟨#[]⟩, 0, 0, false⟩).k (fs.getD i ⟨⟨#[]⟩, 0, 0, false⟩).o (numAt l i) many)
theorem vsTo_len (fs : List Fl) (l : List Int) (many : Int) (n : Nat) : (vsTo fs l many n).length = n := by simp [vsTo]
theorem vsTo_succ (fs : List Fl) (l : List Int) (many : Int) (n : Nat) (h : n < fs.length) : vsTo fs l many (n + 1) = vsTo fs l many n ++ [vOf fs[n].k fs[n].o (numAt l n) many] := by
  unfold vsTo
  rw [List.range_succ, List.map_append]
  have e : fs.getD n ⟨⟨#[]⟩, 0, 0, false⟩ = fs[n] := by rw [List.getD_eq_getElem?_getD, List.getElem?_eq_getElem h]; rfl
  rw [List.map_singleton, e]
theorem vsTo_at (fs : List Fl) (l : List Int) (many : Int) (n i : Nat) (h : i < (vsTo fs l many n).length) (hi : i < fs.length) : (vsTo fs l many n)[i] = vOf fs[i].k fs[i].o (numAt l i) many := by
  have e : fs.getD i ⟨⟨#[]⟩, 0, 0, false⟩ = fs[i] := by rw [List.getD_eq_getElem?_getD, List.getElem?_eq_getElem hi]; rfl
  simp only [vsTo, List.getElem_map, List.getElem_range, e]
/-- all values fit all fields -/
def AllFit (fs : List Fl) (vs : List V) : Prop := vs.length = fs.length ∧ ∀ i (h : i < vs.length) (h' : i < fs.length), fitsB vs[i] fs[i].k fs[i].o = true
theorem vsTo_fit {nm : ByteArray} {fs : List Fl} (hok : (Cl.mk nm fs).ok = true) (l : List Int) {many : Int} (hm : 1 ≤ many ∧ many ≤ 1000) : AllFit fs (vsTo fs l many fs.length) := by
  refine ⟨vsTo_len _ _ _ _, fun i h h' => ?_⟩
  rw [vsTo_at fs l many _ i h h']
  exact vOf_fits (Fl.ok_parts ((Cl.ok_parts hok).2.2 i h').1).2.2.2.1 _ hm
theorem AllFit.check {nm : ByteArray} {fs : List Fl} {vs : List V} (hok : (Cl.mk nm fs).ok = true) (h : AllFit fs vs) : checkC ⟨nm, fs⟩ vs = (0, 0) := by
  unfold checkC
  rw [if_neg (by rw [hok]; decide), if_neg (fun e => e h.1), show (Cl.mk nm fs).fs = fs from rfl, misfit_none (fun j hj => by rw [fitAt_of hj (by rw [h.1]; exact hj)]; exact h.2 j _ _)]
theorem AllFit.set {fs : List Fl} {vs : List V} (h : AllFit fs vs) {a : Nat} (ha : a < fs.length) {v : V} (hv : fitsB v fs[a].k fs[a].o = true) : AllFit fs (vs.set a v) := by
  refine ⟨by rw [List.length_set]; exact h.1, fun i h1 h2 => ?_⟩
  rw [List.getElem_set]
  split
  · rename_i e; subst e; exact hv
  · exact h.2 i _ _
theorem AllFit.miss {nm : ByteArray} {fs : List Fl} {vs : List V} (hok : (Cl.mk nm fs).ok = true) (h : AllFit fs vs) {a : Nat} (ha : a < fs.length) {v : V} (hv : fitsB v fs[a].k fs[a].o = false) : checkC ⟨nm, fs⟩ (vs.set a v) = ((a : Int), 42) := by
  have hl : (vs.set a v).length = fs.length := by rw [List.length_set]; exact h.1
  have e1 : ∀ j, j < a → fitAt fs (vs.set a v) j = true := fun j hj => by
    rw [fitAt_of (by omega) (by omega), List.getElem_set_ne (by omega)]
    exact h.2 j (by have := h.1; omega) (by omega)
  have e2 : fitAt fs (vs.set a v) a = false := by
    rw [fitAt_of ha (by omega), List.getElem_set_self]
    exact hv
  unfold checkC
  rw [if_neg (by rw [hok]; decide), if_neg (fun e => e hl), show (Cl.mk nm fs).fs = fs from rfl, misfit_at ha e1 e2]
/-- nothing fits references alone -/
theorem fits_nil {k o : Int} (hr : rtB k o = true) : fitsB (.mk 0 0 ⟨#[]⟩ []) k o = decide (k = 3 ∨ k = 4) := by
  unfold fitsB
  rw [hr]
  have hk : 1 ≤ k ∧ k ≤ 5 := by
    unfold rtB at hr
    split at hr
    · omega
    · have := of_decide_eq_true hr; omega
  have hc : k = 1 ∨ k = 2 ∨ k = 3 ∨ k = 4 ∨ k = 5 := by omega
  rcases hc with rfl | rfl | rfl | rfl | rfl <;> rfl
/-- fields' least values -/
def zerosTo (fs : List Fl) (n : Nat) : List V := (List.range n).map (fun i => .mk (zeroK (fs.getD i ⟨⟨#[]⟩, 0, 0, false⟩).k (fs.getD i ⟨⟨#[]⟩, 0, 0, false⟩).o) 0 ⟨#[]⟩ [])
theorem zerosTo_len (fs : List Fl) (n : Nat) : (zerosTo fs n).length = n := by simp [zerosTo]
theorem zerosTo_succ (fs : List Fl) (n : Nat) (h : n < fs.length) : zerosTo fs (n + 1) = zerosTo fs n ++ [.mk (zeroK fs[n].k fs[n].o) 0 ⟨#[]⟩ []] := by
  unfold zerosTo
  rw [List.range_succ, List.map_append]
  have e : fs.getD n ⟨⟨#[]⟩, 0, 0, false⟩ = fs[n] := by rw [List.getD_eq_getElem?_getD, List.getElem?_eq_getElem h]; rfl
  rw [List.map_singleton, e]
theorem zerosTo_fit {nm : ByteArray} {fs : List Fl} (hok : (Cl.mk nm fs).ok = true) : AllFit fs (zerosTo fs fs.length) := by
  refine ⟨zerosTo_len _ _, fun i h h' => ?_⟩
  have e : fs.getD i ⟨⟨#[]⟩, 0, 0, false⟩ = fs[i] := by rw [List.getD_eq_getElem?_getD, List.getElem?_eq_getElem h']; rfl
  have ev : (zerosTo fs fs.length)[i] = .mk (zeroK fs[i].k fs[i].o) 0 ⟨#[]⟩ [] := by
    simp only [zerosTo, List.getElem_map, List.getElem_range, e]
  rw [ev, fits_zero]
  exact (Fl.ok_parts ((Cl.ok_parts hok).2.2 i h').1).2.2.2.1
/-- fields of the same types -/
theorem AllFit.types {fs gs : List Fl} {vs : List V} (h : AllFit fs vs) (hl : gs.length = fs.length) (ht : ∀ i (h1 : i < gs.length) (h2 : i < fs.length), gs[i].k = fs[i].k ∧ gs[i].o = fs[i].o) : AllFit gs vs := by
  refine ⟨by rw [hl]; exact h.1, fun i h1 h2 => ?_⟩
  obtain ⟨e1, e2⟩ := ht i h2 (by omega)
  rw [e1, e2]
  exact h.2 i h1 _
def quiteNew : ByteArray := ⟨#[113, 117, 105, 116, 101, 95, 110, 101, 119]⟩
theorem quiteNew_size : quiteNew.size = 9 := rfl
theorem quiteNew_ok : nmOk quiteNew.data.toList = true := by decide
/-- a field named anew -/
theorem renamed_ok {nm : ByteArray} (hn : nmOk nm.data.toList = true) {fs : List Fl} (h : GoodL fs) (hl : fs.length ≤ 8) (hs : ∀ f ∈ fs, f.nm.size ≤ 8) (a : Nat) (ha : a < fs.length) : (Cl.mk nm (fs.set a { fs[a] with nm := quiteNew })).ok = true := by
  have hno : ∀ f ∈ fs, f.nm ≠ quiteNew := fun f hf e => by have := hs f hf; rw [e, quiteNew_size] at this; omega
  rw [other_name hn h hl a ha _ (fun e => hno _ (List.getElem_mem ha) e.symm)]
  have h1 : Fl.ok { fs[a] with nm := quiteNew } = true := by
    have h2 := (h a ha).1
    unfold Fl.ok at h2 ⊢
    rw [Bool.and_eq_true, Bool.and_eq_true] at h2
    rw [show ({ fs[a] with nm := quiteNew } : Fl).nm = quiteNew from rfl, quiteNew_ok, h2.1.2, h2.2]; rfl
  have h2 : fieldAt fs ({ fs[a] with nm := quiteNew } : Fl).nm = none := fieldAt_none (fun i hi e => hno _ (List.getElem_mem hi) (ba_eq_of e))
  rw [h1, h2]; rfl
theorem renamed_types (fs : List Fl) (a : Nat) (ha : a < fs.length) (nm : ByteArray) : (fs.set a { fs[a] with nm := nm }).length = fs.length ∧ ∀ i (h1 : i < (fs.set a { fs[a] with nm := nm }).length) (h2 : i < fs.length), (fs.set a { fs[a] with nm := nm })[i].k = fs[i].k ∧ (fs.set a { fs[a] with nm := nm })[i].o = fs[i].o := by
  refine ⟨List.length_set, fun i h1 h2 => ?_⟩
  rw [set_at ha _ i h1]
  split
  · rename_i e; subst e; exact ⟨rfl, rfl⟩
  · exact ⟨rfl, rfl⟩
end Go.Proofs.YtffoklhopmhjaaaDoor

/- A region that draws its order: loads are taken first though a last store hits their cells, if what is asked of the world ends with operations that wait for all of them. -/
set_option linter.unusedSimpArgs false
set_option linter.unusedVariables false
namespace Go.Proofs.YtffoklhopmhjaaaDoor
open Go

section
variable {P : Program} {ops : Array Oper} {Q : Exit → Act → World → Prop} {md : Region.Mode} {S : World → Prop} {T : Nat → Bool}

/-- whatever comes up next; behind an operation that is not among T the world meets S -/
def wpAnyT (P : Program) (md : Region.Mode) (ops : Array Oper) (Q : Exit → Act → World → Prop) (S : World → Prop) (T : Nat → Bool) : Nat → Array Bool → Act → World → Prop
  | 0, listed, a, w => Region.ready md ops listed = [] ∧ Q .normal a w
  | n + 1, listed, a, w => (Region.ready md ops listed = [] → Q .normal a w) ∧
      ∀ i ∈ Region.ready md ops listed, wpOp P ops Q i (fun b v => (T i = false → S v) ∧ wpAnyT P md ops Q S T n (listed.setIfInBounds i true) b v) a w

theorem wpAny_of_T : ∀ (n : Nat) (listed : Array Bool) (a : Act) (w : World), wpAnyT P md ops Q S T n listed a w → wpAny P md ops Q n listed a w
  | 0, _, _, _, h => h
  | n + 1, _, _, _, h => ⟨h.1, fun i hi => wpOp_mono (fun b v k => wpAny_of_T n _ b v k.2) (h.2 i hi)⟩

/-- does j wait for i, at once or through others? -/
def leadsB (md : Region.Mode) (ops : Array Oper) : Nat → Nat → Nat → Bool
  | 0, _, _ => false
  | f + 1, j, i => match ops[j]? with
    | none => false
    | some o => o.after.any fun e => Region.binds md e && (e.on == i || leadsB md ops f e.on i)
/-- whatever is listed has all that it waits for listed -/
def Closed (md : Region.Mode) (ops : Array Oper) (listed : Array Bool) : Prop :=
  ∀ (j : Nat) (o : Oper), ops[j]? = some o → listed.getD j false = true → ∀ e ∈ o.after, Region.binds md e = true → listed.getD e.on false = true
def closedB (md : Region.Mode) (ops : Array Oper) (listed : Array Bool) : Bool :=
  (List.range ops.size).all fun j => !listed.getD j false || match ops[j]? with
    | none => true
    | some o => o.after.all fun e => !Region.binds md e || listed.getD e.on false
theorem closed_of {listed : Array Bool} (h : closedB md ops listed = true) : Closed md ops listed := by
  intro j o ho hj e he hb
  unfold closedB at h
  rw [List.all_eq_true] at h
  have h1 := h j (List.mem_range.2 (Array.getElem?_eq_some_iff.1 ho).1)
  rw [ho, hj] at h1
  simp only [Bool.not_true, Bool.false_or, Array.all_eq_true_iff_forall_mem] at h1
  have h2 := h1 e he
  rw [hb] at h2
  simpa using h2
theorem leads_listed {listed : Array Bool} (hc : Closed md ops listed) : ∀ (f j i : Nat) (o : Oper), ops[j]? = some o → (∀ e ∈ o.after, Region.binds md e = true → listed.getD e.on false = true) → leadsB md ops f j i = true → listed.getD i false = true
  | 0, _, _, _, _, _, h => by cases h
  | f + 1, j, i, o, ho, hd, h => by
    unfold leadsB at h
    rw [ho] at h
    simp only [Array.any_eq_true] at h
    obtain ⟨k, hk, h⟩ := h
    rw [Bool.and_eq_true, Bool.or_eq_true] at h
    have hm := Array.getElem_mem hk
    have hl := hd _ hm h.1
    rcases h.2 with h2 | h2
    · rwa [beq_iff_eq.1 h2] at hl
    · cases ho2 : ops[(o.after[k]).on]? with
      | none =>
        cases f with
        | zero => cases h2
        | succ f => unfold leadsB at h2; rw [ho2] at h2; cases h2
      | some o2 => exact leads_listed hc f _ i o2 ho2 (fun e he hb => hc _ o2 ho2 hl e he hb) h2
theorem closed_set {listed : Array Bool} {j : Nat} (hc : Closed md ops listed) (hj : j ∈ Region.ready md ops listed) : Closed md ops (listed.setIfInBounds j true) := by
  intro k o ho hk e he hb
  refine getD_set_true ?_
  by_cases hjk : j = k
  · subst hjk
    obtain ⟨_, o', ho', hall⟩ := mem_ready.1 hj
    rw [ho] at ho'
    cases ho'
    exact hall e he hb
  · rw [getD_set_ne false hjk] at hk
    exact hc k o ho hk e he hb
theorem not_listed {listed : Array Bool} {i : Nat} (h : listed.getD i true = false) : listed.getD i false = false := by
  rcases Nat.lt_or_ge i listed.size with h' | h'
  · simpa [h'] using h
  · simp [Array.getElem?_eq_none h']

theorem wpAnyT_first {i : Nat} {oi : Oper} {v : Value} (hi : ops[i]? = some oi) (hsel : ∀ (j : Nat) (o : Oper) cs b, ops[j]? = some o → o.op ≠ .select cs b)
    (hT : ∀ j o, ops[j]? = some o → T j = true → leadsB md ops 64 j i = true) (hTi : T i = false)
    (hQ : ∀ c a w, Q (.panic c) (a.put oi.dst v) w → Q (.panic c) a w) :
    ∀ (n : Nat) (listed : Array Bool) (a : Act) (w : World), Closed md ops listed →
      (∀ j oj, ops[j]? = some oj → j ≠ i → listed.getD j true = false → (∀ e ∈ oj.after, Region.binds md e = true → e.on ≠ i) → oi.apart ops oj = true) →
      i ∈ Region.ready md ops listed → YieldsIf P ops S oi v a → S w →
      wpAnyT P md ops Q S T n (listed.setIfInBounds i true) (a.put oi.dst v) w → wpAnyT P md ops Q S T (n + 1) listed a w := by
  intro n
  induction n with
  | zero =>
    intro listed a w _ _ hr hy hS H
    refine ⟨fun h => absurd (h ▸ hr) (by simp), fun j hj => ?_⟩
    by_cases hji : j = i
    · subst hji; exact hy.wpOp hi hS ⟨fun _ => hS, H⟩
    · have h1 := ready_mono hj hji
      rw [H.1] at h1
      cases h1
  | succ n ih =>
    intro listed a w hcl hfree hr hy hS H
    refine ⟨fun h => absurd (h ▸ hr) (by simp), fun j hj => ?_⟩
    by_cases hji : j = i
    · subst hji; exact hy.wpOp hi hS ⟨fun _ => hS, H⟩
    · obtain ⟨hun, oj, hoj, hall⟩ := mem_ready.1 hj
      have hir := (mem_ready.1 hr).1
      have hTj : T j = false := by
        cases hTj : T j with
        | false => rfl
        | true =>
          have h1 := leads_listed hcl 64 j i oj hoj hall (hT j oj hoj hTj)
          rw [not_listed hir] at h1
          cases h1
      have hno : ∀ e ∈ oj.after, Region.binds md e = true → e.on ≠ i := fun e he hb heq => by
        have h1 := hall e he hb
        rw [heq, not_listed hir] at h1
        cases h1
      have h2 := wpOp_putIf hoj (hfree j oj hoj hji hun hno) (fun cs b => hsel i oi cs b hi) (fun cs b => hsel j oj cs b hoj) hQ hy (H.2 j (ready_mono hj hji))
      refine wpOp_mono (fun b u h3 => ⟨h3.2.1, ih (listed.setIfInBounds j true) b u (closed_set hcl hj) (fun k ok hk hki hkun hkno => ?_) (ready_mono hr (Ne.symm hji)) h3.1 (h3.2.1 hTj) ?_⟩) h2
      · refine hfree k ok hk hki ?_ hkno
        by_cases hjk : j = k
        · subst hjk; exact hun
        · rwa [getD_set_ne true hjk] at hkun
      · rw [Array.setIfInBounds_comm _ _ hji]
        exact h3.2.2

/-- what yields in whatever world is taken first, though S may be gone by then, if it is among T -/
theorem wpAnyT_pure' {i : Nat} {oi : Oper} {v : Value} (hi : ops[i]? = some oi) (hsel : ∀ (j : Nat) (o : Oper) cs b, ops[j]? = some o → o.op ≠ .select cs b) (hTi : T i = true)
    (hQ : ∀ c a w, Q (.panic c) (a.put oi.dst v) w → Q (.panic c) a w) :
    ∀ (n : Nat) (listed : Array Bool) (a : Act) (w : World),
      (∀ j oj, ops[j]? = some oj → j ≠ i → listed.getD j true = false → (∀ e ∈ oj.after, Region.binds md e = true → e.on ≠ i) → oi.apart ops oj = true) →
      i ∈ Region.ready md ops listed → YieldsIf P ops (fun _ => True) oi v a →
      wpAnyT P md ops Q S T n (listed.setIfInBounds i true) (a.put oi.dst v) w → wpAnyT P md ops Q S T (n + 1) listed a w := by
  intro n
  induction n with
  | zero =>
    intro listed a w _ hr hy H
    refine ⟨fun h => absurd (h ▸ hr) (by simp), fun j hj => ?_⟩
    by_cases hji : j = i
    · subst hji; exact hy.wpOp hi trivial ⟨(fun h => absurd (hTi.symm.trans h) (by decide)), H⟩
    · have h1 := ready_mono hj hji
      rw [H.1] at h1
      cases h1
  | succ n ih =>
    intro listed a w hfree hr hy H
    refine ⟨fun h => absurd (h ▸ hr) (by simp), fun j hj => ?_⟩
    by_cases hji : j = i
    · subst hji; exact hy.wpOp hi trivial ⟨(fun h => absurd (hTi.symm.trans h) (by decide)), H⟩
    · obtain ⟨hun, oj, hoj, hall⟩ := mem_ready.1 hj
      have hir := (mem_ready.1 hr).1
      have hno : ∀ e ∈ oj.after, Region.binds md e = true → e.on ≠ i := fun e he hb heq => by
        have h1 := hall e he hb
        rw [heq, not_listed hir] at h1
        cases h1
      have h2 := wpOp_putIf hoj (hfree j oj hoj hji hun hno) (fun cs b => hsel i oi cs b hi) (fun cs b => hsel j oj cs b hoj) hQ hy (H.2 j (ready_mono hj hji))
      refine wpOp_mono (fun b u h3 => ⟨h3.2.1, ih (listed.setIfInBounds j true) b u (fun k ok hk hki hkun hkno => ?_) (ready_mono hr (Ne.symm hji)) h3.1 ?_⟩) h2
      · refine hfree k ok hk hki ?_ hkno
        by_cases hjk : j = k
        · subst hjk; exact hun
        · rwa [getD_set_ne true hjk] at hkun
      · rw [Array.setIfInBounds_comm _ _ hji]
        exact h3.2.2
theorem wpAnyT_pure {i : Nat} {oi : Oper} {v : Value} {n : Nat} {listed : Array Bool} {a : Act} {w : World} (hi : ops[i]? = some oi)
    (hs : Region.noSelect ops = true) (hT : T i = true) (hf : Region.free md ops listed i = true) (hr : (Region.ready md ops listed).contains i = true)
    (hQ : ∀ c a w, Q (.panic c) (a.put oi.dst v) w → Q (.panic c) a w) (hy : YieldsIf P ops (fun _ => True) oi v a)
    (h : wpAnyT P md ops Q S T n (listed.setIfInBounds i true) (a.put oi.dst v) w) : wpAnyT P md ops Q S T (n + 1) listed a w :=
  wpAnyT_pure' hi (Region.noSelect_spec hs) hT hQ n listed a w (Region.free_spec hi hf) (by simpa using hr) hy h

def tailB (md : Region.Mode) (ops : Array Oper) (T : Nat → Bool) (i : Nat) : Bool := !T i && (List.range ops.size).all fun j => !T j || leadsB md ops 64 j i
/-- number i is taken first: in every world that meets S it yields v -/
theorem wpAnyT_take {i : Nat} {oi : Oper} {v : Value} {n : Nat} {listed : Array Bool} {a : Act} {w : World} (hi : ops[i]? = some oi)
    (hs : Region.noSelect ops = true) (hT : tailB md ops T i = true) (hc : closedB md ops listed = true) (hf : Region.free md ops listed i = true) (hr : (Region.ready md ops listed).contains i = true)
    (hQ : ∀ c a w, Q (.panic c) (a.put oi.dst v) w → Q (.panic c) a w) (hy : YieldsIf P ops S oi v a) (hS : S w)
    (h : wpAnyT P md ops Q S T n (listed.setIfInBounds i true) (a.put oi.dst v) w) : wpAnyT P md ops Q S T (n + 1) listed a w := by
  unfold tailB at hT
  rw [Bool.and_eq_true, List.all_eq_true] at hT
  refine wpAnyT_first hi (Region.noSelect_spec hs) (fun j o ho hj => ?_) (by simpa using hT.1) hQ n listed a w (closed_of hc) (Region.free_spec hi hf) (by simpa using hr) hy hS h
  have h1 := hT.2 j (List.mem_range.2 (Array.getElem?_eq_some_iff.1 ho).1)
  rw [hj] at h1
  simpa using h1
/-- number i takes no look at the world, whatever T says -/
theorem wpAnyT_run {i : Nat} {o : Oper} {n : Nat} {listed : Array Bool} {a : Act} {w : World} (hr : Region.ready md ops listed = [i]) (ho : ops[i]? = some o)
    (h : ∀ K : Act → World → Prop, Shut (∀ b u, (T i = false → S u) → wpAnyT P md ops Q S T n (listed.setIfInBounds i true) b u → K b u) → if Region.wanted o (yielded ops a.tmps) = true then Oper.wp P o a w K Q else K (a.put o.dst undef) w) :
    wpAnyT P md ops Q S T (n + 1) listed a w := by
  refine ⟨fun h0 => absurd (hr ▸ h0) (by simp), fun j hj => ?_⟩
  rw [hr] at hj
  obtain rfl : j = i := by simpa using hj
  exact wpOp_step ho (fun K hK => h K (fun b u hS hW => hK b u ⟨hS, hW⟩))
/-- one of two comes up -/
theorem wpAnyT_two {i j : Nat} {o o' : Oper} {n : Nat} {listed : Array Bool} {a : Act} {w : World} (hr : Region.ready md ops listed = [i, j]) (ho : ops[i]? = some o) (ho' : ops[j]? = some o')
    (h : ∀ K : Act → World → Prop, Shut (∀ b u, (T i = false → S u) → wpAnyT P md ops Q S T n (listed.setIfInBounds i true) b u → K b u) → if Region.wanted o (yielded ops a.tmps) = true then Oper.wp P o a w K Q else K (a.put o.dst undef) w)
    (h' : ∀ K : Act → World → Prop, Shut (∀ b u, (T j = false → S u) → wpAnyT P md ops Q S T n (listed.setIfInBounds j true) b u → K b u) → if Region.wanted o' (yielded ops a.tmps) = true then Oper.wp P o' a w K Q else K (a.put o'.dst undef) w) :
    wpAnyT P md ops Q S T (n + 1) listed a w := by
  refine ⟨fun h0 => absurd (hr ▸ h0) (by simp), fun k hk => ?_⟩
  rw [hr] at hk
  rcases List.mem_cons.1 hk with rfl | hk
  · exact wpOp_step ho (fun K hK => h K (fun b u hS hW => hK b u ⟨hS, hW⟩))
  · obtain rfl : k = j := by simpa using hk
    exact wpOp_step ho' (fun K hK => h' K (fun b u hS hW => hK b u ⟨hS, hW⟩))
theorem wpAnyT_done {listed : Array Bool} {a : Act} {w : World} (hr : Region.ready md ops listed = []) (h : Q .normal a w) : ∀ n, wpAnyT P md ops Q S T n listed a w
  | 0 => ⟨hr, h⟩
  | _ + 1 => ⟨fun _ => h, by rw [hr]; simp⟩
/-- the beginning -/
theorem wp_region_T {id : Nat} {a : Act} {w : World} (S : World → Prop) (T : Nat → Bool) (hm : P.follows .mixedOrders = true)
    (h : wpAnyT P .any ops Q S T ops.size (Array.replicate ops.size false) a w.drew) : (Code.region id ops true).wp P Q a w :=
  wp_region_any hm (wpAny_of_T _ _ _ _ h)
end
end Go.Proofs.YtffoklhopmhjaaaDoor

/- morainelaw04.ValOf: values that are no lists. -/
set_option linter.unusedSimpArgs false
set_option linter.unusedVariables false
namespace Go.Proofs.YtffoklhopmhjaaaDoor
open Go Go.RowKit Go.Shelf

def vtexts8 : Array Value := #[.string ⟨#[]⟩, .string ⟨#[97]⟩, .string ⟨#[98, 99]⟩, .string ⟨#[195, 169, 116, 195, 169]⟩, .string ⟨#[97, 32, 98]⟩, .string ⟨#[122, 122, 32, 116, 111, 112]⟩, .string ⟨#[48]⟩, .string ⟨#[45, 55]⟩]
theorem vtexts8_at (q : Nat) (h : q < 8) : vtexts8[q]? = some (.string (nameIn vTexts (q : Int))) := by
  match q, h with
  | 0, _ => rfl
  | 1, _ => rfl
  | 2, _ => rfl
  | 3, _ => rfl
  | 4, _ => rfl
  | 5, _ => rfl
  | 6, _ => rfl
  | 7, _ => rfl
/-- the boxes at ValOf's entry -/
structure VoSt (w : World) (k o : Int) (W : World) : Prop where
  tb : TBox W w.heap.size k o
  out : VBox W (w.heap.size + 1) 0 0 ⟨#[]⟩ (.slice none 0 0)
  txt : W.heap[w.heap.size + 2]? = some (.cells vtexts8 9 (0, 0))
  below : Below w.heap.size w W
theorem VoSt.new (w : World) (k o : Int) : VoSt w k o (((w.alloc (.cells #[.int .i64 k, .int .i64 o] 51)).alloc (.cells #[.int .i64 0, .int .i64 0, .string ⟨#[]⟩, .slice none 0 0] 31)).alloc (.cells vtexts8 9)) := by
  refine ⟨((TBox.new w k o).alloc _).alloc _, ?_, ?_, (below_two _ _).alloc (by simp; omega) _⟩
  · have h := (VBox.new (w.alloc (.cells #[.int .i64 k, .int .i64 o] 51)) 0 0 ⟨#[]⟩ (.slice none 0 0)).alloc (.cells vtexts8 9)
    rwa [World.size_alloc] at h
  · have h := World.alloc_heap_new ((w.alloc (.cells #[.int .i64 k, .int .i64 o] 51)).alloc (.cells #[.int .i64 0, .int .i64 0, .string ⟨#[]⟩, .slice none 0 0] 31)) (.cells vtexts8 9)
    rwa [World.size_alloc, World.size_alloc] at h
theorem VoSt.text {w : World} {k o : Int} {W : World} (h : VoSt w k o W) (q : Nat) (hq : q < 8) : W.cell? ⟨w.heap.size + 1 + 1, q, none⟩ = some (.string (nameIn vTexts (q : Int))) := by
  have h2 := h.txt
  rw [show w.heap.size + 2 = w.heap.size + 1 + 1 from rfl] at h2
  rw [Lib.cell_of_heap h2]
  exact vtexts8_at q hq
theorem VoSt.fin {w : World} {k o : Int} {W : World} (h : VoSt w k o W) (k' n' : Int) (s' : ByteArray) : VBox (putBox W (w.heap.size + 1) k' n' s' (.slice none 0 0)) (w.heap.size + 1) k' n' s' (.slice none 0 0) ∧ Below w.heap.size w (putBox W (w.heap.size + 1) k' n' s' (.slice none 0 0)) :=
  ⟨h.out.put _ _ _ _, below_put h.below (by omega) _ _ _ _⟩

set_option maxHeartbeats 2000000 in
set_option maxRecDepth 100000 in
theorem valOf4_num (o n many : Int) (hn : -9223372036854775808 ≤ n ∧ n ≤ 9223372036854775807) (w : World) :
    Calls Tryd.prog 23 #[.agg #[.int .i64 1, .int .i64 o], .int .i64 n, .int .i64 many] w fun e w' => e = .returned (valV 1 (pickI n 41 - 20) ⟨#[]⟩ (.slice none 0 0)) ∧ Below w.heap.size w w' := by
  have hp := fun W => pick4_any n 41 hn.1 hn.2 (by decide) (by decide) W
  have hb := pickI_bd n 41 (by decide)
  have hS := VoSt.new w 1 o
  generalize pickI n 41 = q at hp hb ⊢
  obtain ⟨hb1, hb2⟩ := hb
  have hw : IntKind.i64.wrap (q - 20) = q - 20 := IntWalk.i64_in _ (by omega)
  have HP := Lib.hid hp
  have HS := Lib.hid hS
  clear hp hS hn
  unfold vtexts8 at HS
  go_enter Tryd.func23, Tryd.ntmps23
  go_wp2_with fail
  generalize ((w.alloc (.cells #[.int .i64 1, .int .i64 o] 51)).alloc (.cells #[.int .i64 0, .int .i64 0, .string ⟨#[]⟩, .slice none 0 0] 31)).alloc (.cells #[.string ⟨#[]⟩, .string ⟨#[97]⟩, .string ⟨#[98, 99]⟩, .string ⟨#[195, 169, 116, 195, 169]⟩, .string ⟨#[97, 32, 98]⟩, .string ⟨#[122, 122, 32, 116, 111, 112]⟩, .string ⟨#[48]⟩, .string ⟨#[45, 55]⟩] 9) = W3 at HS ⊢
  refine (HP.out _).mono ?_
  rintro e W4 ⟨rfl, rfl⟩
  obtain ⟨⟨e0, e1, e2, e3⟩, g0, g1, g2, g3⟩ := HS.out.out.facts
  go_wp2_with fail
  obtain ⟨hV, hB⟩ := HS.out.fin 1 (q - 20) ⟨#[]⟩
  unfold putBox at hV hB
  generalize (((W3.setCell ⟨w.heap.size + 1, 0, none⟩ (.int .i64 1)).setCell ⟨w.heap.size + 1, 1, none⟩ (.int .i64 (q - 20))).setCell ⟨w.heap.size + 1, 2, none⟩ (.string ⟨#[]⟩)).setCell ⟨w.heap.size + 1, 3, none⟩ (.slice none 0 0) = W9 at hV hB ⊢
  obtain ⟨⟨x0, x1, x2, x3⟩, _⟩ := hV.facts
  exact bodyPost_ret (v := valV 1 (q - 20) ⟨#[]⟩ (.slice none 0 0)) (by simp [results, Tryd.results23, go_sem, x0, x1, x2, x3]) rfl ⟨rfl, hB⟩

set_option maxHeartbeats 2000000 in
set_option maxRecDepth 100000 in
theorem valOf4_text (o n many : Int) (hn : -9223372036854775808 ≤ n ∧ n ≤ 9223372036854775807) (w : World) :
    Calls Tryd.prog 23 #[.agg #[.int .i64 2, .int .i64 o], .int .i64 n, .int .i64 many] w fun e w' => e = .returned (valV 2 0 (nameIn vTexts (pickI n 8)) (.slice none 0 0)) ∧ Below w.heap.size w w' := by
  have hp := fun W => pick4_any n 8 hn.1 hn.2 (by decide) (by decide) W
  have hb := pickI_bd n 8 (by decide)
  have hS := VoSt.new w 2 o
  obtain ⟨q, hq⟩ : ∃ q : Nat, pickI n 8 = (q : Int) := ⟨(pickI n 8).toNat, by omega⟩
  rw [hq] at hp hb ⊢
  have hq8 : q < 8 := by omega
  have htx := hS.text q hq8
  clear hq hb hn
  generalize nameIn vTexts (q : Int) = tx at htx ⊢
  have hqi : (q : Int) < 8 := by omega
  have hq0 : (0 : Int) ≤ (q : Int) := by omega
  have HP := Lib.hid hp
  have HS := Lib.hid hS
  clear hp hS
  unfold vtexts8 at HS htx
  go_enter Tryd.func23, Tryd.ntmps23
  go_wp2_with fail
  generalize ((w.alloc (.cells #[.int .i64 2, .int .i64 o] 51)).alloc (.cells #[.int .i64 0, .int .i64 0, .string ⟨#[]⟩, .slice none 0 0] 31)).alloc (.cells #[.string ⟨#[]⟩, .string ⟨#[97]⟩, .string ⟨#[98, 99]⟩, .string ⟨#[195, 169, 116, 195, 169]⟩, .string ⟨#[97, 32, 98]⟩, .string ⟨#[122, 122, 32, 116, 111, 112]⟩, .string ⟨#[48]⟩, .string ⟨#[45, 55]⟩] 9) = W3 at HS htx ⊢
  refine (HP.out _).mono ?_
  rintro e W4 ⟨rfl, rfl⟩
  obtain ⟨⟨e0, e1, e2, e3⟩, g0, g1, g2, g3⟩ := HS.out.out.facts
  go_wp2_with fail
  obtain ⟨hV, hB⟩ := HS.out.fin 2 0 tx
  unfold putBox at hV hB
  generalize (((W3.setCell ⟨w.heap.size + 1, 0, none⟩ (.int .i64 2)).setCell ⟨w.heap.size + 1, 1, none⟩ (.int .i64 0)).setCell ⟨w.heap.size + 1, 2, none⟩ (.string tx)).setCell ⟨w.heap.size + 1, 3, none⟩ (.slice none 0 0) = W9 at hV hB ⊢
  obtain ⟨⟨x0, x1, x2, x3⟩, _⟩ := hV.facts
  exact bodyPost_ret (v := valV 2 0 tx (.slice none 0 0)) (by simp [results, Tryd.results23, go_sem, x0, x1, x2, x3]) rfl ⟨rfl, hB⟩

set_option maxHeartbeats 4000000 in
set_option maxRecDepth 100000 in
theorem valOf4_ref (o n many : Int) (hn : -9223372036854775808 ≤ n ∧ n ≤ 9223372036854775807) (hm : 1 ≤ many ∧ many ≤ 1000) (w : World) :
    Calls Tryd.prog 23 #[.agg #[.int .i64 3, .int .i64 o], .int .i64 n, .int .i64 many] w fun e w' => e = .returned (if pickI n 5 = 4 then valV 0 0 ⟨#[]⟩ (.slice none 0 0) else valV 3 (1 + pickI n many) ⟨#[]⟩ (.slice none 0 0)) ∧ Below w.heap.size w w' := by
  have hp := fun W => pick4_any n 5 hn.1 hn.2 (by decide) (by decide) W
  have hq := fun W => pick4_any n many hn.1 hn.2 (by omega) (by omega) W
  have hb := pickI_bd n many (by omega)
  have hS := VoSt.new w 3 o
  generalize pickI n 5 = r at hp ⊢
  generalize pickI n many = q at hq hb ⊢
  obtain ⟨hb1, hb2⟩ := hb
  have hw : IntKind.i64.wrap (1 + q) = 1 + q := IntWalk.i64_in _ (by omega)
  have hm1 : decide (many < 1) = false := decide_eq_false (by omega)
  have hm1' : ¬ many < 1 := by omega
  have HP := Lib.hid hp
  have HQ := Lib.hid hq
  have HS := Lib.hid hS
  clear hp hq hS hn
  unfold vtexts8 at HS
  by_cases h4 : r = 4
  · have d4 : (r == 4) = true := by rw [beq_iff_eq]; exact h4
    refine (show Calls Tryd.prog 23 #[.agg #[.int .i64 3, .int .i64 o], .int .i64 n, .int .i64 many] w (fun e w' => e = .returned (valV 0 0 ⟨#[]⟩ (.slice none 0 0)) ∧ Below w.heap.size w w') from ?_).mono (fun e w' h => ⟨by rw [if_pos h4]; exact h.1, h.2⟩)
    clear h4
    go_enter Tryd.func23, Tryd.ntmps23
    go_wp2_with fail
    generalize ((w.alloc (.cells #[.int .i64 3, .int .i64 o] 51)).alloc (.cells #[.int .i64 0, .int .i64 0, .string ⟨#[]⟩, .slice none 0 0] 31)).alloc (.cells #[.string ⟨#[]⟩, .string ⟨#[97]⟩, .string ⟨#[98, 99]⟩, .string ⟨#[195, 169, 116, 195, 169]⟩, .string ⟨#[97, 32, 98]⟩, .string ⟨#[122, 122, 32, 116, 111, 112]⟩, .string ⟨#[48]⟩, .string ⟨#[45, 55]⟩] 9) = W3 at HS ⊢
    refine (HP.out _).mono ?_
    rintro e W4 ⟨rfl, rfl⟩
    obtain ⟨⟨e0, e1, e2, e3⟩, g0, g1, g2, g3⟩ := HS.out.out.facts
    go_wp2_with fail
    obtain ⟨hV, hB⟩ := HS.out.fin 0 0 ⟨#[]⟩
    unfold putBox at hV hB
    generalize (((W3.setCell ⟨w.heap.size + 1, 0, none⟩ (.int .i64 0)).setCell ⟨w.heap.size + 1, 1, none⟩ (.int .i64 0)).setCell ⟨w.heap.size + 1, 2, none⟩ (.string ⟨#[]⟩)).setCell ⟨w.heap.size + 1, 3, none⟩ (.slice none 0 0) = W9 at hV hB ⊢
    obtain ⟨⟨x0, x1, x2, x3⟩, _⟩ := hV.facts
    exact bodyPost_ret (v := valV 0 0 ⟨#[]⟩ (.slice none 0 0)) (by simp [results, Tryd.results23, go_sem, x0, x1, x2, x3]) rfl ⟨rfl, hB⟩
  · have d4 : (r == 4) = false := by rw [beq_eq_false_iff_ne]; exact h4
    refine (show Calls Tryd.prog 23 #[.agg #[.int .i64 3, .int .i64 o], .int .i64 n, .int .i64 many] w (fun e w' => e = .returned (valV 3 (1 + q) ⟨#[]⟩ (.slice none 0 0)) ∧ Below w.heap.size w w') from ?_).mono (fun e w' h => ⟨by rw [if_neg h4]; exact h.1, h.2⟩)
    clear h4
    go_enter Tryd.func23, Tryd.ntmps23
    go_wp2_with fail
    generalize ((w.alloc (.cells #[.int .i64 3, .int .i64 o] 51)).alloc (.cells #[.int .i64 0, .int .i64 0, .string ⟨#[]⟩, .slice none 0 0] 31)).alloc (.cells #[.string ⟨#[]⟩, .string ⟨#[97]⟩, .string ⟨#[98, 99]⟩, .string ⟨#[195, 169, 116, 195, 169]⟩, .string ⟨#[97, 32, 98]⟩, .string ⟨#[122, 122, 32, 116, 111, 112]⟩, .string ⟨#[48]⟩, .string ⟨#[45, 55]⟩] 9) = W3 at HS ⊢
    refine (HP.out _).mono ?_
    rintro e W4 ⟨rfl, rfl⟩
    obtain ⟨⟨e0, e1, e2, e3⟩, g0, g1, g2, g3⟩ := HS.out.out.facts
    obtain ⟨t0, t1⟩ := HS.out.tb.facts
    have t2 : W3.drew.cell? ⟨w.heap.size, 0, none⟩ = some (.int .i64 3) := t0
    go_wp2_with fail
    refine wp_region_T (fun W : World => W.cell? ⟨w.heap.size, 0, none⟩ = some (.int .i64 3)) (fun j => j == 7) (by kernel_rfl) ?_
    refine wpAnyT_take (i := 0) (v := ?v0) rfl (by kernel_rfl) (by kernel_rfl) (by kernel_rfl) (by kernel_rfl) (by kernel_rfl) (fun _ _ _ h => h) (Or.inl ⟨by rfl, ?y0⟩) (t2) ?r0
    case y0 => (intro w hSw; (try dsimp only at hSw); go_simp; try with_reducible rfl)
    try simp only [Act.put, List.setIfInBounds_toArray, List.set_cons_zero, List.set_cons_succ, List.getElem_toArray, List.getElem_cons_succ, List.getElem_cons_zero]
    refine wpAnyT_take (i := 1) (v := ?v1) rfl (by kernel_rfl) (by kernel_rfl) (by kernel_rfl) (by kernel_rfl) (by kernel_rfl) (fun _ _ _ h => h) (Or.inl ⟨by rfl, ?y1⟩) (t2) ?r1
    case y1 => (intro w hSw; (try dsimp only at hSw); go_simp; try with_reducible rfl)
    try simp only [Act.put, List.setIfInBounds_toArray, List.set_cons_zero, List.set_cons_succ, List.getElem_toArray, List.getElem_cons_succ, List.getElem_cons_zero]
    refine wpAnyT_take (i := 2) (v := ?v2) rfl (by kernel_rfl) (by kernel_rfl) (by kernel_rfl) (by kernel_rfl) (by kernel_rfl) (fun _ _ _ h => h) (Or.inl ⟨by rfl, ?y2⟩) (t2) ?r2
    case y2 => (intro w hSw; (try dsimp only at hSw); go_simp; try with_reducible rfl)
    try simp only [Act.put, List.setIfInBounds_toArray, List.set_cons_zero, List.set_cons_succ, List.getElem_toArray, List.getElem_cons_succ, List.getElem_cons_zero]
    refine wpAnyT_take (i := 3) (v := ?v3) rfl (by kernel_rfl) (by kernel_rfl) (by kernel_rfl) (by kernel_rfl) (by kernel_rfl) (fun _ _ _ h => h) (Or.inl ⟨by rfl, ?y3⟩) (t2) ?r3
    case y3 => (intro w hSw; (try dsimp only at hSw); go_simp; try with_reducible rfl)
    try simp only [Act.put, List.setIfInBounds_toArray, List.set_cons_zero, List.set_cons_succ, List.getElem_toArray, List.getElem_cons_succ, List.getElem_cons_zero]
    refine wpAnyT_run (i := 4) (by kernel_rfl) rfl (fun K hK => ?_)
    go_simp
    (refine (HQ.out _).mono ?_; rintro e Y1 ⟨rfl, rfl⟩)
    go_wp2_with fail
    refine hK.out _ _ (fun _ => t2) ?_
    clear hK K
    try simp only [Act.put, List.setIfInBounds_toArray, List.set_cons_zero, List.set_cons_succ, List.getElem_toArray, List.getElem_cons_succ, List.getElem_cons_zero]
    refine wpAnyT_run (i := 5) (by kernel_rfl) rfl (fun K hK => ?_)
    go_simp
    refine hK.out _ _ (fun _ => t2) ?_
    clear hK K
    try simp only [Act.put, List.setIfInBounds_toArray, List.set_cons_zero, List.set_cons_succ, List.getElem_toArray, List.getElem_cons_succ, List.getElem_cons_zero]
    refine wpAnyT_run (i := 6) (by kernel_rfl) rfl (fun K hK => ?_)
    go_simp
    refine hK.out _ _ (fun _ => t2) ?_
    clear hK K
    try simp only [Act.put, List.setIfInBounds_toArray, List.set_cons_zero, List.set_cons_succ, List.getElem_toArray, List.getElem_cons_succ, List.getElem_cons_zero]
    refine wpAnyT_run (i := 7) (by kernel_rfl) rfl (fun K hK => ?_)
    go_simp
    refine hK.out _ _ (fun h => absurd h (by decide)) ?_
    clear hK K
    try simp only [Act.put, List.setIfInBounds_toArray, List.set_cons_zero, List.set_cons_succ, List.getElem_toArray, List.getElem_cons_succ, List.getElem_cons_zero]
    refine wpAnyT_done (by kernel_rfl) ?_ _
    obtain ⟨hV, hB⟩ := HS.out.fin 3 (1 + q) ⟨#[]⟩
    have hV' := hV.below (Below.refl _ _).drew
    have hB' := hB.drew
    unfold putBox at hV' hB'
    go_wp2_with fail
    obtain ⟨⟨x0, x1, x2, x3⟩, _⟩ := hV'.facts
    exact bodyPost_ret (v := valV 3 (1 + q) ⟨#[]⟩ (.slice none 0 0)) (by simp [results, Tryd.results23, go_sem, x0, x1, x2, x3]) rfl ⟨rfl, hB'⟩

set_option maxHeartbeats 4000000 in
set_option maxRecDepth 100000 in
theorem valOf4_weak (o n many : Int) (hn : -9223372036854775808 ≤ n ∧ n ≤ 9223372036854775807) (hm : 1 ≤ many ∧ many ≤ 1000) (w : World) :
    Calls Tryd.prog 23 #[.agg #[.int .i64 4, .int .i64 o], .int .i64 n, .int .i64 many] w fun e w' => e = .returned (if pickI n 5 = 4 then valV 0 0 ⟨#[]⟩ (.slice none 0 0) else valV 4 (1 + pickI n many) ⟨#[]⟩ (.slice none 0 0)) ∧ Below w.heap.size w w' := by
  have hp := fun W => pick4_any n 5 hn.1 hn.2 (by decide) (by decide) W
  have hq := fun W => pick4_any n many hn.1 hn.2 (by omega) (by omega) W
  have hb := pickI_bd n many (by omega)
  have hS := VoSt.new w 4 o
  generalize pickI n 5 = r at hp ⊢
  generalize pickI n many = q at hq hb ⊢
  obtain ⟨hb1, hb2⟩ := hb
  have hw : IntKind.i64.wrap (1 + q) = 1 + q := IntWalk.i64_in _ (by omega)
  have hm1 : decide (many < 1) = false := decide_eq_false (by omega)
  have hm1' : ¬ many < 1 := by omega
  have HP := Lib.hid hp
  have HQ := Lib.hid hq
  have HS := Lib.hid hS
  clear hp hq hS hn
  unfold vtexts8 at HS
  by_cases h4 : r = 4
  · have d4 : (r == 4) = true := by rw [beq_iff_eq]; exact h4
    refine (show Calls Tryd.prog 23 #[.agg #[.int .i64 4, .int .i64 o], .int .i64 n, .int .i64 many] w (fun e w' => e = .returned (valV 0 0 ⟨#[]⟩ (.slice none 0 0)) ∧ Below w.heap.size w w') from ?_).mono (fun e w' h => ⟨by rw [if_pos h4]; exact h.1, h.2⟩)
    clear h4
    go_enter Tryd.func23, Tryd.ntmps23
    go_wp2_with fail
    generalize ((w.alloc (.cells #[.int .i64 4, .int .i64 o] 51)).alloc (.cells #[.int .i64 0, .int .i64 0, .string ⟨#[]⟩, .slice none 0 0] 31)).alloc (.cells #[.string ⟨#[]⟩, .string ⟨#[97]⟩, .string ⟨#[98, 99]⟩, .string ⟨#[195, 169, 116, 195, 169]⟩, .string ⟨#[97, 32, 98]⟩, .string ⟨#[122, 122, 32, 116, 111, 112]⟩, .string ⟨#[48]⟩, .string ⟨#[45, 55]⟩] 9) = W3 at HS ⊢
    refine (HP.out _).mono ?_
    rintro e W4 ⟨rfl, rfl⟩
    obtain ⟨⟨e0, e1, e2, e3⟩, g0, g1, g2, g3⟩ := HS.out.out.facts
    go_wp2_with fail
    obtain ⟨hV, hB⟩ := HS.out.fin 0 0 ⟨#[]⟩
    unfold putBox at hV hB
    generalize (((W3.setCell ⟨w.heap.size + 1, 0, none⟩ (.int .i64 0)).setCell ⟨w.heap.size + 1, 1, none⟩ (.int .i64 0)).setCell ⟨w.heap.size + 1, 2, none⟩ (.string ⟨#[]⟩)).setCell ⟨w.heap.size + 1, 3, none⟩ (.slice none 0 0) = W9 at hV hB ⊢
    obtain ⟨⟨x0, x1, x2, x3⟩, _⟩ := hV.facts
    exact bodyPost_ret (v := valV 0 0 ⟨#[]⟩ (.slice none 0 0)) (by simp [results, Tryd.results23, go_sem, x0, x1, x2, x3]) rfl ⟨rfl, hB⟩
  · have d4 : (r == 4) = false := by rw [beq_eq_false_iff_ne]; exact h4
    refine (show Calls Tryd.prog 23 #[.agg #[.int .i64 4, .int .i64 o], .int .i64 n, .int .i64 many] w (fun e w' => e = .returned (valV 4 (1 + q) ⟨#[]⟩ (.slice none 0 0)) ∧ Below w.heap.size w w') from ?_).mono (fun e w' h => ⟨by rw [if_neg h4]; exact h.1, h.2⟩)
    clear h4
    go_enter Tryd.func23, Tryd.ntmps23
    go_wp2_with fail
    generalize ((w.alloc (.cells #[.int .i64 4, .int .i64 o] 51)).alloc (.cells #[.int .i64 0, .int .i64 0, .string ⟨#[]⟩, .slice none 0 0] 31)).alloc (.cells #[.string ⟨#[]⟩, .string ⟨#[97]⟩, .string ⟨#[98, 99]⟩, .string ⟨#[195, 169, 116, 195, 169]⟩, .string ⟨#[97, 32, 98]⟩, .string ⟨#[122, 122, 32, 116, 111, 112]⟩, .string ⟨#[48]⟩, .string ⟨#[45, 55]⟩] 9) = W3 at HS ⊢
    refine (HP.out _).mono ?_
    rintro e W4 ⟨rfl, rfl⟩
    obtain ⟨⟨e0, e1, e2, e3⟩, g0, g1, g2, g3⟩ := HS.out.out.facts
    obtain ⟨t0, t1⟩ := HS.out.tb.facts
    have t2 : W3.drew.cell? ⟨w.heap.size, 0, none⟩ = some (.int .i64 4) := t0
    go_wp2_with fail
    refine wp_region_T (fun W : World => W.cell? ⟨w.heap.size, 0, none⟩ = some (.int .i64 4)) (fun j => j == 7) (by kernel_rfl) ?_
    refine wpAnyT_take (i := 0) (v := ?v0) rfl (by kernel_rfl) (by kernel_rfl) (by kernel_rfl) (by kernel_rfl) (by kernel_rfl) (fun _ _ _ h => h) (Or.inl ⟨by rfl, ?y0⟩) (t2) ?r0
    case y0 => (intro w hSw; (try dsimp only at hSw); go_simp; try with_reducible rfl)
    try simp only [Act.put, List.setIfInBounds_toArray, List.set_cons_zero, List.set_cons_succ, List.getElem_toArray, List.getElem_cons_succ, List.getElem_cons_zero]
    refine wpAnyT_take (i := 1) (v := ?v1) rfl (by kernel_rfl) (by kernel_rfl) (by kernel_rfl) (by kernel_rfl) (by kernel_rfl) (fun _ _ _ h => h) (Or.inl ⟨by rfl, ?y1⟩) (t2) ?r1
    case y1 => (intro w hSw; (try dsimp only at hSw); go_simp; try with_reducible rfl)
    try simp only [Act.put, List.setIfInBounds_toArray, List.set_cons_zero, List.set_cons_succ, List.getElem_toArray, List.getElem_cons_succ, List.getElem_cons_zero]
    refine wpAnyT_take (i := 2) (v := ?v2) rfl (by kernel_rfl) (by kernel_rfl) (by kernel_rfl) (by kernel_rfl) (by kernel_rfl) (fun _ _ _ h => h) (Or.inl ⟨by rfl, ?y2⟩) (t2) ?r2
    case y2 => (intro w hSw; (try dsimp only at hSw); go_simp; try with_reducible rfl)
    try simp only [Act.put, List.setIfInBounds_toArray, List.set_cons_zero, List.set_cons_succ, List.getElem_toArray, List.getElem_cons_succ, List.getElem_cons_zero]
    refine wpAnyT_take (i := 3) (v := ?v3) rfl (by kernel_rfl) (by kernel_rfl) (by kernel_rfl) (by kernel_rfl) (by kernel_rfl) (fun _ _ _ h => h) (Or.inl ⟨by rfl, ?y3⟩) (t2) ?r3
    case y3 => (intro w hSw; (try dsimp only at hSw); go_simp; try with_reducible rfl)
    try simp only [Act.put, List.setIfInBounds_toArray, List.set_cons_zero, List.set_cons_succ, List.getElem_toArray, List.getElem_cons_succ, List.getElem_cons_zero]
    refine wpAnyT_run (i := 4) (by kernel_rfl) rfl (fun K hK => ?_)
    go_simp
    (refine (HQ.out _).mono ?_; rintro e Y1 ⟨rfl, rfl⟩)
    go_wp2_with fail
    refine hK.out _ _ (fun _ => t2) ?_
    clear hK K
    try simp only [Act.put, List.setIfInBounds_toArray, List.set_cons_zero, List.set_cons_succ, List.getElem_toArray, List.getElem_cons_succ, List.getElem_cons_zero]
    refine wpAnyT_run (i := 5) (by kernel_rfl) rfl (fun K hK => ?_)
    go_simp
    refine hK.out _ _ (fun _ => t2) ?_
    clear hK K
    try simp only [Act.put, List.setIfInBounds_toArray, List.set_cons_zero, List.set_cons_succ, List.getElem_toArray, List.getElem_cons_succ, List.getElem_cons_zero]
    refine wpAnyT_run (i := 6) (by kernel_rfl) rfl (fun K hK => ?_)
    go_simp
    refine hK.out _ _ (fun _ => t2) ?_
    clear hK K
    try simp only [Act.put, List.setIfInBounds_toArray, List.set_cons_zero, List.set_cons_succ, List.getElem_toArray, List.getElem_cons_succ, List.getElem_cons_zero]
    refine wpAnyT_run (i := 7) (by kernel_rfl) rfl (fun K hK => ?_)
    go_simp
    refine hK.out _ _ (fun h => absurd h (by decide)) ?_
    clear hK K
    try simp only [Act.put, List.setIfInBounds_toArray, List.set_cons_zero, List.set_cons_succ, List.getElem_toArray, List.getElem_cons_succ, List.getElem_cons_zero]
    refine wpAnyT_done (by kernel_rfl) ?_ _
    obtain ⟨hV, hB⟩ := HS.out.fin 4 (1 + q) ⟨#[]⟩
    have hV' := hV.below (Below.refl _ _).drew
    have hB' := hB.drew
    unfold putBox at hV' hB'
    go_wp2_with fail
    obtain ⟨⟨x0, x1, x2, x3⟩, _⟩ := hV'.facts
    exact bodyPost_ret (v := valV 4 (1 + q) ⟨#[]⟩ (.slice none 0 0)) (by simp [results, Tryd.results23, go_sem, x0, x1, x2, x3]) rfl ⟨rfl, hB'⟩

/-- ValOf of a type that is no list's -/
theorem valOf4_flat (k o n many : Int) (hk : 1 ≤ k ∧ k ≤ 4) (hn : -9223372036854775808 ≤ n ∧ n ≤ 9223372036854775807) (hm : 1 ≤ many ∧ many ≤ 1000) (w : World) :
    Calls Tryd.prog 23 #[.agg #[.int .i64 k, .int .i64 o], .int .i64 n, .int .i64 many] w fun e w' => e = .returned (itOf (vFlat k n many)).v ∧ Below w.heap.size w w' := by
  have hc : k = 1 ∨ k = 2 ∨ k = 3 ∨ k = 4 := by omega
  rcases hc with rfl | rfl | rfl | rfl
  · exact valOf4_num o n many hn w
  · exact valOf4_text o n many hn w
  · refine (valOf4_ref o n many hn hm w).mono ?_
    rintro e w' ⟨rfl, h⟩
    refine ⟨?_, h⟩
    unfold vFlat
    rw [if_neg (show ¬ (3 : Int) = 1 by decide), if_neg (show ¬ (3 : Int) = 2 by decide)]
    split <;> rfl
  · refine (valOf4_weak o n many hn hm w).mono ?_
    rintro e w' ⟨rfl, h⟩
    refine ⟨?_, h⟩
    unfold vFlat
    rw [if_neg (show ¬ (4 : Int) = 1 by decide), if_neg (show ¬ (4 : Int) = 2 by decide)]
    split <;> rfl
end Go.Proofs.YtffoklhopmhjaaaDoor

/- Cells of fields, and of values, one of which is turned; rows of one's own that are stored into. -/
set_option linter.unusedSimpArgs false
set_option linter.unusedVariables false
namespace Go.Proofs.YtffoklhopmhjaaaDoor
open Go Go.RowKit Go.Shelf

theorem flCells_set : ∀ (fs : List Fl) (k : Nat) (h : k < fs.length) (j : Nat) (hj : j < 4) (u : Value) (f : Fl), f.cells = (fs[k].cells).set j u → (flCells fs).set (k * 4 + j) u = flCells (fs.set k f)
  | g :: fs, 0, h, j, hj, u, f, he => by
    show (g.cells ++ flCells fs).set (0 * 4 + j) u = f.cells ++ flCells fs
    rw [Nat.zero_mul, Nat.zero_add, List.set_append_left _ _ (by simpa using hj), he]; rfl
  | g :: fs, k + 1, h, j, hj, u, f, he => by
    show (g.cells ++ flCells fs).set ((k + 1) * 4 + j) u = g.cells ++ flCells (fs.set k f)
    rw [List.set_append_right _ _ (by simp; omega), show (k + 1) * 4 + j - g.cells.length = k * 4 + j from by simp; omega, flCells_set fs k (by simpa using h) j hj u f he]
theorem itsCells_set : ∀ (ys : List It) (k : Nat) (h : k < ys.length) (j : Nat) (hj : j < 4) (u : Value) (y : It), y.cells = (ys[k].cells).set j u → (itsCells ys).set (k * 4 + j) u = itsCells (ys.set k y)
  | g :: ys, 0, h, j, hj, u, y, he => by
    show (g.cells ++ itsCells ys).set (0 * 4 + j) u = y.cells ++ itsCells ys
    rw [Nat.zero_mul, Nat.zero_add, List.set_append_left _ _ (by simpa using hj), he]; rfl
  | g :: ys, k + 1, h, j, hj, u, y, he => by
    show (g.cells ++ itsCells ys).set ((k + 1) * 4 + j) u = g.cells ++ itsCells (ys.set k y)
    rw [List.set_append_right _ _ (by simp; omega), show (k + 1) * 4 + j - g.cells.length = k * 4 + j from by simp; omega, itsCells_set ys k (by simpa using h) j hj u y he]
/-- all four cells of a value in a row -/
theorem itsCells_put (ys : List It) (k : Nat) (h : k < ys.length) (y : It) : ((((itsCells ys).set (k * 4) (.int .i64 y.k)).set (k * 4 + 1) (.int .i64 y.n)).set (k * 4 + 2) (.string y.s)).set (k * 4 + 3) (.slice y.p y.m y.c) = itsCells (ys.set k y) := by
  have h0 := itsCells_set ys k h 0 (by decide) (.int .i64 y.k) ⟨y.k, ys[k].n, ys[k].s, ys[k].p, ys[k].m, ys[k].c⟩ rfl
  have h1 := itsCells_set (ys.set k ⟨y.k, ys[k].n, ys[k].s, ys[k].p, ys[k].m, ys[k].c⟩) k (by simpa using h) 1 (by decide) (.int .i64 y.n) ⟨y.k, y.n, ys[k].s, ys[k].p, ys[k].m, ys[k].c⟩ (by rw [List.getElem_set_self]; rfl)
  rw [List.set_set] at h1
  have h2 := itsCells_set (ys.set k ⟨y.k, y.n, ys[k].s, ys[k].p, ys[k].m, ys[k].c⟩) k (by simpa using h) 2 (by decide) (.string y.s) ⟨y.k, y.n, y.s, ys[k].p, ys[k].m, ys[k].c⟩ (by rw [List.getElem_set_self]; rfl)
  rw [List.set_set] at h2
  have h3 := itsCells_set (ys.set k ⟨y.k, y.n, y.s, ys[k].p, ys[k].m, ys[k].c⟩) k (by simpa using h) 3 (by decide) (.slice y.p y.m y.c) y (by rw [List.getElem_set_self]; rfl)
  rw [List.set_set] at h3
  rw [Nat.add_zero] at h0
  rw [h0, h1, h2, h3]

/-- a row of fields of one's own -/
structure FOwn (base : Nat) (W : World) (g n c : Nat) (fs : List Fl) : Prop where
  len : n = fs.length
  row : W.ownsRow base 53 4 (.slice (some ⟨g, 0, none⟩) n c) n (flCells fs)
theorem FOwn.lies {base : Nat} {W : World} {g n c : Nat} {fs : List Fl} (h : FOwn base W g n c fs) : FLies W (some ⟨g, 0, none⟩) n c fs := by
  obtain ⟨rfl, h2⟩ := h
  exact ⟨rfl, Lies.own h2⟩
theorem FOwn.lt {base : Nat} {W : World} {g n c : Nat} {fs : List Fl} (h : FOwn base W g n c fs) : base ≤ g ∧ g < W.heap.size := h.row.lt g rfl
theorem FOwn.below {base : Nat} {W W' : World} {g n c : Nat} {fs : List Fl} (h : FOwn base W g n c fs) (hb : Below W.heap.size W W') : FOwn base W' g n c fs := ⟨h.len, owned_below h.row hb⟩
theorem FOwn.cell {base : Nat} {W : World} {g n c : Nat} {fs : List Fl} (h : FOwn base W g n c fs) (k : Nat) (hk : k < fs.length) (j : Nat) (v : Value) (hv : (fs[k].cells)[j]? = some v) : W.cell? ⟨g, k * 4 + j, none⟩ = some v :=
  owned_cell h.row (k * 4 + j) v (flCells_at fs k hk j v hv)
theorem FOwn.free {base : Nat} {W : World} {g n c : Nat} {fs : List Fl} (h : FOwn base W g n c fs) (j : Nat) : W.frozen? ⟨g, j, none⟩ = false := h.row.frozenAt j
theorem FOwn.set {base : Nat} {W : World} {g n c : Nat} {fs : List Fl} (h : FOwn base W g n c fs) (k : Nat) (hk : k < fs.length) (j : Nat) (hj : j < 4) (u : Value) (f : Fl) (hf : f.cells = (fs[k].cells).set j u) :
    FOwn base (W.setCell ⟨g, k * 4 + j, none⟩ u) g n c (fs.set k f) := by
  obtain ⟨e, h2⟩ := h
  have h3 := (h2.stored (k * 4 + j) u).1
  rw [flCells_set fs k hk j hj u f hf] at h3
  exact ⟨by rw [List.length_set]; exact e, h3⟩
/-- a row of values of one's own -/
structure VOwn (base : Nat) (W : World) (g n c : Nat) (ys : List It) : Prop where
  len : n = ys.length
  row : W.ownsRow base 31 4 (.slice (some ⟨g, 0, none⟩) n c) n (itsCells ys)
theorem VOwn.lt {base : Nat} {W : World} {g n c : Nat} {ys : List It} (h : VOwn base W g n c ys) : base ≤ g ∧ g < W.heap.size := h.row.lt g rfl
theorem VOwn.below {base : Nat} {W W' : World} {g n c : Nat} {ys : List It} (h : VOwn base W g n c ys) (hb : Below W.heap.size W W') : VOwn base W' g n c ys := ⟨h.len, owned_below h.row hb⟩
theorem VOwn.free {base : Nat} {W : World} {g n c : Nat} {ys : List It} (h : VOwn base W g n c ys) (j : Nat) : W.frozen? ⟨g, j, none⟩ = false := h.row.frozenAt j
theorem VOwn.put {base : Nat} {W : World} {g n c : Nat} {ys : List It} (h : VOwn base W g n c ys) (k : Nat) (hk : k < ys.length) (y : It) :
    VOwn base ((((W.setCell ⟨g, k * 4, none⟩ (.int .i64 y.k)).setCell ⟨g, k * 4 + 1, none⟩ (.int .i64 y.n)).setCell ⟨g, k * 4 + 2, none⟩ (.string y.s)).setCell ⟨g, k * 4 + 3, none⟩ (.slice y.p y.m y.c)) g n c (ys.set k y) := by
  obtain ⟨e, h2⟩ := h
  have h3 := ((((h2.stored (k * 4) (.int .i64 y.k)).1.stored (k * 4 + 1) (.int .i64 y.n)).1.stored (k * 4 + 2) (.string y.s)).1.stored (k * 4 + 3) (.slice y.p y.m y.c)).1
  rw [itsCells_put ys k hk y] at h3
  exact ⟨by rw [List.length_set]; exact e, h3⟩

/-- what ClassOnce tells of a class with one thing turned -/
theorem once_twice {nm : ByteArray} {fs : List Fl} (hok : (Cl.mk nm fs).ok = true) (k : Nat) (hk : k < fs.length) : (Cl.mk nm (fs ++ [⟨fs[k].nm, 1, 0, false⟩])).ok = false := twice_bad nm (good_of_ok hok) k hk _ rfl
theorem once_odd {nm : ByteArray} {fs : List Fl} (hok : (Cl.mk nm fs).ok = true) (hs : ∀ f ∈ fs, f.nm.size ≤ 8) (k : Nat) (hk : k < fs.length) (b : UInt8) :
    (Cl.mk nm (fs.set k { fs[k] with nm := fs[k].nm ++ ⟨#[b]⟩ })).ok = (inNm b && (fieldAt fs (fs[k].nm ++ ⟨#[b]⟩)).isNone) := by
  have hp := Cl.ok_parts hok
  have hn : nmOk nm.data.toList = true := by
    unfold Cl.ok at hok
    rw [Bool.and_eq_true, Bool.and_eq_true] at hok
    exact hok.1.1
  rw [other_name hn (good_of_ok hok) hp.2.1 k hk _ (fun e => by
    have h2 : (fs[k].nm ++ (⟨#[b]⟩ : ByteArray)).size = fs[k].nm.size := congrArg ByteArray.size e
    rw [ByteArray.size_append] at h2
    have h3 : (⟨#[b]⟩ : ByteArray).size = 1 := rfl
    omega)]
  congr 1
  obtain ⟨_, _, h1, h2, _⟩ := Fl.ok_parts (hp.2.2 k hk).1
  have h4 := (hp.2.2 k hk).1
  have hsz := hs _ (List.getElem_mem hk)
  unfold Fl.ok at h4 ⊢
  rw [Bool.and_eq_true, Bool.and_eq_true] at h4
  show (nmOk (fs[k].nm ++ (⟨#[b]⟩ : ByteArray)).data.toList && rtB fs[k].k fs[k].o && (!fs[k].ix || mayIx fs[k].k)) = inNm b
  have e : (fs[k].nm ++ (⟨#[b]⟩ : ByteArray)).data.toList = fs[k].nm.data.toList ++ [b] := by simp [ByteArray.data_append]
  rw [h4.1.2, h4.2, Bool.and_true, Bool.and_true, e]
  exact nmOk_snoc (show nmOk fs[k].nm.data.toList = true from h1) (show fs[k].nm.data.toList.length ≤ 19 by rw [nm_size]; omega) b
theorem once_wide (nm : ByteArray) {fs : List Fl} (k : Nat) (hk : k < fs.length) : (Cl.mk nm (fs.set k { fs[k] with k := 5, o := 1, ix := true })).ok = false := by
  refine bad_field nm k (by simpa using hk) ?_
  rw [List.getElem_set_self]
  show (nmOk _ && rtB 5 1 && (!true || mayIx 5)) = false
  rw [show (!true || mayIx 5) = false from rfl, Bool.and_false]
theorem once_flat {nm : ByteArray} {fs : List Fl} (hok : (Cl.mk nm fs).ok = true) (k : Nat) (hk : k < fs.length) : (Cl.mk nm (fs.set k { fs[k] with k := 5, o := 1, ix := false })).ok = true := by
  have hp := Cl.ok_parts hok
  have hn : nmOk nm.data.toList = true := by
    unfold Cl.ok at hok
    rw [Bool.and_eq_true, Bool.and_eq_true] at hok
    exact hok.1.1
  refine same_name hn (good_of_ok hok) hp.2.1 k hk _ ?_ rfl
  obtain ⟨_, _, h1, h2, _⟩ := Fl.ok_parts (hp.2.2 k hk).1
  show (nmOk fs[k].nm.data.toList && rtB 5 1 && (!false || mayIx 5)) = true
  rw [h1]; rfl
theorem once_place {nm : ByteArray} {fs : List Fl} (hok : (Cl.mk nm fs).ok = true) (k : Nat) (hk : k < fs.length) : fieldAt fs fs[k].nm = some k := ((Cl.ok_parts hok).2.2 k hk).2
theorem clsOf_names (x : CRaw) : ∀ f ∈ (clsOf x).fs, f.nm.size ≤ 8 := flds_name_len x.l 6
end Go.Proofs.YtffoklhopmhjaaaDoor

/- morainelaw04.ValOf: lists. -/
set_option linter.unusedSimpArgs false
set_option linter.unusedVariables false
namespace Go.Proofs.YtffoklhopmhjaaaDoor
open Go Go.RowKit Go.Shelf

theorem infoVal4 : (Tryd.prog.info? 31).map (fun i => (i.zero, i.size, i.bytes)) = some (some (.agg #[.int .i64 0, .int .i64 0, .string ⟨#[]⟩, .slice none 0 0]), 4, 56) := by kernel_rfl
theorem its_app (xs ys : List It) : itsCells (xs ++ ys) = itsCells xs ++ itsCells ys := by
  induction xs with
  | nil => rfl
  | cons x xs ih => show x.cells ++ itsCells (xs ++ ys) = (x.cells ++ itsCells xs) ++ itsCells ys; rw [ih, List.append_assoc]
theorem lies_over {W : World} {v : Value} {n size : Nat} {xs : List Value} (h : Lies W v n size xs) (q : Addr) (hne : ∀ a m c, v = .slice (some a) m c → a.block ≠ q.block) (u : Value) : Lies (W.setCell q u) v n size xs := by
  obtain ⟨h1, h2 | ⟨b, off, c, hv, hlt, hc⟩⟩ := h
  · exact ⟨h1, .inl h2⟩
  · refine ⟨h1, .inr ⟨b, off, c, hv, by simpa using hlt, fun j u' hu => ?_⟩⟩
    rw [World.cell?_of_block (Below.heap_setCell W q u b (hne _ _ _ hv))]
    exact hc j u' hu
theorem vat_items {W : World} {p : Option Addr} {c : Nat} {us : List V} (hl : us.length ≤ 12) (hf : ∀ u ∈ us, u.fine ∧ u.l = []) (hL : Lies W (.slice p us.length c) us.length 4 (itsCells (us.map itOf))) : VAt 1 W (.mk 5 0 ⟨#[]⟩ us) ⟨5, 0, ⟨#[]⟩, p, us.length, c⟩ := by
  refine ⟨⟨by show (_ : Int) ≤ 5 ∧ (5 : Int) ≤ _; decide, by show (_ : Int) ≤ 0 ∧ (0 : Int) ≤ _; decide, by show (⟨#[]⟩ : ByteArray).size ≤ _; decide, by show us.length ≤ _; omega⟩, rfl, rfl, rfl, us.map itOf, by show (us.map itOf).length = us.length; simp, ?_, fun i h h' => ?_⟩
  · rw [List.length_map]; exact hL
  · rw [List.getElem_map]
    have h2 : i < us.length := h'
    exact vat_none 0 W (hf _ (List.getElem_mem h2)).1 (hf _ (List.getElem_mem h2)).2
/-- what ValOf answers -/
def valOf4Post (k o n many : Int) (w : World) (e : Ending) (w' : World) : Prop :=
  ∃ y : It, e = .returned y.v ∧ VAt 1 w' (vOf k o n many) y ∧ Below w.heap.size w w' ∧ ∀ a, y.p = some a → w.heap.size ≤ a.block ∧ a.block < w'.heap.size
structure VlSt (w : World) (o : Int) (us : List V) (v : Value) (W : World) : Prop where
  tb : TBox W w.heap.size 5 o
  out : VBox W (w.heap.size + 1) 0 0 ⟨#[]⟩ (.slice none 0 0)
  box : VBox W (w.heap.size + 3) 5 0 ⟨#[]⟩ v
  own : W.ownsRow (w.heap.size + 4) 31 4 v us.length (itsCells (us.map itOf))
  below : Below w.heap.size w W
section
variable {w : World} {o : Int} {us : List V} {v : Value} {W W' : World}
theorem VlSt.go (h : VlSt w o us v W) (hb : Below W.heap.size W W') : VlSt w o us v W' := ⟨h.tb.below hb, h.out.below hb, h.box.below hb, owned_below h.own hb, h.below.trans (hb.mono h.below.size)⟩
theorem VlSt.next {v' : Value} {u : V} (h : VlSt w o us v W) (hg : W.grownBy W' v.ownBlock)
    (hown : W'.ownsRow (w.heap.size + 4) 31 4 v' (us.length + 1) (itsCells (us.map itOf) ++ [.int .i64 u.k, .int .i64 u.n, .string u.s, .slice none 0 0])) : VlSt w o (us ++ [u]) v' (W'.setCell ⟨w.heap.size + 3, 3, none⟩ v') := by
  obtain ⟨h1, h2, h3, h4, h5⟩ := h
  have hgo : ∀ g, v.ownBlock = some g → w.heap.size + 4 ≤ g := fun g hg' => (h4.lt g hg').1
  have k1 : TBox W' w.heap.size 5 o := (hg.block _ h1.lt (fun e => by have := hgo _ e.symm; omega)).trans h1
  have k2 : VBox W' (w.heap.size + 1) 0 0 ⟨#[]⟩ (.slice none 0 0) := (hg.block _ h2.lt (fun e => by have := hgo _ e.symm; omega)).trans h2
  have k3 : VBox W' (w.heap.size + 3) 5 0 ⟨#[]⟩ v := (hg.block _ h3.lt (fun e => by have := hgo _ e.symm; omega)).trans h3
  have k5 : Below w.heap.size w W' := h5.grown hg h5.size (fun g hg' => by have := hgo g hg'; omega)
  refine ⟨k1.past _ (by show w.heap.size ≠ w.heap.size + 3; omega) _, k2.past _ (by show w.heap.size + 1 ≠ w.heap.size + 3; omega) _, k3.set3 v', ?_, k5.setCell (p := ⟨w.heap.size + 3, 3, none⟩) (by show w.heap.size ≤ w.heap.size + 3; omega) _⟩
  have e : itsCells ((us ++ [u]).map itOf) = itsCells (us.map itOf) ++ [.int .i64 u.k, .int .i64 u.n, .string u.s, .slice none 0 0] := by
    rw [List.map_append, its_app]; rfl
  rw [e, List.length_append, List.length_singleton]
  refine hown.kept (row := some (w.heap.size + 3)) ⟨rfl, rfl, rfl, by simp, fun k hk hne => Below.heap_setCell W' ⟨w.heap.size + 3, 3, none⟩ v' k (fun e => hne (by rw [e]))⟩ ?_
  rcases hown.2 with ⟨rfl, _⟩ | ⟨g, cap, cur, rfl, hg, _⟩
  · exact .inl rfl
  · exact .inr (fun e => by have e2 : g = w.heap.size + 3 := Option.some.inj e; omega)
end
theorem tdiv4_bd {n : Int} (hn : -9223372036854775808 ≤ n ∧ n ≤ 9223372036854775807) : -2305843009213693952 ≤ n.tdiv 4 ∧ n.tdiv 4 ≤ 2305843009213693951 := by
  rcases Int.le_total 0 n with h | h
  · rw [Int.tdiv_eq_ediv_of_nonneg h]; omega
  · have e : n.tdiv 4 = -((-n) / 4) := by rw [← Int.tdiv_eq_ediv_of_nonneg (by omega : 0 ≤ -n), Int.neg_tdiv]; omega
    rw [e]; omega

set_option maxHeartbeats 8000000 in
set_option maxRecDepth 100000 in
theorem valOf4_list (o n many : Int) (ho : 1 ≤ o ∧ o ≤ 4) (hn : -9223372036854775808 ≤ n ∧ n ≤ 9223372036854775807) (hm : 1 ≤ many ∧ many ≤ 1000) (w : World) :
    Calls Tryd.prog 23 #[.agg #[.int .i64 5, .int .i64 o], .int .i64 n, .int .i64 many] w (valOf4Post 5 o n many w) := by
  obtain ⟨i0, hi, hz0, hz1, hz2⟩ := info_parts infoVal4
  have hp := fun W => pick4_any n 4 hn.1 hn.2 (by decide) (by decide) W
  have hb := pickI_bd n 4 (by decide)
  have hd4 := tdiv4_bd hn
  have hof : vOf 5 o n many = .mk 5 0 ⟨#[]⟩ (vItems o n many (pickI n 4).toNat) := by unfold vOf; rw [if_pos rfl]
  have hone : ∀ (i : Nat) (hi : i < 4) W, Calls Tryd.prog 23 #[.agg #[.int .i64 o, .int .i64 0], .int .i64 (n.tdiv 4 + (i : Int)), .int .i64 many] W fun e w' => e = .returned (itOf (vFlat o (n.tdiv 4 + (i : Int)) many)).v ∧ Below W.heap.size W w' := fun i hi W =>
    valOf4_flat o 0 _ many ho (by omega) hm W
  have hsucc := vItems_succ o n many
  have hlen := vItems_len o n many
  have hflat : ∀ m, ∀ u ∈ vItems o n many m, u.fine ∧ u.l = [] := fun m u hu => by
    unfold vItems at hu
    obtain ⟨j, _, rfl⟩ := List.mem_map.1 hu
    exact ⟨vFlat_fine ho _ hm, vFlat_l _ _ _⟩
  have hS : VlSt w o (vItems o n many 0) (.slice none 0 0) ((((w.alloc (.cells #[.int .i64 5, .int .i64 o] 51)).alloc (.cells #[.int .i64 0, .int .i64 0, .string ⟨#[]⟩, .slice none 0 0] 31)).alloc (.cells #[.string ⟨#[]⟩, .string ⟨#[97]⟩, .string ⟨#[98, 99]⟩, .string ⟨#[195, 169, 116, 195, 169]⟩, .string ⟨#[97, 32, 98]⟩, .string ⟨#[122, 122, 32, 116, 111, 112]⟩, .string ⟨#[48]⟩, .string ⟨#[45, 55]⟩] 9)).alloc (.cells #[.int .i64 5, .int .i64 0, .string ⟨#[]⟩, .slice none 0 0] 31)) := by
    have h := VoSt.new w 5 o
    unfold vtexts8 at h
    refine ⟨h.tb.alloc _, h.out.alloc _, ?_, World.ownsRow_nil _ _ _ _, h.below.alloc h.below.size _⟩
    have h2 := VBox.new (((w.alloc (.cells #[.int .i64 5, .int .i64 o] 51)).alloc (.cells #[.int .i64 0, .int .i64 0, .string ⟨#[]⟩, .slice none 0 0] 31)).alloc (.cells #[.string ⟨#[]⟩, .string ⟨#[97]⟩, .string ⟨#[98, 99]⟩, .string ⟨#[195, 169, 116, 195, 169]⟩, .string ⟨#[97, 32, 98]⟩, .string ⟨#[122, 122, 32, 116, 111, 112]⟩, .string ⟨#[48]⟩, .string ⟨#[45, 55]⟩] 9)) 5 0 ⟨#[]⟩ (.slice none 0 0)
    rwa [World.size_alloc, World.size_alloc, World.size_alloc] at h2
  rw [show valOf4Post 5 o n many w = fun e w' => ∃ y : It, e = .returned y.v ∧ VAt 1 w' (.mk 5 0 ⟨#[]⟩ (vItems o n many (pickI n 4).toNat)) y ∧ Below w.heap.size w w' ∧ ∀ a, y.p = some a → w.heap.size ≤ a.block ∧ a.block < w'.heap.size from by funext e w'; unfold valOf4Post; rw [hof]]
  clear hof
  obtain ⟨m, hm4⟩ : ∃ m : Nat, pickI n 4 = (m : Int) := ⟨(pickI n 4).toNat, by omega⟩
  rw [hm4] at hp hb ⊢
  rw [Int.toNat_natCast]
  have hml : m < 4 := by omega
  have hwd : IntKind.i64.wrap (n.tdiv 4) = n.tdiv 4 := IntWalk.i64_in _ (by omega)
  have hwi : ∀ i : Nat, i < 4 → IntKind.i64.wrap (n.tdiv 4 + (i : Int)) = n.tdiv 4 + (i : Int) := fun i h => IntWalk.i64_in _ (by omega)
  have HP := Lib.hid hp
  have HONE := Lib.hid hone
  have HSUCC := Lib.hid hsucc
  have HLEN := Lib.hid hlen
  have HFLAT := Lib.hid hflat
  have HS := Lib.hid hS
  have HWI := Lib.hid hwi
  clear hp hone hsucc hlen hflat hS hwi hb hm4 hd4 hn hm
  go_enter Tryd.func23, Tryd.ntmps23
  go_wp2_with fail
  generalize (((w.alloc (.cells #[.int .i64 5, .int .i64 o] 51)).alloc (.cells #[.int .i64 0, .int .i64 0, .string ⟨#[]⟩, .slice none 0 0] 31)).alloc (.cells #[.string ⟨#[]⟩, .string ⟨#[97]⟩, .string ⟨#[98, 99]⟩, .string ⟨#[195, 169, 116, 195, 169]⟩, .string ⟨#[97, 32, 98]⟩, .string ⟨#[122, 122, 32, 116, 111, 112]⟩, .string ⟨#[48]⟩, .string ⟨#[45, 55]⟩] 9)).alloc (.cells #[.int .i64 5, .int .i64 0, .string ⟨#[]⟩, .slice none 0 0] 31) = W3 at HS ⊢
  go_loopw [9] (fun s wr => ∃ (i : Nat) (v : Value), i ≤ m ∧ s = .int .i64 (i : Int) ∧ VlSt w o (vItems o n many i) v wr) (fun s _ => 4 - (intOf s).toNat)
  case atStart => exact ⟨0, _, by omega, rfl, HS.out⟩
  case round =>
    obtain ⟨i, v, him, rfl, hst⟩ := hrel
    clear HS
    obtain ⟨vp, vc, hv⟩ : ∃ vp vc, v = .slice vp i vc := by
      have hown := hst.own
      rw [HLEN.out] at hown
      rcases hown.2 with ⟨h, h'⟩ | ⟨g, cap, _, h, _⟩
      · exact ⟨none, 0, by rw [h, h']⟩
      · exact ⟨_, _, h⟩
    subst hv
    go_wp2_with fail
    refine (HP.out _).mono ?_
    rintro e W4 ⟨rfl, rfl⟩
    obtain ⟨tk0, tk1⟩ := hst.tb.facts
    obtain ⟨⟨c0, c1, c2, c3⟩, f0, f1, f2, f3⟩ := hst.box.facts
    obtain ⟨⟨e0, e1, e2, e3⟩, g0, g1, g2, g3⟩ := hst.out.facts
    have hz := hst.box.lt
    have ST := Lib.hid hst
    clear hst
    by_cases hlt : i < m
    · have d1 : decide ((i : Int) < (m : Int)) = true := decide_eq_true (by omega)
      have d1' : (i : Int) < (m : Int) := by omega
      have hw1 := HWI.out i (by omega)
      have hcall := HONE.out i (by omega)
      have hsucc := HSUCC.out i
      generalize vFlat o (n.tdiv 4 + (i : Int)) many = u at hcall hsucc
      obtain ⟨uk, un, us, ul⟩ := u
      simp only [itOf, V.k, V.n, V.s, It.v] at hcall
      have hsw : ∀ W W' : World, (W.cell? ⟨w.heap.size, 1, none⟩ = some (.int .i64 o) ∧ W.cell? ⟨w.heap.size + 1 + 1 + 1, 3, none⟩ = some (.slice vp i vc) ∧ w.heap.size + 1 + 1 + 1 < W.heap.size) → Below W.heap.size W W' → (W'.cell? ⟨w.heap.size, 1, none⟩ = some (.int .i64 o) ∧ W'.cell? ⟨w.heap.size + 1 + 1 + 1, 3, none⟩ = some (.slice vp i vc) ∧ w.heap.size + 1 + 1 + 1 < W'.heap.size) := by
        rintro W W' ⟨a1, a2, z1⟩ hB
        have hs := hB.size
        exact ⟨(hB.cell (p := ⟨w.heap.size, 1, none⟩) (by show w.heap.size < _; omega)).trans a1, (hB.cell (p := ⟨w.heap.size + 1 + 1 + 1, 3, none⟩) z1).trans a2, by omega⟩
      have hS1 := hsw wr wr.drew ⟨tk1, c3, hz⟩ (Below.refl _ _).drew
      have hgo : ∀ g, (Value.slice vp i vc).ownBlock = some g → w.heap.size + 4 ≤ g := fun g hg' => (ST.out.own.lt g hg').1
      have hvg : ∀ W1 W2, Below wr.drew.heap.size wr.drew W1 → (W1.alloc (.cells #[.int .i64 uk, .int .i64 un, .string us, .slice none 0 0] 31)).grownBy W2 (Value.slice vp i vc).ownBlock → W2.cell? ⟨w.heap.size + 1 + 1 + 1, 3, none⟩ = some (.slice vp i vc) ∧ W2.frozen? ⟨w.heap.size + 1 + 1 + 1, 3, none⟩ = false := fun W1 W2 h hg => by
        have h0 := (((ST.out.go (Below.refl _ _).drew).go h).go ((Below.refl _ W1).alloc (Nat.le_refl _) (.cells #[.int .i64 uk, .int .i64 un, .string us, .slice none 0 0] 31))).box
        have : VBox W2 (w.heap.size + 3) 5 0 ⟨#[]⟩ (.slice vp i vc) := (hg.block _ h0.lt (fun e => by have := hgo _ e.symm; omega)).trans h0
        exact ⟨this.facts.1.2.2.2, this.facts.2.2.2.2⟩
      have howd : ∀ W1, Below wr.drew.heap.size wr.drew W1 → (W1.alloc (.cells #[.int .i64 uk, .int .i64 un, .string us, .slice none 0 0] 31)).ownsRow (w.heap.size + 4) 31 4 (.slice vp i vc) i (itsCells ((vItems o n many i).map itOf)) := fun W1 h => by
        have h4 := ((ST.out.go (Below.refl _ _).drew).go h).own
        rw [HLEN.out] at h4
        exact h4.alloc _
      have hnext : ∀ W1 W2 (v' : Value), Below wr.drew.heap.size wr.drew W1 → (W1.alloc (.cells #[.int .i64 uk, .int .i64 un, .string us, .slice none 0 0] 31)).grownBy W2 (Value.slice vp i vc).ownBlock → W2.ownsRow (w.heap.size + 4) 31 4 v' (i + 1) (itsCells ((vItems o n many i).map itOf) ++ [.int .i64 uk, .int .i64 un, .string us, .slice none 0 0]) → VlSt w o (vItems o n many (i + 1)) v' (W2.setCell ⟨w.heap.size + 3, 3, none⟩ v') := fun W1 W2 v' h1 h2 h3 => by
        rw [hsucc]
        have h4 := ((ST.out.go (Below.refl _ _).drew).go h1).go ((Below.refl _ W1).alloc (Nat.le_refl _) (.cells #[.int .i64 uk, .int .i64 un, .string us, .slice none 0 0] 31))
        exact h4.next (u := .mk uk un us ul) h2 (by rw [HLEN.out]; exact h3)
      have hzd : wr.drew.heap.size = wr.heap.size := rfl
      have HSW := Lib.hid hsw
      have HVG := Lib.hid hvg
      have HOWD := Lib.hid howd
      have HNEXT := Lib.hid hnext
      have HC := Lib.hid hcall
      clear hsw hvg hgo howd hnext hcall hsucc e0 e1 e2 e3 g0 g1 g2 g3 f0 f1 f2 c0 c1 c2
      go_wp2_with fail
      refine wp_region_T (fun W : World => W.cell? ⟨w.heap.size, 1, none⟩ = some (.int .i64 o) ∧ W.cell? ⟨w.heap.size + 1 + 1 + 1, 3, none⟩ = some (.slice vp i vc) ∧ w.heap.size + 1 + 1 + 1 < W.heap.size) (fun j => j == 12 || j == 13 || j == 14) (by kernel_rfl) ?_
      refine wpAnyT_take (i := 0) (v := ?v0) rfl (by kernel_rfl) (by kernel_rfl) (by kernel_rfl) (by kernel_rfl) (by kernel_rfl) (fun _ _ _ h => h) (Or.inl ⟨by rfl, ?y0⟩) (hS1) ?r0
      case y0 => (intro w hSw; (try dsimp only at hSw); go_simp; try with_reducible rfl)
      try simp only [Act.put, List.setIfInBounds_toArray, List.set_cons_zero, List.set_cons_succ, List.getElem_toArray, List.getElem_cons_succ, List.getElem_cons_zero]
      refine wpAnyT_take (i := 1) (v := ?v1) rfl (by kernel_rfl) (by kernel_rfl) (by kernel_rfl) (by kernel_rfl) (by kernel_rfl) (fun _ _ _ h => h) (Or.inl ⟨by rfl, ?y1⟩) (hS1) ?r1
      case y1 => (intro w hSw; (try dsimp only at hSw); go_simp; try with_reducible rfl)
      try simp only [Act.put, List.setIfInBounds_toArray, List.set_cons_zero, List.set_cons_succ, List.getElem_toArray, List.getElem_cons_succ, List.getElem_cons_zero]
      refine wpAnyT_take (i := 2) (v := ?v2) rfl (by kernel_rfl) (by kernel_rfl) (by kernel_rfl) (by kernel_rfl) (by kernel_rfl) (fun _ _ _ h => h) (Or.inl ⟨by rfl, ?y2⟩) (hS1) ?r2
      case y2 => (intro w hSw; (try dsimp only at hSw); go_simp; try with_reducible rfl)
      try simp only [Act.put, List.setIfInBounds_toArray, List.set_cons_zero, List.set_cons_succ, List.getElem_toArray, List.getElem_cons_succ, List.getElem_cons_zero]
      refine wpAnyT_take (i := 3) (v := ?v3) rfl (by kernel_rfl) (by kernel_rfl) (by kernel_rfl) (by kernel_rfl) (by kernel_rfl) (fun _ _ _ h => h) (Or.inl ⟨by rfl, ?y3⟩) (hS1) ?r3
      case y3 => (intro w hSw; (try dsimp only at hSw); go_simp; try with_reducible rfl)
      try simp only [Act.put, List.setIfInBounds_toArray, List.set_cons_zero, List.set_cons_succ, List.getElem_toArray, List.getElem_cons_succ, List.getElem_cons_zero]
      refine wpAnyT_take (i := 4) (v := ?v4) rfl (by kernel_rfl) (by kernel_rfl) (by kernel_rfl) (by kernel_rfl) (by kernel_rfl) (fun _ _ _ h => h) (Or.inl ⟨by rfl, ?y4⟩) (hS1) ?r4
      case y4 => (intro w hSw; (try dsimp only at hSw); go_simp; try with_reducible rfl)
      try simp only [Act.put, List.setIfInBounds_toArray, List.set_cons_zero, List.set_cons_succ, List.getElem_toArray, List.getElem_cons_succ, List.getElem_cons_zero]
      refine wpAnyT_take (i := 5) (v := ?v5) rfl (by kernel_rfl) (by kernel_rfl) (by kernel_rfl) (by kernel_rfl) (by kernel_rfl) (fun _ _ _ h => h) (Or.inl ⟨by rfl, ?y5⟩) (hS1) ?r5
      case y5 => (intro w hSw; (try dsimp only at hSw); go_simp; try with_reducible rfl)
      try simp only [Act.put, List.setIfInBounds_toArray, List.set_cons_zero, List.set_cons_succ, List.getElem_toArray, List.getElem_cons_succ, List.getElem_cons_zero]
      refine wpAnyT_take (i := 6) (v := ?v6) rfl (by kernel_rfl) (by kernel_rfl) (by kernel_rfl) (by kernel_rfl) (by kernel_rfl) (fun _ _ _ h => h) (Or.inl ⟨by rfl, ?y6⟩) (hS1) ?r6
      case y6 => (intro w hSw; (try dsimp only at hSw); go_simp; try with_reducible rfl)
      try simp only [Act.put, List.setIfInBounds_toArray, List.set_cons_zero, List.set_cons_succ, List.getElem_toArray, List.getElem_cons_succ, List.getElem_cons_zero]
      refine wpAnyT_take (i := 7) (v := ?v7) rfl (by kernel_rfl) (by kernel_rfl) (by kernel_rfl) (by kernel_rfl) (by kernel_rfl) (fun _ _ _ h => h) (Or.inl ⟨by rfl, ?y7⟩) (hS1) ?r7
      case y7 => (intro w hSw; (try dsimp only at hSw); go_simp; try with_reducible rfl)
      try simp only [Act.put, List.setIfInBounds_toArray, List.set_cons_zero, List.set_cons_succ, List.getElem_toArray, List.getElem_cons_succ, List.getElem_cons_zero]
      refine wpAnyT_take (i := 8) (v := ?v8) rfl (by kernel_rfl) (by kernel_rfl) (by kernel_rfl) (by kernel_rfl) (by kernel_rfl) (fun _ _ _ h => h) (Or.inl ⟨by rfl, ?y8⟩) (hS1) ?r8
      case y8 => (intro w hSw; (try dsimp only at hSw); go_simp; try with_reducible rfl)
      try simp only [Act.put, List.setIfInBounds_toArray, List.set_cons_zero, List.set_cons_succ, List.getElem_toArray, List.getElem_cons_succ, List.getElem_cons_zero]
      refine wpAnyT_take (i := 9) (v := ?v9) rfl (by kernel_rfl) (by kernel_rfl) (by kernel_rfl) (by kernel_rfl) (by kernel_rfl) (fun _ _ _ h => h) (Or.inl ⟨by rfl, ?y9⟩) (hS1) ?r9
      case y9 => (intro w hSw; (try dsimp only at hSw); go_simp; try with_reducible rfl)
      try simp only [Act.put, List.setIfInBounds_toArray, List.set_cons_zero, List.set_cons_succ, List.getElem_toArray, List.getElem_cons_succ, List.getElem_cons_zero]
      refine wpAnyT_run (i := 10) (by kernel_rfl) rfl (fun K hK => ?_)
      go_simp
      (refine (HC.out _).mono ?_; rintro e W1 ⟨rfl, hB1⟩)
      have hS2 := HSW.out _ _ hS1 hB1
      go_wp2_with fail
      refine hK.out _ _ (fun _ => hS2) ?_
      clear hK K
      try simp only [Act.put, List.setIfInBounds_toArray, List.set_cons_zero, List.set_cons_succ, List.getElem_toArray, List.getElem_cons_succ, List.getElem_cons_zero]
      refine wpAnyT_run (i := 11) (by kernel_rfl) rfl (fun K hK => ?_)
      go_simp
      refine hK.out _ _ (fun _ => HSW.out _ _ hS2 ((Below.refl _ _).alloc (Nat.le_refl _) _)) ?_
      clear hK K
      try simp only [Act.put, List.setIfInBounds_toArray, List.set_cons_zero, List.set_cons_succ, List.getElem_toArray, List.getElem_cons_succ, List.getElem_cons_zero]
      refine wpAnyT_run (i := 12) (by kernel_rfl) rfl (fun K hK => ?_)
      (refine step_append_lies _ (by rfl) _ _ _ (by rfl) (w.heap.size + 4) 31 i0 _ 4 56 Tryd.underlying29 hi hz0 hz1 hz2 rfl (by omega) _ i _ (by rfl) (HOWD.out _ hB1) ⟨W1.heap.size, 0, none⟩ 1 1 [.int .i64 uk, .int .i64 un, .string us, .slice none 0 0] (by rfl) (by rfl) (World.news_of_block (cs := #[.int .i64 uk, .int .i64 un, .string us, .slice none 0 0]) (t := 31) (fr := (0, 0)) (heap_alloc_new W1 _)) (by simp [Value.oneCell']) (by omega) (by simp [maxLen]; omega) (by omega) (by have := hB1.size; simp; omega) (W1.heap.size + 1) (by simp) ?_; intro gg cap w2 hown1 hgrow hat hlt2)
      obtain ⟨q3, q4⟩ := HVG.out _ _ hB1 hgrow
      refine hK.out _ _ (fun h => absurd h (by decide)) ?_
      clear hK K
      try simp only [Act.put, List.setIfInBounds_toArray, List.set_cons_zero, List.set_cons_succ, List.getElem_toArray, List.getElem_cons_succ, List.getElem_cons_zero]
      refine wpAnyT_run (i := 13) (by kernel_rfl) rfl (fun K hK => ?_)
      go_simp
      refine hK.out _ _ (fun h => absurd h (by decide)) ?_
      clear hK K
      try simp only [Act.put, List.setIfInBounds_toArray, List.set_cons_zero, List.set_cons_succ, List.getElem_toArray, List.getElem_cons_succ, List.getElem_cons_zero]
      refine wpAnyT_run (i := 14) (by kernel_rfl) rfl (fun K hK => ?_)
      go_simp
      refine hK.out _ _ (fun h => absurd h (by decide)) ?_
      clear hK K
      try simp only [Act.put, List.setIfInBounds_toArray, List.set_cons_zero, List.set_cons_succ, List.getElem_toArray, List.getElem_cons_succ, List.getElem_cons_zero]
      refine wpAnyT_done (by kernel_rfl) ?_ _
      go_wp2_with fail
      exact ⟨⟨i + 1, _, by omega, by go_num, HNEXT.out _ _ _ hB1 hgrow hown1⟩, by simp [intOf]; omega⟩
    · obtain rfl : i = m := by omega
      have d1 : decide ((i : Int) < (i : Int)) = false := decide_eq_false (by omega)
      go_wp2_with fail
      have hown := ST.out.own
      have hL : Lies wr (.slice vp i vc) i 4 (itsCells ((vItems o n many i).map itOf)) := by
        have := Lies.own hown
        rwa [HLEN.out] at this
      have hne : ∀ a m' c', (Value.slice vp i vc) = .slice (some a) m' c' → w.heap.size + 4 ≤ a.block := fun a m' c' ha => by
        injection ha with h1 _ _
        exact (hown.lt a.block (by rw [h1]; rfl)).1
      have hne2 : ∀ a m' c', (Value.slice vp i vc) = .slice (some a) m' c' → a.block ≠ w.heap.size + 1 := fun a m' c' ha => by have := hne a m' c' ha; omega
      have hL9 := lies_over (lies_over (lies_over (lies_over hL ⟨w.heap.size + 1, 0, none⟩ hne2 (.int .i64 5)) ⟨w.heap.size + 1, 1, none⟩ hne2 (.int .i64 0)) ⟨w.heap.size + 1, 2, none⟩ hne2 (.string ⟨#[]⟩)) ⟨w.heap.size + 1, 3, none⟩ hne2 (.slice vp i vc)
      have hVo := ST.out.out.put 5 0 ⟨#[]⟩ (.slice vp i vc)
      have hBo := below_put ST.out.below (show w.heap.size ≤ w.heap.size + 1 by omega) 5 0 ⟨#[]⟩ (.slice vp i vc)
      unfold putBox at hVo hBo
      have hz9 : ((((wr.setCell ⟨w.heap.size + 1, 0, none⟩ (.int .i64 5)).setCell ⟨w.heap.size + 1, 1, none⟩ (.int .i64 0)).setCell ⟨w.heap.size + 1, 2, none⟩ (.string ⟨#[]⟩)).setCell ⟨w.heap.size + 1, 3, none⟩ (.slice vp i vc)).heap.size = wr.heap.size := by simp [World.setCell]
      have hltt : ∀ a, vp = some a → w.heap.size + 4 ≤ a.block ∧ a.block < wr.heap.size := fun a ha => (hown.lt a.block (by rw [ha]; rfl))
      generalize (((wr.setCell ⟨w.heap.size + 1, 0, none⟩ (.int .i64 5)).setCell ⟨w.heap.size + 1, 1, none⟩ (.int .i64 0)).setCell ⟨w.heap.size + 1, 2, none⟩ (.string ⟨#[]⟩)).setCell ⟨w.heap.size + 1, 3, none⟩ (.slice vp i vc) = W9 at hVo hBo hL9 hz9 ⊢
      obtain ⟨⟨x0, x1, x2, x3⟩, _⟩ := hVo.facts
      have hat := vat_items (W := W9) (p := vp) (c := vc) (us := vItems o n many i) (by rw [HLEN.out]; omega) (HFLAT.out i) (by rw [HLEN.out]; exact hL9)
      rw [HLEN.out] at hat
      exact bodyPost_ret (v := valV 5 0 ⟨#[]⟩ (.slice vp i vc)) (by simp [results, Tryd.results23, go_sem, x0, x1, x2, x3]) rfl ⟨⟨5, 0, ⟨#[]⟩, vp, i, vc⟩, rfl, hat, hBo, fun a ha => by have := hltt a ha; omega⟩
/-- ValOf of a type that may be -/
theorem valOf4_any (k o n many : Int) (hr : rtB k o = true) (hn : -9223372036854775808 ≤ n ∧ n ≤ 9223372036854775807) (hm : 1 ≤ many ∧ many ≤ 1000) (w : World) :
    Calls Tryd.prog 23 #[.agg #[.int .i64 k, .int .i64 o], .int .i64 n, .int .i64 many] w (valOf4Post k o n many w) := by
  unfold rtB at hr
  by_cases h5 : k = 5
  · rw [if_pos h5] at hr
    subst h5
    exact valOf4_list o n many (of_decide_eq_true hr) hn hm w
  · rw [if_neg h5] at hr
    have hk := (of_decide_eq_true hr).1
    refine (valOf4_flat k o n many hk hn hm w).mono ?_
    rintro e w' ⟨rfl, hb⟩
    refine ⟨itOf (vFlat k n many), rfl, ?_, hb, fun a ha => by cases ha⟩
    unfold vOf
    rw [if_neg h5]
    exact vat_none 1 w' (vFlat_fine hk n hm) (vFlat_l k n many)
end Go.Proofs.YtffoklhopmhjaaaDoor

/- Values without items, wherever. -/
set_option linter.unusedSimpArgs false
set_option linter.unusedVariables false
namespace Go.Proofs.YtffoklhopmhjaaaDoor
open Go Go.RowKit Go.Shelf

/-- a value without items, wherever -/
def FlatAt (u : V) (y : It) : Prop := u.fine ∧ y.k = u.k ∧ y.n = u.n ∧ y.s = u.s ∧ u.l = [] ∧ y.m = 0
theorem FlatAt.at {u : V} {y : It} (h : FlatAt u y) (d : Nat) (W : World) : VAt d W u y := by
  obtain ⟨h0, h1, h2, h3, h4, h5⟩ := h
  obtain ⟨k, n, s, p, m, c⟩ := y
  simp only at h1 h2 h3 h5
  subst h5
  have ht : ∀ J, VTop W u ⟨k, n, s, p, 0, c⟩ J := fun J => ⟨h0, h1, h2, h3, [], by rw [h4]; rfl, ⟨rfl, .inl ⟨rfl, p, c, rfl⟩⟩, fun i h => absurd h (by simp)⟩
  cases d with
  | zero => exact ht _
  | succ d => exact ht _
theorem FlatAt.of {W : World} {u : V} {y : It} (h : VAt 0 W u y) : FlatAt u y := by
  have hlen := h.top.len
  obtain ⟨h0, h1, h2, h3, ys, h4, h5, h6⟩ := h
  have hl : u.l = [] := by
    cases hu : u.l with
    | nil => rfl
    | cons a r => exact absurd (h6 0 (by rw [h4, hu]; simp) (by rw [hu]; simp)) (fun h => h)
  exact ⟨h0, h1, h2, h3, hl, by rw [hlen, hl]; rfl⟩
theorem VAt.up : ∀ {d : Nat} {W : World} {v : V} {x : It}, VAt d W v x → VAt (d + 1) W v x
  | 0, W, v, x, h => (FlatAt.of h).at 1 W
  | d + 1, W, v, x, h => by
    obtain ⟨h0, h1, h2, h3, ys, h4, h5, h6⟩ := h
    exact ⟨h0, h1, h2, h3, ys, h4, h5, fun i a b => (h6 i a b).up⟩
theorem VAt.edit {d : Nat} {W : World} {v : V} {x : It} (h : VAt d W v x) (k n : Int) (s : ByteArray) (hk : -9223372036854775808 ≤ k ∧ k ≤ 9223372036854775807) (hn : -9223372036854775808 ≤ n ∧ n ≤ 9223372036854775807) (hs : s.size ≤ 9223372036854775807) :
    VAt d W (.mk k n s v.l) ⟨k, n, s, x.p, x.m, x.c⟩ := by
  have hf := h.top.1
  cases d with
  | zero => obtain ⟨h0, h1, h2, h3, ys, h4, h5, h6⟩ := h; exact ⟨⟨hk, hn, hs, hf.l⟩, rfl, rfl, rfl, ys, h4, h5, h6⟩
  | succ d => obtain ⟨h0, h1, h2, h3, ys, h4, h5, h6⟩ := h; exact ⟨⟨hk, hn, hs, hf.l⟩, rfl, rfl, rfl, ys, h4, h5, h6⟩
end Go.Proofs.YtffoklhopmhjaaaDoor

/- morainelaw04.ValsOf. -/
set_option linter.unusedSimpArgs false
set_option linter.unusedVariables false
namespace Go.Proofs.YtffoklhopmhjaaaDoor
open Go Go.RowKit Go.Shelf

theorem vat_grown {W W' : World} {u : V} {y : It} {r : Option Nat} (h : VAt 1 W u y) (hg : W.grownBy W' r) (hne : ∀ a, y.p = some a → r ≠ some a.block) : VAt 1 W' u y := by
  obtain ⟨h0, h1, h2, h3, ys, h4, h5, h6⟩ := h
  refine ⟨h0, h1, h2, h3, ys, h4, ?_, fun i a b => (FlatAt.of (h6 i a b)).at 0 W'⟩
  obtain ⟨e1, e2 | ⟨b, off, c', hv, hb, hc⟩⟩ := h5
  · exact ⟨e1, .inl e2⟩
  · refine ⟨e1, .inr ⟨b, off, c', hv, Nat.lt_of_lt_of_le hb hg.size, fun j u hu => ?_⟩⟩
    injection hv with k1 _ _
    rw [hg.cell_far ⟨b, off + j, none⟩ hb (fun e => hne _ k1 e.symm)]
    exact hc j u hu
/-- values in a row of one's own, their items elsewhere -/
def VRow (base : Nat) (W : World) (vs : List V) (v : Value) : Prop :=
  ∃ ys : List It, ys.length = vs.length ∧ W.ownsRow base 31 4 v ys.length (itsCells ys) ∧ (∀ (i : Nat) (h : i < ys.length) (h' : i < vs.length), VAt 1 W vs[i] ys[i]) ∧ ∀ y ∈ ys, ∀ a, y.p = some a → v.ownBlock ≠ some a.block ∧ a.block < W.heap.size
theorem VRow.nil (base : Nat) (W : World) : VRow base W [] (.slice none 0 0) := ⟨[], rfl, World.ownsRow_nil _ _ _ _, fun i h => absurd h (by simp), fun y hy => by cases hy⟩
theorem VRow.go {base : Nat} {W W' : World} {vs : List V} {v : Value} (h : VRow base W vs v) (hb : Below W.heap.size W W') : VRow base W' vs v := by
  obtain ⟨ys, h1, h2, h3, h4⟩ := h
  exact ⟨ys, h1, owned_below h2 hb, fun i a b => (h3 i a b).below hb, fun y hy a ha => ⟨(h4 y hy a ha).1, Nat.lt_of_lt_of_le (h4 y hy a ha).2 hb.size⟩⟩
theorem VRow.at {base : Nat} {W : World} {vs : List V} {vp : Option Addr} {n c : Nat} (h : VRow base W vs (.slice vp n c)) (hn : n = vs.length) : VsAt 1 W vs vp n c := by
  obtain ⟨ys, h1, h2, h3, h4⟩ := h
  obtain rfl : n = ys.length := by omega
  exact ⟨ys, rfl, h1, Lies.own h2, h3⟩
theorem VRow.add {base : Nat} {W0 W W' : World} {vs : List V} {v v' : Value} {u : V} {y : It} (h : VRow base W0 vs v) (hb : Below W0.heap.size W0 W) (hy : VAt 1 W u y) (hya : ∀ a, y.p = some a → W0.heap.size ≤ a.block ∧ a.block < W.heap.size)
    (hg : W.grownBy W' v.ownBlock) (ho : ∀ ys : List It, ys.length = vs.length → W.ownsRow base 31 4 v ys.length (itsCells ys) → W'.ownsRow base 31 4 v' (ys.length + 1) (itsCells ys ++ y.cells)) (hat : ∀ b, v'.ownBlock = some b → v.ownBlock = some b ∨ W.heap.size ≤ b) : VRow base W' (vs ++ [u]) v' := by
  obtain ⟨ys, h1, h2, h3, h4⟩ := h
  have h2' := owned_below h2 hb
  have ho' := ho ys h1 h2'
  have hall : ∀ z ∈ ys ++ [y], ∀ a, z.p = some a → v.ownBlock ≠ some a.block ∧ a.block < W.heap.size := fun z hz a ha => by
    rcases List.mem_append.1 hz with hz | hz
    · exact ⟨(h4 z hz a ha).1, Nat.lt_of_lt_of_le (h4 z hz a ha).2 hb.size⟩
    · rw [List.mem_singleton.1 hz] at ha
      refine ⟨fun e => ?_, (hya a ha).2⟩
      have := (h2.lt _ e).2
      have := (hya a ha).1
      omega
  refine ⟨ys ++ [y], by simp [h1], ?_, fun i a b => ?_, fun z hz a ha => ⟨fun e => ?_, Nat.lt_of_lt_of_le (hall z hz a ha).2 hg.size⟩⟩
  · rw [its_app, List.length_append]; exact ho'
  · have hz : (ys ++ [y])[i] ∈ ys ++ [y] := List.getElem_mem a
    have hne := hall _ hz
    refine vat_grown (W := W) ?_ hg (fun q hq => (hne q hq).1)
    rcases Nat.lt_or_ge i ys.length with hl | hl
    · have e1 : (ys ++ [y])[i] = ys[i] := List.getElem_append_left hl
      have e2 : (vs ++ [u])[i] = vs[i]'(by omega) := List.getElem_append_left (by omega)
      rw [e1, e2]
      exact (h3 i hl (by omega)).below hb
    · obtain rfl : i = ys.length := by simp at a; omega
      have e1 : (ys ++ [y])[ys.length] = y := by simp
      have e2 : (vs ++ [u])[ys.length] = u := by simp [h1]
      rw [e1, e2]
      exact hy
  · rcases hat _ e with h5 | h5
    · exact (hall z hz a ha).1 h5
    · have := (hall z hz a ha).2
      omega
/-- numbers that lie -/
structure ILies (W : World) (p : Option Addr) (c : Nat) (l : List Int) : Prop where
  lies : Lies W (.slice p l.length c) l.length 1 (l.map (Value.int .i64))
  rng : ∀ x ∈ l, -9223372036854775808 ≤ x ∧ x ≤ 9223372036854775807
theorem ILies.below {W W' : World} {p : Option Addr} {c : Nat} {l : List Int} (h : ILies W p c l) (hb : Below W.heap.size W W') : ILies W' p c l := ⟨h.lies.below hb, h.rng⟩
theorem ILies.cell {W : World} {p : Option Addr} {c : Nat} {l : List Int} (h : ILies W p c l) (k : Nat) (hk : k < l.length) : ∃ b off, p = some ⟨b, off, none⟩ ∧ b < W.heap.size ∧ W.cell? ⟨b, off + k, none⟩ = some (.int .i64 (l.getD k 0)) := by
  obtain ⟨b, off, e, hb, hc⟩ := h.lies.at (by omega)
  refine ⟨b, off, e, hb, hc k _ ?_⟩
  rw [List.getElem?_map, List.getElem?_eq_getElem hk, List.getD_eq_getElem?_getD, List.getElem?_eq_getElem hk]; rfl
theorem numAt_rng (l : List Int) (i : Nat) (hi : i ≤ 9223372036854775807) : -9223372036854775808 ≤ numAt l i ∧ numAt l i ≤ 9223372036854775807 := by
  unfold numAt
  split
  · omega
  · rw [IntKind.wrap_i64]; omega
def valsOf4Post (fs : List Fl) (l : List Int) (many : Int) (w : World) (e : Ending) (w' : World) : Prop :=
  ∃ (p : Option Addr) (c : Nat), e = .returned (.slice p fs.length c) ∧ VsAt 1 w' (vsTo fs l many fs.length) p fs.length c ∧ Below w.heap.size w w'

set_option maxHeartbeats 8000000 in
set_option maxRecDepth 100000 in
theorem valsOf4_any (nm : ByteArray) (q : Option Addr) (c : Nat) (fs : List Fl) (hf : fs.length ≤ 8) (hok : ∀ (i : Nat) (h : i < fs.length), rtB fs[i].k fs[i].o = true) (l : List Int) (lp : Option Addr) (lc : Nat) (hll : l.length ≤ 9223372036854775807) (many : Int) (hm : 1 ≤ many ∧ many ≤ 1000) (w : World) (hF : FLies w q fs.length c fs) (hI : ILies w lp lc l) :
    Calls Tryd.prog 9 #[clV nm q fs.length c, .slice lp l.length lc, .int .i64 many] w (valsOf4Post fs l many w) := by
  obtain ⟨i0, hi, hz0, hz1, hz2⟩ := info_parts infoVal4
  have hal : Below w.heap.size w (w.alloc (.cells #[.string nm, .slice q fs.length c] 27)) := (Below.refl _ _).alloc (Nat.le_refl _) _
  have hC := CBox.new w nm q fs.length c
  have hof : ∀ (i : Nat) (h : i < fs.length) W, Calls Tryd.prog 23 #[.agg #[.int .i64 fs[i].k, .int .i64 fs[i].o], .int .i64 (numAt l i), .int .i64 many] W (valOf4Post fs[i].k fs[i].o (numAt l i) many W) := fun i h W =>
    valOf4_any _ _ _ _ (hok i h) (numAt_rng l i (by omega)) hm W
  have hsucc := fun i h => vsTo_succ fs l many i h
  have hlen := vsTo_len fs l many
  have HOFV := Lib.hid hof
  have HSUCC := Lib.hid hsucc
  have HLEN := Lib.hid hlen
  have HF := Lib.hid hF
  have HI := Lib.hid hI
  have HAL := Lib.hid hal
  have HC := Lib.hid hC
  clear hof hsucc hlen hF hI hal hC hok hm
  unfold valsOf4Post
  go_enter Tryd.func9, Tryd.ntmps9
  go_wp2_with fail
  generalize w.alloc (.cells #[.string nm, .slice q fs.length c] 27) = U at HAL HC ⊢
  go_loopw [7, 8] (fun v s wr => ∃ (i : Nat) (vp : Option Addr) (vc : Nat), i ≤ fs.length ∧ s = .int .i64 (i : Int) ∧ v = .slice vp i vc ∧ CBox wr w.heap.size nm q fs.length c ∧ VRow (w.heap.size + 1) wr (vsTo fs l many i) (.slice vp i vc) ∧ Below w.heap.size w wr) (fun v s _ => fs.length - (intOf s).toNat)
  case atStart => exact ⟨0, none, 0, by omega, rfl, rfl, HC.out, VRow.nil _ _, HAL.out⟩
  case round =>
    obtain ⟨i, vp, vc, hil, rfl, rfl, hCr, hrow, hB⟩ := hrel
    clear HAL HC
    obtain ⟨c0, c1⟩ := hCr.facts
    have hzw := hCr.lt
    have HCR := Lib.hid hCr
    have HROW := Lib.hid hrow
    have HB := Lib.hid hB
    clear hCr hrow hB
    by_cases hlt : i < fs.length
    · have d1 : decide ((i : Int) < (fs.length : Int)) = true := decide_eq_true (by omega)
      have d1' : (i : Int) < (fs.length : Int) := by omega
      have d0 : (0 : Int) ≤ (i : Int) := by omega
      obtain ⟨b, off, rfl, hb, hc⟩ := HF.out.2.at (by omega)
      have hcx : ∀ (j : Nat) (u : Value), ((fs[i]'hlt).cells)[j]? = some u → wr.cell? ⟨b, off + i * 4 + j, none⟩ = some u := fun j u hu => by
        rw [HB.out.cell (p := ⟨b, off + i * 4 + j, none⟩) hb, Nat.add_assoc]
        exact hc _ _ (flCells_at fs i hlt j u hu)
      have hcall := HOFV.out i hlt
      unfold valOf4Post at hcall
      have hsucc := HSUCC.out i hlt
      have hnum : numAt l i = if l.length = 0 then (i : Int) else IntKind.i64.wrap (l.getD (i % l.length) 0 + (i : Int)) := rfl
      generalize numAt l i = na at hcall hsucc hnum
      generalize fs[i]'hlt = f at hcx hcall hsucc
      obtain ⟨fn, fk, fo, fx⟩ := f
      simp only at hcall hsucc
      have z1 : wr.cell? ⟨b, off + i * 4 + 1, none⟩ = some (.int .i64 fk) := hcx 1 _ rfl
      have z2 : wr.cell? ⟨b, off + i * 4 + 2, none⟩ = some (.int .i64 fo) := hcx 2 _ rfl
      have HCALL := Lib.hid hcall
      have HSU := Lib.hid hsucc
      clear hcx hc hcall hsucc
      by_cases hl0 : l.length = 0
      · obtain rfl : na = (i : Int) := hnum.trans (if_pos hl0)
        have dl : decide ((l.length : Int) > 0) = false := decide_eq_false (by omega)
        have dl' : ¬ (0 : Int) < (l.length : Int) := by omega
        clear hl0 hnum
        go_wp2_with fail
        refine (HCALL.out _).mono ?_
        rintro e W1 ⟨y, rfl, hat, hBc, hpa⟩
        obtain ⟨yk, yn, ys, yp, ym, yc⟩ := y
        have hB1 := HB.out.trans (hBc.mono HB.out.size)
        have hC1 := HCR.out.below hBc
        have hal1 := (Below.refl W1.heap.size W1).alloc (Nat.le_refl _) (.cells #[.int .i64 yk, .int .i64 yn, .string ys, .slice yp ym yc] 31)
        have howd : ∀ ws : List It, ws.length = (vsTo fs l many i).length → W1.ownsRow (w.heap.size + 1) 31 4 (.slice vp i vc) ws.length (itsCells ws) → (W1.alloc (.cells #[.int .i64 yk, .int .i64 yn, .string ys, .slice yp ym yc] 31)).ownsRow (w.heap.size + 1) 31 4 (.slice vp i vc) ws.length (itsCells ws) := fun ws _ h => h.alloc _
        obtain ⟨ws, k1, k2, k3, k4⟩ := HROW.out.go hBc
        have k5 := howd ws k1 k2
        have k6 : ws.length = i := by rw [k1, HLEN.out]
        rw [k6] at k5
        have hlt1 := hC1.lt
        have hnext : ∀ gg cap w2, w2.ownsRow (w.heap.size + 1) 31 4 (.slice (some ⟨gg, 0, none⟩) (i + 1) cap) (i + 1) (itsCells ws ++ [.int .i64 yk, .int .i64 yn, .string ys, .slice yp ym yc]) → (W1.alloc (.cells #[.int .i64 yk, .int .i64 yn, .string ys, .slice yp ym yc] 31)).grownBy w2 (Value.slice vp i vc).ownBlock → ((Value.slice vp i vc).ownBlock = some gg ∨ gg = W1.heap.size + 1) → CBox w2 w.heap.size nm (some ⟨b, off, none⟩) fs.length c ∧ VRow (w.heap.size + 1) w2 (vsTo fs l many (i + 1)) (.slice (some ⟨gg, 0, none⟩) (i + 1) cap) ∧ Below w.heap.size w w2 := fun gg cap w2 hown hg hgg => by
          have hgo : ∀ g, (Value.slice vp i vc).ownBlock = some g → w.heap.size + 1 ≤ g := fun g hg' => (k5.lt g hg').1
          refine ⟨(hC1.below hal1).grown hg (fun e => by have := hgo _ e.symm; omega), ?_, (hB1.trans (hal1.mono hB1.size)).grown hg (by have := hB1.size; simp; omega) (fun g hg' => by have := hgo g hg'; omega)⟩
          rw [HSU.out]
          have hrow : VRow (w.heap.size + 1) wr (vsTo fs l many i) (.slice vp i vc) := HROW.out
          refine ⟨ws ++ [⟨yk, yn, ys, yp, ym, yc⟩], by simp [k1], by rw [its_app, List.length_append, k6]; exact hown, ?_, ?_⟩
          · intro j a b'
            have hap : ∀ z ∈ ws ++ [(⟨yk, yn, ys, yp, ym, yc⟩ : It)], ∀ a', z.p = some a' → (Value.slice vp i vc).ownBlock ≠ some a'.block := fun z hz a' ha' => by
              rcases List.mem_append.1 hz with hz | hz
              · exact (k4 z hz a' ha').1
              · rw [List.mem_singleton.1 hz] at ha'
                intro e
                have h1 := (hpa a' ha').1
                obtain ⟨zs, m1, m2, _, _⟩ := hrow
                have := (m2.lt _ e).2
                omega
            refine vat_grown (W := W1.alloc (.cells #[.int .i64 yk, .int .i64 yn, .string ys, .slice yp ym yc] 31)) ?_ hg (fun a' ha' => hap _ (List.getElem_mem a) a' ha')
            refine VAt.below ?_ hal1
            rcases Nat.lt_or_ge j ws.length with hl | hl
            · have e1 : (ws ++ [(⟨yk, yn, ys, yp, ym, yc⟩ : It)])[j] = ws[j] := List.getElem_append_left hl
              have e2 : (vsTo fs l many i ++ [vOf fk fo (i : Int) many])[j] = (vsTo fs l many i)[j]'(by omega) := List.getElem_append_left (by omega)
              rw [e1, e2]
              exact k3 j hl (by omega)
            · obtain rfl : j = ws.length := by simp at a; omega
              have e1 : (ws ++ [(⟨yk, yn, ys, yp, ym, yc⟩ : It)])[ws.length] = ⟨yk, yn, ys, yp, ym, yc⟩ := by simp
              have e2 : (vsTo fs l many i ++ [vOf fk fo (i : Int) many])[ws.length] = vOf fk fo (i : Int) many := by simp [k1]
              rw [e1, e2]
              exact hat
          · intro z hz a' ha'
            have hsz := hg.size
            rw [World.size_alloc] at hsz
            have hz2 : (Value.slice vp i vc).ownBlock ≠ some a'.block ∧ a'.block < W1.heap.size := by
              rcases List.mem_append.1 hz with hz | hz
              · exact k4 z hz a' ha'
              · rw [List.mem_singleton.1 hz] at ha'
                refine ⟨fun e => ?_, (hpa a' ha').2⟩
                have h1 := (hpa a' ha').1
                obtain ⟨zs, m1, m2, _, _⟩ := hrow
                have := (m2.lt _ e).2
                omega
            refine ⟨fun e => ?_, by omega⟩
            rcases hgg with h | h
            · rw [h] at hz2; exact hz2.1 e
            · have e := Option.some.inj e
              simp only at e
              omega
        have HNEXT := Lib.hid hnext
        have K5 := Lib.hid k5
        have hwz : w.heap.size + 1 ≤ W1.heap.size := hlt1
        have hil8 : i + 1 ≤ 8 := by omega
        have hnone : fs.length - i > 0 := by omega
        clear hat hpa howd k1 k2 k3 k4 k5 hnext hal1 hC1 hB1 hBc HSU HCALL HCR HROW
        go_wp2_with (at_builtin; refine wpList_append_lies _ rfl _ _ _ rfl (w.heap.size + 1) 31 i0 _ 4 56 Tryd.underlying29 hi hz0 hz1 hz2 rfl (by omega) _ i _ rfl K5.out ⟨W1.heap.size, 0, none⟩ 1 1 [.int .i64 yk, .int .i64 yn, .string ys, .slice yp ym yc] rfl rfl (World.news_of_block (cs := #[.int .i64 yk, .int .i64 yn, .string ys, .slice yp ym yc]) (t := 31) (fr := (0, 0)) (World.alloc_heap_new W1 _)) (by simp [Value.oneCell']) (by omega) (by simp [maxLen] <;> omega) (by omega) (by simp <;> omega) (W1.heap.size + 1) (by simp) ?_; intro gg cap w2 hown1 hgrow hatg hlt2)
        exact ⟨⟨i + 1, some ⟨gg, 0, none⟩, cap, by omega, by go_num, rfl, HNEXT.out _ _ _ hown1 hgrow hatg⟩, by simp [intOf]; omega⟩
      · have hna := hnum.trans (if_neg hl0)
        have dl : decide ((l.length : Int) > 0) = true := decide_eq_true (by omega)
        have dl' : (0 : Int) < (l.length : Int) := by omega
        have dz : ((l.length : Int) == 0) = false := by rw [beq_eq_false_iff_ne]; omega
        obtain ⟨r, hr⟩ : ∃ r : Nat, i % l.length = r := ⟨_, rfl⟩
        have hrl : r < l.length := by rw [← hr]; exact Nat.mod_lt _ (by omega)
        have ht : ((i : Int)).tmod (l.length : Int) = (r : Int) := by rw [Int.tmod_eq_emod_of_nonneg (by omega), ← hr]; rfl
        have hwr : IntKind.i64.wrap (r : Int) = (r : Int) := IntWalk.i64_in _ (by omega)
        have r0 : (0 : Int) ≤ (r : Int) := by omega
        have r1 : (r : Int) < (l.length : Int) := by omega
        obtain ⟨lb, loff, rfl, hlb, hlc⟩ := HI.out.cell r hrl
        rw [hr] at hna
        generalize l.getD r 0 = lx at hlc hna
        have hlc2 : wr.cell? ⟨lb, loff + r, none⟩ = some (.int .i64 lx) := (HB.out.cell (p := ⟨lb, loff + r, none⟩) hlb).trans hlc
        have hna2 : IntKind.i64.wrap (lx + (i : Int)) = na := hna.symm
        clear hl0 hnum hlc hna hr
        go_wp2_with fail
        refine (HCALL.out _).mono ?_
        rintro e W1 ⟨y, rfl, hat, hBc, hpa⟩
        obtain ⟨yk, yn, ys, yp, ym, yc⟩ := y
        have hB1 := HB.out.trans (hBc.mono HB.out.size)
        have hC1 := HCR.out.below hBc
        have hal1 := (Below.refl W1.heap.size W1).alloc (Nat.le_refl _) (.cells #[.int .i64 yk, .int .i64 yn, .string ys, .slice yp ym yc] 31)
        have howd : ∀ ws : List It, ws.length = (vsTo fs l many i).length → W1.ownsRow (w.heap.size + 1) 31 4 (.slice vp i vc) ws.length (itsCells ws) → (W1.alloc (.cells #[.int .i64 yk, .int .i64 yn, .string ys, .slice yp ym yc] 31)).ownsRow (w.heap.size + 1) 31 4 (.slice vp i vc) ws.length (itsCells ws) := fun ws _ h => h.alloc _
        obtain ⟨ws, k1, k2, k3, k4⟩ := HROW.out.go hBc
        have k5 := howd ws k1 k2
        have k6 : ws.length = i := by rw [k1, HLEN.out]
        rw [k6] at k5
        have hlt1 := hC1.lt
        have hnext : ∀ gg cap w2, w2.ownsRow (w.heap.size + 1) 31 4 (.slice (some ⟨gg, 0, none⟩) (i + 1) cap) (i + 1) (itsCells ws ++ [.int .i64 yk, .int .i64 yn, .string ys, .slice yp ym yc]) → (W1.alloc (.cells #[.int .i64 yk, .int .i64 yn, .string ys, .slice yp ym yc] 31)).grownBy w2 (Value.slice vp i vc).ownBlock → ((Value.slice vp i vc).ownBlock = some gg ∨ gg = W1.heap.size + 1) → CBox w2 w.heap.size nm (some ⟨b, off, none⟩) fs.length c ∧ VRow (w.heap.size + 1) w2 (vsTo fs l many (i + 1)) (.slice (some ⟨gg, 0, none⟩) (i + 1) cap) ∧ Below w.heap.size w w2 := fun gg cap w2 hown hg hgg => by
          have hgo : ∀ g, (Value.slice vp i vc).ownBlock = some g → w.heap.size + 1 ≤ g := fun g hg' => (k5.lt g hg').1
          refine ⟨(hC1.below hal1).grown hg (fun e => by have := hgo _ e.symm; omega), ?_, (hB1.trans (hal1.mono hB1.size)).grown hg (by have := hB1.size; simp; omega) (fun g hg' => by have := hgo g hg'; omega)⟩
          rw [HSU.out]
          have hrow : VRow (w.heap.size + 1) wr (vsTo fs l many i) (.slice vp i vc) := HROW.out
          refine ⟨ws ++ [⟨yk, yn, ys, yp, ym, yc⟩], by simp [k1], by rw [its_app, List.length_append, k6]; exact hown, ?_, ?_⟩
          · intro j a b'
            have hap : ∀ z ∈ ws ++ [(⟨yk, yn, ys, yp, ym, yc⟩ : It)], ∀ a', z.p = some a' → (Value.slice vp i vc).ownBlock ≠ some a'.block := fun z hz a' ha' => by
              rcases List.mem_append.1 hz with hz | hz
              · exact (k4 z hz a' ha').1
              · rw [List.mem_singleton.1 hz] at ha'
                intro e
                have h1 := (hpa a' ha').1
                obtain ⟨zs, m1, m2, _, _⟩ := hrow
                have := (m2.lt _ e).2
                omega
            refine vat_grown (W := W1.alloc (.cells #[.int .i64 yk, .int .i64 yn, .string ys, .slice yp ym yc] 31)) ?_ hg (fun a' ha' => hap _ (List.getElem_mem a) a' ha')
            refine VAt.below ?_ hal1
            rcases Nat.lt_or_ge j ws.length with hl | hl
            · have e1 : (ws ++ [(⟨yk, yn, ys, yp, ym, yc⟩ : It)])[j] = ws[j] := List.getElem_append_left hl
              have e2 : (vsTo fs l many i ++ [vOf fk fo na many])[j] = (vsTo fs l many i)[j]'(by omega) := List.getElem_append_left (by omega)
              rw [e1, e2]
              exact k3 j hl (by omega)
            · obtain rfl : j = ws.length := by simp at a; omega
              have e1 : (ws ++ [(⟨yk, yn, ys, yp, ym, yc⟩ : It)])[ws.length] = ⟨yk, yn, ys, yp, ym, yc⟩ := by simp
              have e2 : (vsTo fs l many i ++ [vOf fk fo na many])[ws.length] = vOf fk fo na many := by simp [k1]
              rw [e1, e2]
              exact hat
          · intro z hz a' ha'
            have hsz := hg.size
            rw [World.size_alloc] at hsz
            have hz2 : (Value.slice vp i vc).ownBlock ≠ some a'.block ∧ a'.block < W1.heap.size := by
              rcases List.mem_append.1 hz with hz | hz
              · exact k4 z hz a' ha'
              · rw [List.mem_singleton.1 hz] at ha'
                refine ⟨fun e => ?_, (hpa a' ha').2⟩
                have h1 := (hpa a' ha').1
                obtain ⟨zs, m1, m2, _, _⟩ := hrow
                have := (m2.lt _ e).2
                omega
            refine ⟨fun e => ?_, by omega⟩
            rcases hgg with h | h
            · rw [h] at hz2; exact hz2.1 e
            · have e := Option.some.inj e
              simp only at e
              omega
        have HNEXT := Lib.hid hnext
        have K5 := Lib.hid k5
        have hwz : w.heap.size + 1 ≤ W1.heap.size := hlt1
        have hil8 : i + 1 ≤ 8 := by omega
        have hnone : fs.length - i > 0 := by omega
        clear hat hpa howd k1 k2 k3 k4 k5 hnext hal1 hC1 hB1 hBc HSU HCALL HCR HROW
        go_wp2_with (at_builtin; refine wpList_append_lies _ rfl _ _ _ rfl (w.heap.size + 1) 31 i0 _ 4 56 Tryd.underlying29 hi hz0 hz1 hz2 rfl (by omega) _ i _ rfl K5.out ⟨W1.heap.size, 0, none⟩ 1 1 [.int .i64 yk, .int .i64 yn, .string ys, .slice yp ym yc] rfl rfl (World.news_of_block (cs := #[.int .i64 yk, .int .i64 yn, .string ys, .slice yp ym yc]) (t := 31) (fr := (0, 0)) (World.alloc_heap_new W1 _)) (by simp [Value.oneCell']) (by omega) (by simp [maxLen] <;> omega) (by omega) (by simp <;> omega) (W1.heap.size + 1) (by simp) ?_; intro gg cap w2 hown1 hgrow hatg hlt2)
        exact ⟨⟨i + 1, some ⟨gg, 0, none⟩, cap, by omega, by go_num, rfl, HNEXT.out _ _ _ hown1 hgrow hatg⟩, by simp [intOf]; omega⟩
    · obtain rfl : i = fs.length := by omega
      have d1 : decide ((fs.length : Int) < (fs.length : Int)) = false := decide_eq_false (by omega)
      go_wp2_with fail
      go_ret
      exact ⟨vp, vc, rfl, HROW.out.at (by rw [HLEN.out]), HB.out⟩
end Go.Proofs.YtffoklhopmhjaaaDoor

/- The walk of ClassBack. -/
set_option linter.unusedSimpArgs false
set_option linter.unusedVariables false
namespace Go.Proofs.YtffoklhopmhjaaaDoor
open Go Go.RowKit Go.Shelf

theorem cl_wide {c : Cl} (h : c.ok = true) : c.nm.size ≤ 9223372036854775807 ∧ (∀ f ∈ c.fs, f.fine) ∧ c.fs.length ≤ 8 ∧ 1 ≤ c.bytes.length ∧ c.bytes.length ≤ 2000 := by
  obtain ⟨⟨h0, h1⟩, h2, h3⟩ := Cl.ok_parts h
  refine ⟨by omega, fun f hf => ?_, h2, ?_, ?_⟩
  · obtain ⟨i, hi, rfl⟩ := List.getElem_of_mem hf
    obtain ⟨a1, a2, _, _, a3, a4⟩ := Fl.ok_parts (h3 i hi).1
    exact ⟨by omega, ⟨by omega, by omega⟩, ⟨by omega, by omega⟩⟩
  · unfold Cl.bytes txtB
    have := nm_size c.nm
    simp only [List.length_append]
    omega
  · have := clsTo_len (cn := c.nm) (fs := c.fs) h c.fs.length
    rw [clsTo_end] at this
    exact this
theorem min_cut100 (s : ByteArray) : ∃ m : Nat, m ≤ s.size ∧ m ≤ 100 ∧ (if (100 : Int) < (s.size : Int) then (100 : Int) else (s.size : Int)) = (m : Int) ∧ min (s.size : Int) 100 = (m : Int) := by
  by_cases h : 100 < s.size
  · exact ⟨100, by omega, by omega, by rw [if_pos (by omega)]; rfl, by omega⟩
  · exact ⟨s.size, by omega, by omega, by rw [if_neg (by omega)], by omega⟩
open Classical in
theorem sameC_iff (a b : Cl) : sameC a b = true ↔ a = b := by
  unfold sameC
  exact decide_eq_true_iff
/-- what is carried along -/
structure OkB (ea : Addr) (w W : World) : Prop where
  t : Tabs W
  e : errLies ea W
  b : Below w.heap.size w W
theorem OkB.below {ea : Addr} {w W W' : World} (h : OkB ea w W) (hb : Below W.heap.size W W') : OkB ea w W' := ⟨h.t.below hb, h.e.below hb, h.b.trans (hb.mono h.b.size)⟩
/-- a raw class in block b -/
structure CRBox (W : World) (b : Nat) (x : CRaw) (p : Option Addr) (c : Nat) : Prop where
  box : W.heap[b]? = some (.cells #[.int .i64 x.n, .slice p x.l.length c] 24 (0, 0))
  lies : Lies W (.slice p x.l.length c) x.l.length 4 (frawCells x.l)
theorem CRBox.below {W W' : World} {b : Nat} {x : CRaw} {p : Option Addr} {c : Nat} (h : CRBox W b x p c) (hb : Below W.heap.size W W') : CRBox W' b x p c :=
  ⟨(hb.block b (Array.getElem?_eq_some_iff.1 h.box).1).trans h.box, h.lies.below hb⟩
theorem CRBox.facts {W : World} {b : Nat} {x : CRaw} {p : Option Addr} {c : Nat} (h : CRBox W b x p c) : W.cell? ⟨b, 0, none⟩ = some (.int .i64 x.n) ∧ W.cell? ⟨b, 1, none⟩ = some (.slice p x.l.length c) := by
  constructor <;> (rw [Lib.cell_of_heap h.box]; rfl)
/-- a class in block b, with its fields -/
structure ClBox (W : World) (b : Nat) (a : Cl) (q : Option Addr) (c : Nat) : Prop where
  box : CBox W b a.nm q a.fs.length c
  lies : FLies W q a.fs.length c a.fs
theorem ClBox.below {W W' : World} {b : Nat} {a : Cl} {q : Option Addr} {c : Nat} (h : ClBox W b a q c) (hb : Below W.heap.size W W') : ClBox W' b a q c := ⟨h.box.below hb, h.lies.below hb⟩

set_option maxHeartbeats 8000000 in
set_option maxRecDepth 100000 in
theorem clsBack_walk (x : CRaw) (hx : x.fine) (p : Option Addr) (c : Nat) (y : CRaw) (hy : y.fine) (p' : Option Addr) (c' : Nat) (s : ByteArray) (hs : s.size ≤ maxLen) (t : ByteArray) (ht : t.size ≤ maxLen) (k : Int) (hk0 : 0 ≤ k) (hk1 : k ≤ 255) (ea : Addr) (w : World) (hT : Tabs w) (hE : errLies ea w)
    (hL : Lies w (.slice p x.l.length c) x.l.length 4 (frawCells x.l)) (hL' : Lies w (.slice p' y.l.length c') y.l.length 4 (frawCells y.l)) :
    Calls Tryd.prog 4 #[crawV x p c, crawV y p' c', .string s, .string t, .int .u8 k] w fun e w' => e = .returned (.bool true) ∧ Below w.heap.size w w' := by
  have b2 : Below w.heap.size w ((w.alloc (.cells #[.int .i64 x.n, .slice p x.l.length c] 24)).alloc (.cells #[.int .i64 y.n, .slice p' y.l.length c'] 24)) := below_two _ _
  have R0 : CRBox ((w.alloc (.cells #[.int .i64 x.n, .slice p x.l.length c] 24)).alloc (.cells #[.int .i64 y.n, .slice p' y.l.length c'] 24)) w.heap.size x p c :=
    ⟨(Lib.alloc_old _ _ _ (by simp)).trans (World.alloc_heap_new _ _), hL.below b2⟩
  have Q0 : CRBox ((w.alloc (.cells #[.int .i64 x.n, .slice p x.l.length c] 24)).alloc (.cells #[.int .i64 y.n, .slice p' y.l.length c'] 24)) (w.heap.size + 1) y p' c' := by
    refine ⟨?_, hL'.below b2⟩
    have h := World.alloc_heap_new (w.alloc (.cells #[.int .i64 x.n, .slice p x.l.length c] 24)) (.cells #[.int .i64 y.n, .slice p' y.l.length c'] 24)
    rwa [World.size_alloc] at h
  have oka := clsOf_ok x
  have okb := clsOf_ok y
  have hofa := fun W h => clsOf_any x hx p c W h
  have hofb := fun W h => clsOf_any y hy p' c' W h
  unfold clsOfPost at hofa hofb
  generalize clsOf x = a at oka hofa
  generalize clsOf y = b at okb hofb
  obtain ⟨wa1, wa2, wa3, wa4, wa5⟩ := cl_wide oka
  obtain ⟨wb1, wb2, wb3, wb4, wb5⟩ := cl_wide okb
  obtain ⟨P, hP⟩ : ∃ P : ByteArray, (⟨a.bytes.toArray⟩ : ByteArray) = P := ⟨_, rfl⟩
  obtain ⟨Q, hQ⟩ : ∃ Q : ByteArray, (⟨b.bytes.toArray⟩ : ByteArray) = Q := ⟨_, rfl⟩
  have hPl : P.data.toList = a.bytes := by rw [← hP]
  have hQl : Q.data.toList = b.bytes := by rw [← hQ]
  have hPz : P.size = a.bytes.length := by rw [← hPl]; simp
  have hQz : Q.size = b.bytes.length := by rw [← hQl]; simp
  have enca : ∀ W q c, FLies W q a.fs.length c a.fs → Tabs W → Calls Tryd.prog 14 #[clV a.nm q a.fs.length c] W fun e w' => e = .returned (.tuple #[.string P, .int .i64 0]) ∧ Below W.heap.size W w' := fun W q c h hT => by
    have := clsEncode_any a.nm q a.fs.length c a.fs wa1 wa2 W h (by omega) hT
    unfold encCPost at this
    rw [show (Cl.mk a.nm a.fs).ok = true from oka] at this
    rw [← hP]; exact this
  have encb : ∀ W q c, FLies W q b.fs.length c b.fs → Tabs W → Calls Tryd.prog 14 #[clV b.nm q b.fs.length c] W fun e w' => e = .returned (.tuple #[.string Q, .int .i64 0]) ∧ Below W.heap.size W w' := fun W q c h hT => by
    have := clsEncode_any b.nm q b.fs.length c b.fs wb1 wb2 W h (by omega) hT
    unfold encCPost at this
    rw [show (Cl.mk b.nm b.fs).ok = true from okb] at this
    rw [← hQ]; exact this
  obtain ⟨m, hm1, hm2, hm3, hm4⟩ := min_cut100 s
  obtain ⟨n, hn1, hn2, hn3, hn4⟩ := min_cut100 t
  have hms : (s.extract 0 m).size = m := by rw [ByteArray.size_extract]; omega
  have hns : (t.extract 0 n).size = n := by rw [ByteArray.size_extract]; omega
  have hdec : ∀ W, Tabs W → errLies ea W → Calls Tryd.prog 15 #[.string (((s.extract 0 m) ++ P) ++ (t.extract 0 n)), .int .i64 (m : Int)] W fun e w' => (∃ (q : Option Addr) (c : Nat), e = .returned (.tuple #[clV a.nm q a.fs.length c, .int .i64 ((m : Int) + (P.size : Int)), .int .i64 0]) ∧ FLies w' q a.fs.length c a.fs) ∧ Below W.heap.size W w' := fun W hT hE => by
    have hd := clsDecode_any (((s.extract 0 m) ++ P) ++ (t.extract 0 n)) (by rw [ByteArray.size_append, ByteArray.size_append, hms, hns]; omega) m (by rw [ByteArray.size_append, ByteArray.size_append, hms]; omega) ea W hT hE
    refine hd.mono ?_
    rintro e w' ⟨hb, hd⟩
    have e1 : (((s.extract 0 m) ++ P) ++ (t.extract 0 n)).data.toList = (s.extract 0 m).data.toList ++ (a.bytes ++ (t.extract 0 n).data.toList) := by
      rw [← hPl]; simp [ByteArray.data_append]
    have e2 : (s.extract 0 m).data.toList.length = m := by rw [nm_size, hms]
    rw [e1, List.drop_append_of_le_length (by omega), List.drop_of_length_le (by omega), List.nil_append, (undo_dec a oka).app] at hd
    obtain ⟨q, m', c, rfl, hl, h8⟩ := hd
    obtain rfl := hl.1
    exact ⟨⟨q, c, by rw [hPz]; push_cast; rfl, hl⟩, hb⟩
  obtain ⟨r, hr⟩ : ∃ r : Nat, k % (P.size : Int) = (r : Int) := ⟨(k % (P.size : Int)).toNat, by have := Int.emod_nonneg k (b := (P.size : Int)) (by omega); omega⟩
  have hrl : r < P.size := by have := Int.emod_lt_of_pos k (b := (P.size : Int)) (by omega); omega
  have hcut : ∀ W, Tabs W → errLies ea W → Calls Tryd.prog 15 #[.string (P.extract 0 r), .int .i64 0] W fun e w' => e = .returned (.tuple #[clV ⟨#[]⟩ none 0 0, .int .i64 0, .int .i64 10]) ∧ Below W.heap.size W w' := fun W hT hE => by
    have hd := clsDecode_any (P.extract 0 r) (by rw [ByteArray.size_extract]; omega) 0 (by omega) ea W hT hE
    refine hd.mono ?_
    rintro e w' ⟨hb, hd⟩
    rw [show ((P.extract 0 r).data.toList.drop 0) = a.bytes.take r from by rw [← hPl]; simp, (undo_dec a oka).cut r (by omega)] at hd
    exact ⟨hd, hb⟩
  have hpq : (P.toList == Q.toList) = sameC a b := by
    rw [Bool.eq_iff_iff, beq_iff_eq]
    rw [sameC_iff]
    exact ⟨fun e => cls_inj oka okb (by rw [← hPl, ← hQl, ba_eq_of e]), fun e => by rw [← hP, ← hQ, e]⟩
  have hself : ∀ W q c q' c', FLies W q a.fs.length c a.fs → FLies W q' a.fs.length c' a.fs → Calls Tryd.prog 16 #[clV a.nm q a.fs.length c, clV a.nm q' a.fs.length c'] W fun e w' => e = .returned (.bool true) ∧ Below W.heap.size W w' := fun W q c q' c' h h' => by
    have := clsSame_any a.nm q a.fs.length c a.fs a.nm q' a.fs.length c' a.fs W h h' (by omega) (by omega)
    rw [sameC_self] at this
    exact this
  have hcmp : ∀ W q c q' c', FLies W q a.fs.length c a.fs → FLies W q' b.fs.length c' b.fs → Calls Tryd.prog 16 #[clV a.nm q a.fs.length c, clV b.nm q' b.fs.length c'] W fun e w' => e = .returned (.bool (sameC a b)) ∧ Below W.heap.size W w' := fun W q c q' c' h h' =>
    clsSame_any a.nm q a.fs.length c a.fs b.nm q' b.fs.length c' b.fs W h h' (by omega) (by omega)
  generalize sameC a b = same at hpq hcmp
  have O0 : OkB ea w ((w.alloc (.cells #[.int .i64 x.n, .slice p x.l.length c] 24)).alloc (.cells #[.int .i64 y.n, .slice p' y.l.length c'] 24)) := ⟨hT.below b2, hE.below b2, b2⟩
  rw [← hPz] at wa4 wa5
  have z0 : ((P.size : Int) == 0) = false := by rw [beq_eq_false_iff_ne]; omega
  have z1 : ¬ (P.size : Int) = 0 := by omega
  have z2 : IntKind.i64.wrap ((m : Int) + (P.size : Int)) = (m : Int) + (P.size : Int) := IntWalk.i64_in _ (by omega)
  have z3 : k.tmod (P.size : Int) = (r : Int) := by rw [Int.tmod_eq_emod_of_nonneg hk0]; exact hr
  have z4 : IntKind.i64.wrap k = k := IntWalk.i64_in _ (by omega)
  have z5 : (r : Int) ≤ (P.size : Int) := by omega
  have z6 : (0 : Int) ≤ (r : Int) := by omega
  have z7 : decide ((r : Int) ≤ (P.size : Int)) = true := decide_eq_true z5
  have z8 : IntKind.i64.wrap (r : Int) = (r : Int) := IntWalk.i64_in _ (by omega)
  have HOFA := Lib.hid hofa
  have HOFB := Lib.hid hofb
  have ENCA := Lib.hid enca
  have ENCB := Lib.hid encb
  have HDEC := Lib.hid hdec
  have HCUT := Lib.hid hcut
  have HSELF := Lib.hid hself
  have HCMP := Lib.hid hcmp
  have HPQ := Lib.hid hpq
  have HMS := Lib.hid hms
  clear hofa hofb enca encb hdec hcut hself hcmp hpq hms hns hP hQ hPl hQl hPz hQz hT hE hL hL' b2 oka okb hr hs ht wa1 wa2 wb1 wb2 wb4 wb5 hx hy
  have h01 : w.heap.size ≠ w.heap.size + 1 := by omega
  go_enter Tryd.func4, Tryd.ntmps4
  go_wp2_with fail
  refine (clsEx_any ea _ O0.t O0.e).mono ?_
  rintro e W1 ⟨rfl, hB⟩
  have O1 := Lib.hid (O0.below hB)
  have r1 := R0.below hB
  have q1 := Q0.below hB
  clear O0 R0 Q0 hB
  obtain ⟨r0, r2⟩ := r1.facts
  have R1 := Lib.hid r1
  have Q1 := Lib.hid q1
  clear r1 q1
  go_wp2_with fail
  refine (HOFA.out _ R1.out.lies).mono ?_
  rintro e W2 ⟨qa, ca, rfl, hl, hB⟩
  have hal : Below W2.heap.size W2 (W2.alloc (.cells #[.string a.nm, .slice qa a.fs.length ca] 27)) := (Below.refl _ _).alloc (Nat.le_refl _) _
  have A2 := Lib.hid (show ClBox (W2.alloc (.cells #[.string a.nm, .slice qa a.fs.length ca] 27)) W2.heap.size a qa ca from ⟨CBox.new _ _ _ _ _, hl.below hal⟩)
  have O2 := Lib.hid ((O1.out.below hB).below hal)
  have q2 := (Q1.out.below hB).below hal
  clear r0 r2 O1 R1 Q1 hl hB hal
  obtain ⟨r0, r2⟩ := q2.facts
  have Q2 := Lib.hid q2
  clear q2
  go_wp2_with fail
  generalize W2.alloc (.cells #[.string a.nm, .slice qa a.fs.length ca] 27) = U2 at A2 O2 Q2 r0 r2 ⊢
  generalize W2.heap.size = ba at A2 ⊢
  refine (HOFB.out _ Q2.out.lies).mono ?_
  rintro e W3 ⟨qb, cb, rfl, hl, hB⟩
  have hal : Below W3.heap.size W3 (W3.alloc (.cells #[.string b.nm, .slice qb b.fs.length cb] 27)) := (Below.refl _ _).alloc (Nat.le_refl _) _
  have B3 := Lib.hid (show ClBox (W3.alloc (.cells #[.string b.nm, .slice qb b.fs.length cb] 27)) W3.heap.size b qb cb from ⟨CBox.new _ _ _ _ _, hl.below hal⟩)
  have O3 := Lib.hid ((O2.out.below hB).below hal)
  have a3 := (A2.out.below hB).below hal
  clear r0 r2 O2 A2 Q2 hl hB hal
  obtain ⟨c0, c1⟩ := a3.box.facts
  have A3 := Lib.hid a3
  clear a3
  go_wp2_with fail
  generalize W3.alloc (.cells #[.string b.nm, .slice qb b.fs.length cb] 27) = U3 at A3 O3 B3 c0 c1 ⊢
  generalize W3.heap.size = bb at B3 ⊢
  refine (ENCA.out _ qa ca A3.out.lies O3.out.t).mono ?_
  rintro e W4 ⟨rfl, hB⟩
  have O4 := Lib.hid (O3.out.below hB)
  have A4 := Lib.hid (A3.out.below hB)
  have B4 := Lib.hid (B3.out.below hB)
  clear hB O3 A3 B3 c0 c1
  obtain ⟨c0, c1⟩ := B4.out.box.facts
  go_wp2_with fail
  refine (ENCB.out _ qb cb B4.out.lies O4.out.t).mono ?_
  rintro e W5 ⟨rfl, hB⟩
  have O5 := Lib.hid (O4.out.below hB)
  have A5 := Lib.hid (A4.out.below hB)
  have B5 := Lib.hid (B4.out.below hB)
  clear hB O4 A4 B4 c0 c1
  go_wp2_with fail
  refine (HDEC.out _ O5.out.t O5.out.e).mono ?_
  rintro e W6 ⟨⟨qd, cd, rfl, hl⟩, hB⟩
  have hal : Below W6.heap.size W6 (W6.alloc (.cells #[.string a.nm, .slice qd a.fs.length cd] 27)) := (Below.refl _ _).alloc (Nat.le_refl _) _
  have D6 := Lib.hid (show ClBox (W6.alloc (.cells #[.string a.nm, .slice qd a.fs.length cd] 27)) W6.heap.size a qd cd from ⟨CBox.new _ _ _ _ _, hl.below hal⟩)
  have O6 := Lib.hid ((O5.out.below hB).below hal)
  have A6 := Lib.hid ((A5.out.below hB).below hal)
  have B6 := Lib.hid ((B5.out.below hB).below hal)
  clear O5 A5 B5 hl hB hal
  obtain ⟨c0, c1⟩ := A6.out.box.facts
  obtain ⟨d0, d1⟩ := D6.out.box.facts
  go_wp2_with fail
  refine (HSELF.out _ qd cd qa ca D6.out.lies A6.out.lies).mono ?_
  rintro e W7 ⟨rfl, hB⟩
  have O7 := Lib.hid (O6.out.below hB)
  have A7 := Lib.hid (A6.out.below hB)
  have B7 := Lib.hid (B6.out.below hB)
  clear hB O6 A6 B6 D6 c0 c1 d0 d1
  go_wp2_with fail
  refine (HCUT.out _ O7.out.t O7.out.e).mono ?_
  rintro e W8 ⟨rfl, hB⟩
  have hal : Below W8.heap.size W8 (W8.alloc (.cells #[.string ⟨#[]⟩, .slice none 0 0] 27)) := (Below.refl _ _).alloc (Nat.le_refl _) _
  have O8 := Lib.hid ((O7.out.below hB).below hal)
  have A8 := Lib.hid ((A7.out.below hB).below hal)
  have B8 := Lib.hid ((B7.out.below hB).below hal)
  clear O7 A7 B7 hB hal
  obtain ⟨c0, c1⟩ := A8.out.box.facts
  obtain ⟨d0, d1⟩ := B8.out.box.facts
  have hpq := HPQ.out
  cases same with
  | true =>
    have hp3 : P.toList = Q.toList := by simpa using hpq
    go_wp2_with fail
    refine (HCMP.out _ qa ca qb cb A8.out.lies B8.out.lies).mono ?_
    rintro e W9 ⟨rfl, hB⟩
    have O9 := Lib.hid (O8.out.below hB)
    clear hB O8 A8 B8 c0 c1 d0 d1
    go_wp2_with fail
    go_ret
    exact ⟨rfl, O9.out.b⟩
  | false =>
    have hp3 : ¬ P.toList = Q.toList := by simpa using hpq
    go_wp2_with fail
    refine (HCMP.out _ qa ca qb cb A8.out.lies B8.out.lies).mono ?_
    rintro e W9 ⟨rfl, hB⟩
    have O9 := Lib.hid (O8.out.below hB)
    clear hB O8 A8 B8 c0 c1 d0 d1
    go_wp2_with fail
    go_ret
    exact ⟨rfl, O9.out.b⟩
end Go.Proofs.YtffoklhopmhjaaaDoor

/- append(nil, xs...): a copy. -/
set_option linter.unusedSimpArgs false
set_option linter.unusedVariables false
namespace Go.Proofs.YtffoklhopmhjaaaDoor
open Go Go.RowKit

theorem run_append_zero {P : Program} {w : World} (t ty e : TypeId) (i : TypeInfo) (ht : P.underlying t = some (.slice e)) (hi : P.info? e = some i) (p : Option Addr) (c : Nat) :
    (Builtin.append_ #[t, t] ty #[.slice none 0 0, .slice p 0 c]).run P w = .ok (.slice none 0 0) w := by
  cases p <;> simp [Builtin.append_, run_underlying ht, sizeOf, typeInfo, hi, Builtin.lenOf, Builtin.firstCells, loadCells, loadCellsFrom, Result.andThen]
theorem wpList_append_zero {P : Program} {w : World} {ops : Array Oper} {rest : List Oper} {o : Oper} {a : Act} {Q : Exit → Act → World → Prop} (hgd : o.guard = none) (s x : Operand) (t : TypeId)
    (ho : o.op = .call { callee := .builtin .append, args := #[s, x], argTypes := #[t, t] })
    (e : TypeId) (i : TypeInfo) (ht : P.underlying t = some (.slice e)) (hi : P.info? e = some i)
    (p : Option Addr) (c : Nat) (hs : a.eval s = .slice none 0 0) (hx : a.eval x = .slice p 0 c)
    (h : wpList P ops Q rest (a.put o.dst (.slice none 0 0)) w) : wpList P ops Q (o :: rest) a w := by
  refine wpList_plain hgd fun K hK => ?_
  have hrun := run_append_zero (P := P) (w := w) t o.type e i ht hi p c
  unfold Oper.wp
  simp [execOp, ho, resolve, invoke, builtin, hs, hx, hrun, Result.andThen]
  exact hK _ _ h
/-- append(nil, xs...): a copy in memory of its own -/
theorem wpList_append_copy {P : Program} {w : World} {ops : Array Oper} {rest : List Oper} {o : Oper} {a : Act} {Q : Exit → Act → World → Prop} (hgd : o.guard = none) (s x : Operand) (t : TypeId)
    (ho : o.op = .call { callee := .builtin .append, args := #[s, x], argTypes := #[t, t] })
    (base : Nat) (e : TypeId) (i : TypeInfo) (z : Value) (size bytes : Nat) (ht : P.underlying t = some (.slice e)) (hi : P.info? e = some i) (hz : i.zero = some z)
    (hsize : i.size = size) (hby : i.bytes = bytes) (hzs : z.cells.size = size) (hsz : 0 < size)
    (hs : a.eval s = .slice none 0 0) (p : Option Addr) (m c : Nat) (xs : List Value) (hx : a.eval x = .slice p m c) (hL : Lies w (.slice p m c) m size xs) (h1 : ∀ u ∈ xs, u.oneCell' = true)
    (h63 : m ≤ maxLen) (hbytes : m * bytes ≤ 140737488355328) (hbase : base ≤ w.heap.size)
    (h : ∀ p' c' w', w'.ownsRow base e size (.slice p' m c') m xs → w.grownBy w' none → wpList P ops Q rest (a.put o.dst (.slice p' m c')) w') : wpList P ops Q (o :: rest) a w := by
  rcases Nat.eq_zero_or_pos m with rfl | hm
  · have e0 : xs = [] := List.eq_nil_of_length_eq_zero (by have := hL.1; omega)
    subst e0
    exact wpList_append_zero hgd s x t ho e i ht hi p c hs hx (h none 0 w (World.ownsRow_nil _ _ _ _) ⟨rfl, rfl, rfl, Nat.le_refl _, fun _ _ _ => rfl⟩)
  · obtain ⟨b, off, rfl, hb, hc⟩ : ∃ b off, p = some ⟨b, off, none⟩ ∧ b < w.heap.size ∧ ∀ j u, xs[j]? = some u → w.cell? ⟨b, off + j, none⟩ = some u := by
      rcases hL.2 with ⟨h0, _⟩ | ⟨b, off, c', hv, hb, hc⟩
      · omega
      · injection hv with h1 _ _
        exact ⟨b, off, h1, hb, hc⟩
    refine wpList_append_lies w hgd s x t ho base e i z size bytes ht hi hz hsize hby hzs hsz (Value.slice none 0 0) 0 [] hs (World.ownsRow_nil _ _ _ _) ⟨b, off, none⟩ m c xs hx hL.1 (fun j u hu => ?_) h1 hm (by omega) (by rw [Nat.zero_add]; exact hbytes) hbase w.heap.size rfl ?_
    · have := hc j u hu
      rwa [show (⟨b, off, none⟩ : Addr).add j = ⟨b, off + j, none⟩ from by unfold Addr.add; split <;> simp_all]
    · intro g cap w' hown hg _ _
      rw [Nat.zero_add] at hown ⊢
      exact h _ _ w' hown hg

end Go.Proofs.YtffoklhopmhjaaaDoor

/- The walk of ClassOnce. -/
set_option linter.unusedSimpArgs false
set_option linter.unusedVariables false
namespace Go.Proofs.YtffoklhopmhjaaaDoor
open Go Go.RowKit Go.Shelf

theorem below_none {W W' : World} (h : W.grownBy W' none) : Below W.heap.size W W' := ⟨h.os, h.tape, h.output, h.size, fun k hk => h.block k hk (by simp)⟩
/-- a class with fields of its own, made since a world -/
structure Cp (B : Nat) (W : World) (b : Nat) (nm : ByteArray) (g n c : Nat) (fs : List Fl) (V : World) : Prop where
  box : CBox V b nm (some ⟨g, 0, none⟩) n c
  own : FOwn B V g n c fs
  lo : B ≤ b
  ne : b ≠ g
  below : Below B W V
section
variable {B : Nat} {W V V' : World} {b : Nat} {nm : ByteArray} {g n c : Nat} {fs : List Fl}
theorem Cp.go (h : Cp B W b nm g n c fs V) (hb : Below V.heap.size V V') : Cp B W b nm g n c fs V' := ⟨h.box.below hb, h.own.below hb, h.lo, h.ne, h.below.trans (hb.mono (Nat.le_of_lt (Nat.lt_of_le_of_lt h.lo h.box.lt)))⟩
theorem Cp.lies (h : Cp B W b nm g n c fs V) : FLies V (some ⟨g, 0, none⟩) n c fs := h.own.lies
theorem Cp.set (h : Cp B W b nm g n c fs V) (k : Nat) (hk : k < fs.length) (j : Nat) (hj : j < 4) (u : Value) (f : Fl) (hf : f.cells = (fs[k].cells).set j u) : Cp B W b nm g n c (fs.set k f) (V.setCell ⟨g, k * 4 + j, none⟩ u) :=
  ⟨(Below.heap_setCell V ⟨g, k * 4 + j, none⟩ u b h.ne).trans h.box, h.own.set k hk j hj u f hf, h.lo, h.ne, h.below.setCell (p := ⟨g, k * 4 + j, none⟩) h.own.lt.1 u⟩
/-- a copy's fields are its own -/
theorem Cp.ofCopy {W U : World} {nm : ByteArray} {q : Option Addr} {n c g c' : Nat} {fs : List Fl} (hn : n = fs.length) (hU : U = W.alloc (.cells #[.string nm, .slice q n c] 27)) {U' : World} (ho : U'.ownsRow U.heap.size 53 4 (.slice (some ⟨g, 0, none⟩) n c') n (flCells fs)) (hg : U.grownBy U' none) :
    Cp W.heap.size W W.heap.size nm g n c' fs (U'.setCell ⟨W.heap.size, 1, none⟩ (.slice (some ⟨g, 0, none⟩) n c')) := by
  subst hU
  have hz : (W.alloc (.cells #[.string nm, .slice q n c] 27)).heap.size = W.heap.size + 1 := World.size_alloc _ _
  rw [hz] at ho
  have hgl := ho.lt g rfl
  have hb := below_none hg
  have hbx := (CBox.new W nm q n c).below hb
  refine ⟨?_, ⟨hn, ?_⟩, Nat.le_refl _, by omega, ?_⟩
  · exact hbx.set1 _ _ _
  · exact owned_base (ownsRow_setCell_other ho (a := ⟨W.heap.size, 1, none⟩) (fun e => by have := Option.some.inj e; simp at this; omega) _) (by omega)
  · exact ((((Below.refl _ _).alloc (Nat.le_refl _) _).trans (hb.mono (by rw [hz]; omega)))).setCell (p := ⟨W.heap.size, 1, none⟩) (Nat.le_refl _) _
/-- a field more -/
theorem Cp.ofMore {W U : World} {nm : ByteArray} {q : Option Addr} {n c g c' g0 : Nat} {fs : List Fl} (f : Fl) (hn : n = fs.length) (hU : U = W.alloc (.cells #[.string nm, .slice q n c] 27)) {U2 U3 : World}
    (hb : Below U.heap.size U U2) (hg0 : U.heap.size ≤ g0) (hg : U2.grownBy U3 (some g0)) (ho : U3.ownsRow U.heap.size 53 4 (.slice (some ⟨g, 0, none⟩) (n + 1) c') (n + 1) (flCells fs ++ f.cells)) :
    Cp W.heap.size W W.heap.size nm g (n + 1) c' (fs ++ [f]) (U3.setCell ⟨W.heap.size, 1, none⟩ (.slice (some ⟨g, 0, none⟩) (n + 1) c')) := by
  subst hU
  have hz : (W.alloc (.cells #[.string nm, .slice q n c] 27)).heap.size = W.heap.size + 1 := World.size_alloc _ _
  rw [hz] at ho hg0
  have hgl := ho.lt g rfl
  have hbx := ((CBox.new W nm q n c).below hb).grown hg (fun e => by have := Option.some.inj e; omega)
  have hb3 : Below W.heap.size W U3 := by
    have h1 := ((Below.refl W.heap.size W).alloc (Nat.le_refl _) (.cells #[.string nm, .slice q n c] 27)).trans (hb.mono (by rw [hz]; omega))
    exact h1.grown hg h1.size (fun g' hg' => by have := Option.some.inj hg'; omega)
  refine ⟨?_, ⟨by simp [hn], ?_⟩, Nat.le_refl _, by omega, ?_⟩
  · exact hbx.set1 _ _ _
  · rw [flCells_append]
    exact owned_base (ownsRow_setCell_other ho (a := ⟨W.heap.size, 1, none⟩) (fun e => by have := Option.some.inj e; simp at this; omega) _) (by omega)
  · exact hb3.setCell (p := ⟨W.heap.size, 1, none⟩) (Nat.le_refl _) _
end
theorem fine_set {fs : List Fl} (h : ∀ f ∈ fs, f.fine) (k : Nat) {g : Fl} (hg : g.fine) : ∀ f ∈ fs.set k g, f.fine := fun f hf => by
  rcases List.mem_or_eq_of_mem_set hf with h1 | rfl
  · exact h f h1
  · exact hg
theorem fine_more {fs : List Fl} (h : ∀ f ∈ fs, f.fine) {g : Fl} (hg : g.fine) : ∀ f ∈ fs ++ [g], f.fine := fun f hf => by
  rcases List.mem_append.1 hf with h1 | h1
  · exact h f h1
  · rw [List.mem_singleton.1 h1]; exact hg
theorem byte_text (b : UInt8) (w : World) : (convert 56 9 (.slice (some ⟨w.heap.size, 0, none⟩) 1 1)).run Tryd.prog (w.alloc (.cells #[.int .u8 (b.toNat : Int)] 5)).drew =
    .ok (.string ⟨#[b]⟩) (w.alloc (.cells #[.int .u8 (b.toNat : Int)] 5)).drew := by
  have := run_convert_bytes_back (P := Tryd.prog) (w.alloc (.cells #[.int .u8 (b.toNat : Int)] 5)).drew 56 9 5 ⟨w.heap.size, 0, none⟩ 1 [b] Tryd.underlying56 Tryd.underlying5 Tryd.underlying9 (fun j hj => by
    obtain rfl : j = 0 := by simpa using hj
    exact cell_of_row _ w.heap.size 0 #[.int .u8 (b.toNat : Int)] 5 (0, 0) (World.alloc_heap_new w _))
  exact this
/-- the class, and its fields, with what is carried along -/
structure OC (ea : Addr) (w : World) (ba : Nat) (a : Cl) (q : Option Addr) (c : Nat) (W : World) : Prop where
  ok : OkB ea w W
  cls : ClBox W ba a q c
theorem OC.go {ea : Addr} {w : World} {ba : Nat} {a : Cl} {q : Option Addr} {c : Nat} {W W' : World} (h : OC ea w ba a q c W) (hb : Below W.heap.size W W') : OC ea w ba a q c W' := ⟨h.ok.below hb, h.cls.below hb⟩
theorem OC.lt {ea : Addr} {w : World} {ba : Nat} {a : Cl} {q : Option Addr} {c : Nat} {W : World} (h : OC ea w ba a q c W) : ba < W.heap.size := h.cls.box.lt
/-- the k-th field's name in its cell -/
theorem fl_name {W : World} {b off n c : Nat} {fs : List Fl} (h : FLies W (some ⟨b, off, none⟩) n c fs) (k : Nat) (hk : k < fs.length) : b < W.heap.size ∧ W.cell? ⟨b, off + k * 4, none⟩ = some (.string fs[k].nm) := by
  obtain ⟨b', off', he, hb, hc⟩ := h.2.at (by omega)
  injection he with he
  injection he with e1 e2
  subst e1 e2
  have := hc (k * 4 + 0) _ (flCells_at fs k hk 0 (.string fs[k].nm) rfl)
  exact ⟨hb, this⟩

/-- append(nil, xs...) of one thing or more -/
theorem wpList_append_mine {P : Program} {w : World} {ops : Array Oper} {rest : List Oper} {o : Oper} {a : Act} {Q : Exit → Act → World → Prop} (hgd : o.guard = none) (s x : Operand) (t : TypeId)
    (ho : o.op = .call { callee := .builtin .append, args := #[s, x], argTypes := #[t, t] })
    (base : Nat) (e : TypeId) (i : TypeInfo) (z : Value) (size bytes : Nat) (ht : P.underlying t = some (.slice e)) (hi : P.info? e = some i) (hz : i.zero = some z)
    (hsize : i.size = size) (hby : i.bytes = bytes) (hzs : z.cells.size = size) (hsz : 0 < size)
    (hs : a.eval s = .slice none 0 0) (p : Option Addr) (m c : Nat) (xs : List Value) (hx : a.eval x = .slice p m c) (hL : Lies w (.slice p m c) m size xs) (h1 : ∀ u ∈ xs, u.oneCell' = true)
    (h63 : m ≤ maxLen) (hbytes : m * bytes ≤ 140737488355328) (hbase : base ≤ w.heap.size) (hm : 0 < m)
    (h : ∀ g c' w', w'.ownsRow base e size (.slice (some ⟨g, 0, none⟩) m c') m xs → w.grownBy w' none → wpList P ops Q rest (a.put o.dst (.slice (some ⟨g, 0, none⟩) m c')) w') : wpList P ops Q (o :: rest) a w := by
  refine wpList_append_copy hgd s x t ho base e i z size bytes ht hi hz hsize hby hzs hsz hs p m c xs hx hL h1 h63 hbytes hbase ?_
  intro p' c' w' hown hg
  obtain ⟨g, cap, he, _⟩ := hown.form hm
  injection he with e1 _ e2
  subst e1 e2
  exact h g _ w' hown hg
end Go.Proofs.YtffoklhopmhjaaaDoor

/- What ClassFits carries along; rows that are copied and stored into. -/
set_option linter.unusedSimpArgs false
set_option linter.unusedVariables false
namespace Go.Proofs.YtffoklhopmhjaaaDoor
open Go Go.RowKit Go.Shelf

theorem its_one : ∀ (ys : List It), ∀ u ∈ itsCells ys, u.oneCell' = true
  | [], u, hu => by cases hu
  | y :: ys, u, hu => by
    have hu' : u ∈ y.cells ++ itsCells ys := hu
    rcases List.mem_append.1 hu' with h | h
    · simp only [It.cells, List.mem_cons, List.mem_nil_iff, or_false] at h
      rcases h with rfl | rfl | rfl | rfl <;> rfl
    · exact its_one ys u h
theorem vrow_add {base : Nat} {W0 W W' : World} {vs : List V} {v v' : Value} {u : V} {y : It} {ys : List It} (h1 : ys.length = vs.length) (h2 : W0.ownsRow base 31 4 v ys.length (itsCells ys)) (h3 : ∀ (i : Nat) (h : i < ys.length) (h' : i < vs.length), VAt 1 W0 vs[i] ys[i]) (h4 : ∀ y ∈ ys, ∀ a, y.p = some a → v.ownBlock ≠ some a.block ∧ a.block < W0.heap.size)
    (hb : Below W0.heap.size W0 W) (hy : VAt 1 W u y) (hya : ∀ a, y.p = some a → W0.heap.size ≤ a.block ∧ a.block < W.heap.size)
    (hg : W.grownBy W' v.ownBlock) (ho' : W'.ownsRow base 31 4 v' (ys.length + 1) (itsCells ys ++ y.cells)) (hat : ∀ b, v'.ownBlock = some b → v.ownBlock = some b ∨ W.heap.size ≤ b) : VRow base W' (vs ++ [u]) v' := by
  have hall : ∀ z ∈ ys ++ [y], ∀ a, z.p = some a → v.ownBlock ≠ some a.block ∧ a.block < W.heap.size := fun z hz a ha => by
    rcases List.mem_append.1 hz with hz | hz
    · exact ⟨(h4 z hz a ha).1, Nat.lt_of_lt_of_le (h4 z hz a ha).2 hb.size⟩
    · rw [List.mem_singleton.1 hz] at ha
      refine ⟨fun e => ?_, (hya a ha).2⟩
      have := (h2.lt _ e).2
      have := (hya a ha).1
      omega
  refine ⟨ys ++ [y], by simp [h1], ?_, fun i a b => ?_, fun z hz a ha => ⟨fun e => ?_, Nat.lt_of_lt_of_le (hall z hz a ha).2 hg.size⟩⟩
  · rw [its_app, List.length_append]; exact ho'
  · have hz : (ys ++ [y])[i] ∈ ys ++ [y] := List.getElem_mem a
    have hne := hall _ hz
    refine vat_grown (W := W) ?_ hg (fun q hq => (hne q hq).1)
    rcases Nat.lt_or_ge i ys.length with hl | hl
    · have e1 : (ys ++ [y])[i] = ys[i] := List.getElem_append_left hl
      have e2 : (vs ++ [u])[i] = vs[i]'(by omega) := List.getElem_append_left (by omega)
      rw [e1, e2]
      exact (h3 i hl (by omega)).below hb
    · obtain rfl : i = ys.length := by simp at a; omega
      have e1 : (ys ++ [y])[ys.length] = y := by simp
      have e2 : (vs ++ [u])[ys.length] = u := by simp [h1]
      rw [e1, e2]
      exact hy
  · rcases hat _ e with h5 | h5
    · exact (hall z hz a ha).1 h5
    · have := (hall z hz a ha).2
      omega
/-- a copied row, one value of which is stored anew -/
theorem vcopy {W W' : World} {g n c : Nat} {ys : List It} (hn : n = ys.length) (ho : W'.ownsRow W.heap.size 31 4 (.slice (some ⟨g, 0, none⟩) n c) n (itsCells ys)) (hg : W.grownBy W' none) (k : Nat) (hk : k < ys.length) (y : It) :
    Below W.heap.size W ((((W'.setCell ⟨g, k * 4, none⟩ (.int .i64 y.k)).setCell ⟨g, k * 4 + 1, none⟩ (.int .i64 y.n)).setCell ⟨g, k * 4 + 2, none⟩ (.string y.s)).setCell ⟨g, k * 4 + 3, none⟩ (.slice y.p y.m y.c)) ∧
    Lies ((((W'.setCell ⟨g, k * 4, none⟩ (.int .i64 y.k)).setCell ⟨g, k * 4 + 1, none⟩ (.int .i64 y.n)).setCell ⟨g, k * 4 + 2, none⟩ (.string y.s)).setCell ⟨g, k * 4 + 3, none⟩ (.slice y.p y.m y.c)) (.slice (some ⟨g, 0, none⟩) n c) n 4 (itsCells (ys.set k y)) := by
  have hl := (ho.lt g rfl).1
  exact ⟨((((below_none hg).setCell (p := ⟨g, k * 4, none⟩) hl _).setCell (p := ⟨g, k * 4 + 1, none⟩) hl _).setCell (p := ⟨g, k * 4 + 2, none⟩) hl _).setCell (p := ⟨g, k * 4 + 3, none⟩) hl _, Lies.own ((VOwn.mk hn ho).put k hk y).row⟩
theorem vsat_set {W : World} {vs : List V} {ys : List It} {k : Nat} {v : V} {y : It} {vp : Option Addr} {n c : Nat} (hn : n = ys.length) (hlen : ys.length = vs.length) (hl : Lies W (.slice vp n c) n 4 (itsCells (ys.set k y))) (hi : ∀ (i : Nat) (h : i < ys.length) (h' : i < vs.length), VAt 1 W vs[i] ys[i]) (hy : VAt 1 W v y) : VsAt 1 W (vs.set k v) vp n c := by
  subst hn
  refine ⟨ys.set k y, by simp, by simp [hlen], by rw [List.length_set]; exact hl, fun i a b => ?_⟩
  rw [List.getElem_set, List.getElem_set]
  split
  · exact hy
  · exact hi i (by simpa using a) (by simpa using b)
/-- the class, and its values -/
structure FitSt (ea : Addr) (w : World) (ba : Nat) (a : Cl) (q : Option Addr) (c : Nat) (vs : List V) (ys : List It) (vp : Option Addr) (vc : Nat) (W : World) : Prop where
  oc : OC ea w ba a q c W
  vl : Lies W (.slice vp ys.length vc) ys.length 4 (itsCells ys)
  vi : ∀ (i : Nat) (h : i < ys.length) (h' : i < vs.length), VAt 1 W vs[i] ys[i]
section
variable {ea : Addr} {w : World} {ba : Nat} {a : Cl} {q : Option Addr} {c : Nat} {vs : List V} {ys : List It} {vp : Option Addr} {vc : Nat} {W W' : World}
theorem FitSt.go (h : FitSt ea w ba a q c vs ys vp vc W) (hb : Below W.heap.size W W') : FitSt ea w ba a q c vs ys vp vc W' := ⟨h.oc.go hb, h.vl.below hb, fun i a b => (h.vi i a b).below hb⟩
theorem FitSt.at (h : FitSt ea w ba a q c vs ys vp vc W) (hlen : ys.length = vs.length) : VsAt 1 W vs vp ys.length vc := ⟨ys, rfl, hlen, h.vl, h.vi⟩
end
/-- the k-th value's four cells -/
theorem its_cells {W : World} {vp : Option Addr} {n c : Nat} {ys : List It} (h : Lies W (.slice vp n c) n 4 (itsCells ys)) (k : Nat) (hk : k < ys.length) (hn : n = ys.length) : ∃ b off, vp = some ⟨b, off, none⟩ ∧ b < W.heap.size ∧ W.cell? ⟨b, off + k * 4, none⟩ = some (.int .i64 ys[k].k) ∧ W.cell? ⟨b, off + k * 4 + 1, none⟩ = some (.int .i64 ys[k].n) ∧ W.cell? ⟨b, off + k * 4 + 2, none⟩ = some (.string ys[k].s) ∧ W.cell? ⟨b, off + k * 4 + 3, none⟩ = some (.slice ys[k].p ys[k].m ys[k].c) := by
  obtain ⟨b, off, e, hb, hc⟩ := h.at (by omega)
  have hx : ∀ (j : Nat) (u : Value), (ys[k].cells)[j]? = some u → W.cell? ⟨b, off + k * 4 + j, none⟩ = some u := fun j u hu => by
    rw [Nat.add_assoc]
    exact hc _ _ (itsCells_at ys k hk j u hu)
  exact ⟨b, off, e, hb, hx 0 _ rfl, hx 1 _ rfl, hx 2 _ rfl, hx 3 _ rfl⟩
/-- a class's box that was stored into, and fields of its own -/
theorem Cp.ofBox {W U U' : World} {b : Nat} {nm : ByteArray} {q : Option Addr} {n c g c' : Nat} {fs : List Fl} (hn : n = fs.length) (hbx : CBox U b nm q n c) (hlo : W.heap.size ≤ b) (hU : Below W.heap.size W U) (ho : U'.ownsRow U.heap.size 53 4 (.slice (some ⟨g, 0, none⟩) n c') n (flCells fs)) (hg : U.grownBy U' none) :
    Cp W.heap.size W b nm g n c' fs (U'.setCell ⟨b, 1, none⟩ (.slice (some ⟨g, 0, none⟩) n c')) := by
  have hgl := ho.lt g rfl
  have hbl := hbx.lt
  have hb := below_none hg
  have hs := hU.size
  refine ⟨(hbx.below hb).set1 _ _ _, ⟨hn, ?_⟩, hlo, by omega, ?_⟩
  · exact owned_base (ownsRow_setCell_other ho (a := ⟨b, 1, none⟩) (fun e => by have := Option.some.inj e; simp at this; omega) _) (by omega)
  · exact (hU.trans (hb.mono hs)).setCell (p := ⟨b, 1, none⟩) hlo _
/-- the k-th field's type in its cells -/
theorem fl_type {W : World} {b off n c : Nat} {fs : List Fl} (h : FLies W (some ⟨b, off, none⟩) n c fs) (k : Nat) (hk : k < fs.length) : W.cell? ⟨b, off + k * 4 + 1, none⟩ = some (.int .i64 fs[k].k) ∧ W.cell? ⟨b, off + k * 4 + 2, none⟩ = some (.int .i64 fs[k].o) := by
  obtain ⟨b', off', he, hb, hc⟩ := h.2.at (by omega)
  injection he with he
  injection he with e1 e2
  subst e1 e2
  have h1 := hc (k * 4 + 1) _ (flCells_at fs k hk 1 (.int .i64 fs[k].k) rfl)
  have h2 := hc (k * 4 + 2) _ (flCells_at fs k hk 2 (.int .i64 fs[k].o) rfl)
  rw [← Nat.add_assoc] at h1 h2
  exact ⟨h1, h2⟩
def otherName : ByteArray := ⟨#[111, 116, 104, 101, 114]⟩
theorem otherName_ok : nmOk otherName.data.toList = true := by decide
end Go.Proofs.YtffoklhopmhjaaaDoor

/- The walk of ClassFits. -/
set_option linter.unusedSimpArgs false
set_option linter.unusedVariables false
namespace Go.Proofs.YtffoklhopmhjaaaDoor
open Go Go.RowKit Go.Shelf

set_option maxHeartbeats 8000000 in
set_option maxRecDepth 100000 in
theorem classFits_walk (x : CRaw) (hx : x.fine) (p : Option Addr) (c0' : Nat) (l : List Int) (lp : Option Addr) (lc : Nat) (hll : l.length ≤ 9223372036854775807) (i : Int) (hi0 : 0 ≤ i) (hi1 : i ≤ 255) (k : Int) (hk0 : 0 ≤ k) (hk1 : k ≤ 255) (ea : Addr) (w : World) (hT : Tabs w) (hE : errLies ea w)
    (hL : Lies w (.slice p x.l.length c0') x.l.length 4 (frawCells x.l)) (hI : ILies w lp lc l) :
    Calls Tryd.prog 5 #[crawV x p c0', .slice lp l.length lc, .int .u8 i, .int .u8 k] w fun e w' => e = .returned (.bool true) ∧ Below w.heap.size w w' := by
  obtain ⟨i0, hi, hz0, hz1, hz2⟩ := info_parts infoVal4
  obtain ⟨j0, hj, hy0, hy1, hy2⟩ := info_parts infoFld2
  have b1 : Below w.heap.size w (w.alloc (.cells #[.int .i64 x.n, .slice p x.l.length c0'] 24)) := (Below.refl _ _).alloc (Nat.le_refl _) _
  have R0 : CRBox (w.alloc (.cells #[.int .i64 x.n, .slice p x.l.length c0'] 24)) w.heap.size x p c0' := ⟨World.alloc_heap_new _ _, hL.below b1⟩
  have oka := clsOf_ok x
  have hsz := clsOf_names x
  have hofa := fun W h => clsOf_any x hx p c0' W h
  unfold clsOfPost at hofa
  generalize clsOf x = a at oka hsz hofa
  obtain ⟨wa1, wa2, wa3, wa4, wa5⟩ := cl_wide oka
  obtain ⟨nm, fs⟩ := a
  simp only at wa1 wa2 wa3 hsz hofa
  have hok : ∀ (i : Nat) (h : i < fs.length), rtB fs[i].k fs[i].o = true := fun i h => (Fl.ok_parts ((Cl.ok_parts oka).2.2 i h).1).2.2.2.1
  have hfit := vsTo_fit oka l (many := 4) (by decide)
  have hvo := fun W q c (hF : FLies W q fs.length c fs) (hI : ILies W lp lc l) => valsOf4_any nm q c fs wa3 hok l lp lc hll 4 (by decide) W hF hI
  unfold valsOf4Post at hvo
  generalize vsTo fs l 4 fs.length = vs at hfit hvo
  have hchk : ∀ (cn : ByteArray) (hcn : cn.size ≤ 9223372036854775807) (gs : List Fl) (hgs : ∀ f ∈ gs, f.fine) (us : List V) W q c p m2 c2, FLies W q gs.length c gs → gs.length ≤ 9 → VsAt 1 W us p m2 c2 → m2 ≤ 9 → Tabs W → Calls Tryd.prog 12 #[clV cn q gs.length c, .slice p m2 c2] W fun e w' => e = .returned (.tuple #[.int .i64 (checkC ⟨cn, gs⟩ us).1, .int .i64 (checkC ⟨cn, gs⟩ us).2]) ∧ Below W.heap.size W w' := fun cn hcn gs hgs us W q c p m2 c2 h1 h2 h3 h4 hT => clsCheck_any 1 cn q gs.length c gs hcn hgs us p m2 c2 W h1 (by omega) h3 (by omega) hT
  have O0 : OkB ea w (w.alloc (.cells #[.int .i64 x.n, .slice p x.l.length c0'] 24)) := ⟨hT.below b1, hE.below b1, b1⟩
  have HOFA := Lib.hid hofa
  have HVO := Lib.hid hvo
  have HCHK := Lib.hid hchk
  have OKA := Lib.hid oka
  have OKT := Lib.hid hok
  have WA1 := Lib.hid wa1
  have WA2 := Lib.hid wa2
  have HSZ := Lib.hid hsz
  have HFIT := Lib.hid hfit
  have HI := Lib.hid hI
  clear hofa hvo hchk hT hE hL b1 oka hok hx wa1 wa4 wa5 wa2 hsz hfit hI hll
  go_enter Tryd.func5, Tryd.ntmps5
  go_wp2_with fail
  refine (clsEx_any ea _ O0.t O0.e).mono ?_
  rintro e W1 ⟨rfl, hB⟩
  have O1 := Lib.hid (O0.below hB)
  have r1 := R0.below hB
  clear O0 R0 hB
  obtain ⟨r0, r2⟩ := r1.facts
  have R1 := Lib.hid r1
  clear r1
  go_wp2_with fail
  refine (HOFA.out _ R1.out.lies).mono ?_
  rintro e W2 ⟨q, c, rfl, hl, hB⟩
  have hal : Below W2.heap.size W2 (W2.alloc (.cells #[.string nm, .slice q fs.length c] 27)) := (Below.refl _ _).alloc (Nat.le_refl _) _
  have A2 := Lib.hid (show OC ea w W2.heap.size ⟨nm, fs⟩ q c (W2.alloc (.cells #[.string nm, .slice q fs.length c] 27)) from ⟨(O1.out.below hB).below hal, CBox.new _ _ _ _ _, hl.below hal⟩)
  clear r0 r2 O1 R1 hl hB hal HOFA
  obtain ⟨c0, c1⟩ := A2.out.cls.box.facts
  simp only at c0 c1
  go_wp2_with fail
  generalize W2.alloc (.cells #[.string nm, .slice q fs.length c] 27) = U2 at A2 c0 c1 ⊢
  generalize W2.heap.size = ba at A2 c0 c1 ⊢
  refine (HVO.out U2 q c A2.out.cls.lies (HI.out.below A2.out.ok.b)).mono ?_
  rintro e W3 ⟨vp, vc, rfl, hv, hB⟩
  obtain ⟨ys, hyl, hlen, hvl, hvi⟩ := hv
  have F3 := Lib.hid (show FitSt ea w ba ⟨nm, fs⟩ q c vs ys vp vc W3 from ⟨A2.out.go hB, hvl, hvi⟩)
  clear hvl hvi hB c0 c1 HVO HI A2
  obtain ⟨c0, c1⟩ := F3.out.oc.cls.box.facts
  simp only at c0 c1
  have hm9 : fs.length ≤ 9 := by omega
  have hy9 : ys.length ≤ 9 := by omega
  have hc3 := HCHK.out nm WA1.out fs WA2.out vs W3 q c vp ys.length vc F3.out.oc.cls.lies hm9 (F3.out.at hlen) hy9 F3.out.oc.ok.t
  rw [HFIT.out.check OKA.out, ← hyl] at hc3
  have HC3 := Lib.hid hc3
  have HYL := Lib.hid hyl
  have HLEN := Lib.hid hlen
  clear hc3 hlen
  by_cases hn0 : fs.length = 0
  · have z0 : ((fs.length : Int) == 0) = true := by rw [beq_iff_eq]; omega
    clear hn0 hyl
    go_wp2_with fail
    refine HC3.out.mono ?_
    rintro e W4 ⟨rfl, hB⟩
    have F4 := F3.out.go hB
    obtain ⟨d0, d1⟩ := F4.oc.cls.box.facts
    simp only at d0 d1
    have HF4 := Lib.hid F4
    clear hB F4
    go_wp2_with fail
    go_ret
    exact ⟨rfl, HF4.out.oc.ok.b⟩
  · have z0 : ((fs.length : Int) == 0) = false := by rw [beq_eq_false_iff_ne]; omega
    have z1 : ¬ (fs.length : Int) = 0 := by omega
    obtain ⟨ka, hka⟩ : ∃ ka : Nat, i % (fs.length : Int) = (ka : Int) := ⟨(i % (fs.length : Int)).toNat, by have := Int.emod_nonneg i (b := (fs.length : Int)) (by omega); omega⟩
    have hal : ka < fs.length := by have := Int.emod_lt_of_pos i (b := (fs.length : Int)) (by omega); omega
    obtain ⟨kb, hkb⟩ : ∃ kb : Nat, k % (fs.length : Int) = (kb : Int) := ⟨(k % (fs.length : Int)).toNat, by have := Int.emod_nonneg k (b := (fs.length : Int)) (by omega); omega⟩
    have hbl : kb < fs.length := by have := Int.emod_lt_of_pos k (b := (fs.length : Int)) (by omega); omega
    have z3 : i.tmod (fs.length : Int) = (ka : Int) := by rw [Int.tmod_eq_emod_of_nonneg hi0]; exact hka
    have z3' : k.tmod (fs.length : Int) = (kb : Int) := by rw [Int.tmod_eq_emod_of_nonneg hk0]; exact hkb
    have z4 : IntKind.i64.wrap i = i := IntWalk.i64_in _ (by omega)
    have z4' : IntKind.i64.wrap k = k := IntWalk.i64_in _ (by omega)
    have z5 : IntKind.i64.wrap (ka : Int) = (ka : Int) := IntWalk.i64_in _ (by omega)
    have z5' : IntKind.i64.wrap (kb : Int) = (kb : Int) := IntWalk.i64_in _ (by omega)
    have z6 : (0 : Int) ≤ (ka : Int) := by omega
    have z7 : (ka : Int) < (fs.length : Int) := by omega
    have z6' : (0 : Int) ≤ (kb : Int) := by omega
    have z7' : (kb : Int) < (fs.length : Int) := by omega
    have hay : ka < ys.length := by omega
    have hby : kb < ys.length := by omega
    obtain ⟨vb, voff, rfl, _⟩ := F3.out.vl.at (by omega)
    obtain ⟨ab, off, rfl, _⟩ := F3.out.oc.cls.lies.2.at (show 0 < fs.length by omega)
    clear hka hkb hn0 hyl
    go_wp2_with fail
    refine HC3.out.mono ?_
    rintro e W4 ⟨rfl, hB⟩
    have F4 := Lib.hid (F3.out.go hB)
    clear c0 c1 hB HC3 F3
    obtain ⟨c0, c1⟩ := F4.out.oc.cls.box.facts
    simp only at c0 c1
    go_wp2_with fail
    clear c0 c1
    go_loopw [17, 18] (fun v s wr => ∃ (j : Nat) (zp : Option Addr) (zc : Nat), j ≤ fs.length ∧ s = .int .i64 (j : Int) ∧ v = .slice zp j zc ∧ Below W4.heap.size W4 wr ∧ VRow W4.heap.size wr (zerosTo fs j) (.slice zp j zc)) (fun v s _ => fs.length - (intOf s).toNat)
    case atStart => exact ⟨0, none, 0, by omega, rfl, rfl, Below.refl _ _, VRow.nil _ _⟩
    case round =>
      obtain ⟨j, zp, zc, hjl, rfl, rfl, hBW, hrow⟩ := hrel
      have HBW := Lib.hid hBW
      have HROW := Lib.hid hrow
      have hfs := F4.out.go hBW
      obtain ⟨c0, c1⟩ := hfs.oc.cls.box.facts
      simp only at c0 c1
      have FS := Lib.hid hfs
      have hszw := hBW.size
      clear hrow hfs hBW
      by_cases hjn : j < fs.length
      · have d1 : decide ((j : Int) < (fs.length : Int)) = true := decide_eq_true (by omega)
        have d1' : (j : Int) < (fs.length : Int) := by omega
        have d0 : (0 : Int) ≤ (j : Int) := by omega
        obtain ⟨t0, t1⟩ := fl_type FS.out.oc.cls.lies j hjn
        simp only at t0 t1
        have hz := fun W => zero_any fs[j].k fs[j].o W
        have hsucc := zerosTo_succ fs j hjn
        have hzk : -9223372036854775808 ≤ zeroK fs[j].k fs[j].o ∧ zeroK fs[j].k fs[j].o ≤ 9223372036854775807 := by
          have := (WA2.out _ (List.getElem_mem hjn)).2.1
          unfold zeroK; split <;> omega
        generalize fs[j].k = fk at t0 hz hsucc hzk
        generalize fs[j].o = fo at t1 hz hsucc hzk
        generalize zeroK fk fo = zk at hz hsucc hzk
        have HZ := Lib.hid hz
        have HSU := Lib.hid hsucc
        have HZK := Lib.hid hzk
        clear hz hsucc hzk
        go_wp2_with fail
        refine (HZ.out _).mono ?_
        rintro e Y1 ⟨rfl, hBY⟩
        have hBY4 := HBW.out.trans (hBY.mono hszw)
        obtain ⟨ws, k1, k2, k3, k4⟩ := HROW.out.go hBY
        have k6 : ws.length = j := by rw [k1, zerosTo_len]
        have hal1 := (Below.refl Y1.heap.size Y1).alloc (Nat.le_refl _) (.cells #[.int .i64 zk, .int .i64 0, .string ⟨#[]⟩, .slice none 0 0] 31)
        have k5 : (Y1.alloc (.cells #[.int .i64 zk, .int .i64 0, .string ⟨#[]⟩, .slice none 0 0] 31)).ownsRow W4.heap.size 31 4 (.slice zp j zc) j (itsCells ws) := by
          rw [k6] at k2
          exact k2.alloc _
        have hszy := hBY4.size
        have hnext : ∀ gg cap w2, w2.ownsRow W4.heap.size 31 4 (.slice (some ⟨gg, 0, none⟩) (j + 1) cap) (j + 1) (itsCells ws ++ [.int .i64 zk, .int .i64 0, .string ⟨#[]⟩, .slice none 0 0]) → (Y1.alloc (.cells #[.int .i64 zk, .int .i64 0, .string ⟨#[]⟩, .slice none 0 0] 31)).grownBy w2 (Value.slice zp j zc).ownBlock → ((Value.slice zp j zc).ownBlock = some gg ∨ gg = Y1.heap.size + 1) → Below W4.heap.size W4 w2 ∧ VRow W4.heap.size w2 (zerosTo fs (j + 1)) (.slice (some ⟨gg, 0, none⟩) (j + 1) cap) := fun gg cap w2 hown hg hgg => by
          have hgo : ∀ g, (Value.slice zp j zc).ownBlock = some g → W4.heap.size ≤ g := fun g hg' => (k5.lt g hg').1
          refine ⟨(hBY4.trans (hal1.mono hszy)).grown hg (by rw [World.size_alloc]; omega) (fun g hg' => hgo g hg'), ?_⟩
          rw [HSU.out]
          refine vrow_add (W0 := Y1) k1 k2 k3 k4 hal1 (vat_bare 1 _ HZK.out) (fun a ha => by cases ha) hg (by rw [k6]; exact hown) (fun b hb => ?_)
          rcases hgg with h | h
          · left; rw [h]; exact hb
          · right
            have e := Option.some.inj hb
            simp only at e
            rw [World.size_alloc]; omega
        have HNEXT := Lib.hid hnext
        have K5 := Lib.hid k5
        clear hnext k5 k1 k2 k3 k4 hal1 hBY4 hBY HROW HBW FS HSU HZ HZK c0 c1 t0 t1
        go_wp2_with (at_builtin; refine wpList_append_lies _ rfl _ _ _ rfl W4.heap.size 31 i0 _ 4 56 Tryd.underlying29 hi hz0 hz1 hz2 rfl (by omega) _ j _ rfl K5.out ⟨Y1.heap.size, 0, none⟩ 1 1 [.int .i64 zk, .int .i64 0, .string ⟨#[]⟩, .slice none 0 0] rfl rfl (World.news_of_block (cs := #[.int .i64 zk, .int .i64 0, .string ⟨#[]⟩, .slice none 0 0]) (t := 31) (fr := (0, 0)) (World.alloc_heap_new Y1 _)) (by simp [Value.oneCell']) (by omega) (by simp [maxLen] <;> omega) (by omega) (by simp <;> omega) (Y1.heap.size + 1) (by simp) ?_; intro gg cap w2 hown1 hgrow hatg hlt2)
        exact ⟨⟨j + 1, some ⟨gg, 0, none⟩, cap, by omega, by go_num, rfl, HNEXT.out _ _ _ hown1 hgrow hatg⟩, by simp [intOf]; omega⟩
      · obtain rfl : j = fs.length := by omega
        have d1 : decide ((fs.length : Int) < (fs.length : Int)) = false := decide_eq_false (by omega)
        have hc5 := HCHK.out nm WA1.out fs WA2.out (zerosTo fs fs.length) wr (some ⟨ab, off, none⟩) c zp fs.length zc FS.out.oc.cls.lies hm9 (HROW.out.at (by rw [zerosTo_len])) hm9 FS.out.oc.ok.t
        rw [(zerosTo_fit OKA.out).check OKA.out] at hc5
        have HC5 := Lib.hid hc5
        clear hc5 HROW HBW F4
        go_wp2_with fail
        refine HC5.out.mono ?_
        rintro e W5 ⟨rfl, hB⟩
        have F5 := Lib.hid (FS.out.go hB)
        clear c0 c1 hB HC5 FS hszw
        have hvl := F5.out.vl
        rw [← HYL.out] at hvl
        have HVL := Lib.hid hvl
        clear hvl
        go_upto_region 19 with (at_builtin; refine wpList_append_mine rfl _ _ _ rfl W5.heap.size 31 i0 _ 4 56 Tryd.underlying29 hi hz0 hz1 hz2 rfl (by omega) rfl (some ⟨vb, voff, none⟩) fs.length vc (itsCells ys) rfl HVL.out (its_one ys) (by unfold maxLen; omega) (by omega) (Nat.le_refl _) (by omega) ?_; intro g1 cc1 X1 hown1 hgrow1)
        have x0 : X1.cell? ⟨g1, ka * 4, none⟩ = _ := owned_cell hown1 (ka * 4 + 0) _ (itsCells_at ys ka hay 0 _ rfl)
        have x1 : X1.cell? ⟨g1, ka * 4 + 1, none⟩ = _ := owned_cell hown1 (ka * 4 + 1) _ (itsCells_at ys ka hay 1 _ rfl)
        have x2 : X1.cell? ⟨g1, ka * 4 + 2, none⟩ = _ := owned_cell hown1 (ka * 4 + 2) _ (itsCells_at ys ka hay 2 _ rfl)
        have x3 : X1.cell? ⟨g1, ka * 4 + 3, none⟩ = _ := owned_cell hown1 (ka * 4 + 3) _ (itsCells_at ys ka hay 3 _ rfl)
        have v0 := hown1.frozenAt (ka * 4)
        have v1 := hown1.frozenAt (ka * 4 + 1)
        have v2 := hown1.frozenAt (ka * 4 + 2)
        have v3 := hown1.frozenAt (ka * 4 + 3)
        have hcp := vcopy HYL.out hown1 hgrow1 ka hay ⟨0, 0, ⟨#[]⟩, none, 0, 0⟩
        dsimp only at hcp
        have HCP := Lib.hid hcp
        clear hcp hown1 hgrow1 HVL
        go_upto_region 20 with fail
        have hcp := HCP.out
        clear HCP x0 x1 x2 x3 v0 v1 v2 v3
        generalize (((X1.setCell ⟨g1, ka * 4, none⟩ (.int .i64 0)).setCell ⟨g1, ka * 4 + 1, none⟩ (.int .i64 0)).setCell ⟨g1, ka * 4 + 2, none⟩ (.string ⟨#[]⟩)).setCell ⟨g1, ka * 4 + 3, none⟩ (.slice none 0 0) = X2 at hcp ⊢
        have hf6 := F5.out.go hcp.1
        have hvs6 : VsAt 1 X2 (vs.set ka (.mk 0 0 ⟨#[]⟩ [])) (some ⟨g1, 0, none⟩) fs.length cc1 := vsat_set HYL.out HLEN.out hcp.2 hf6.vi (vat_bare 1 _ (by decide))
        have hnil := fits_nil (OKT.out ka hal)
        have hc6 := HCHK.out nm WA1.out fs WA2.out _ X2 (some ⟨ab, off, none⟩) c (some ⟨g1, 0, none⟩) fs.length cc1 hf6.oc.cls.lies hm9 hvs6 hm9 hf6.oc.ok.t
        have h6t : decide (fs[ka].k = 3 ∨ fs[ka].k = 4) = true → checkC ⟨nm, fs⟩ (vs.set ka (.mk 0 0 ⟨#[]⟩ [])) = (0, 0) := fun h => (HFIT.out.set hal (by rw [hnil]; exact h)).check OKA.out
        have h6f : decide (fs[ka].k = 3 ∨ fs[ka].k = 4) = false → checkC ⟨nm, fs⟩ (vs.set ka (.mk 0 0 ⟨#[]⟩ [])) = ((ka : Int), 42) := fun h => HFIT.out.miss OKA.out hal (by rw [hnil]; exact h)
        generalize checkC ⟨nm, fs⟩ (vs.set ka (.mk 0 0 ⟨#[]⟩ [])) = r6 at hc6 h6t h6f
        obtain ⟨a6, e6⟩ := r6
        simp only [Prod.mk.injEq] at hc6 h6t h6f
        obtain ⟨c0, c1⟩ := hf6.oc.cls.box.facts
        simp only at c0 c1
        have HC6 := Lib.hid hc6
        have H6T := Lib.hid h6t
        have H6F := Lib.hid h6f
        have F6 := Lib.hid hf6
        clear hc6 h6t h6f hf6 hvs6 hnil hcp F5
        go_wp2_with fail
        refine HC6.out.mono ?_
        rintro e W6 ⟨rfl, hB⟩
        have hf7 := F6.out.go hB
        obtain ⟨t0, t1⟩ := fl_type hf7.oc.cls.lies ka hal
        simp only at t0 t1
        clear c0 c1 hB HC6 F6
        obtain ⟨c0, c1⟩ := hf7.oc.cls.box.facts
        simp only at c0 c1
        have F7 := Lib.hid hf7
        clear hf7
        obtain ⟨fk, hfk⟩ : ∃ fk, fs[ka].k = fk := ⟨_, rfl⟩
        rw [hfk] at t0 H6T H6F
        have HFK := Lib.hid hfk
        obtain ⟨rf, hrf⟩ : ∃ rf, decide (fk = 3 ∨ fk = 4) = rf := ⟨_, rfl⟩
        rw [hrf] at H6T H6F
        have HRF := Lib.hid hrf
        clear hfk hrf
        go_upto_region 21 with fail
        go_cut [24] from 31 (fun v24 wx => v24 = .bool rf ∧ wx = W6)
        case first =>
          by_cases h3 : fk = 3
          · have d3 : (fk == 3) = true := by rw [beq_iff_eq]; exact h3
            have hd := Lib.hid (decide_eq_true (show fk = 3 ∨ fk = 4 from .inl h3))
            clear h3
            go_wp2_with fail
            go_meet
            case rel => exact ⟨by rw [← HRF.out, hd.out], rfl⟩
          · have d3 : (fk == 3) = false := by rw [beq_eq_false_iff_ne]; exact h3
            by_cases h4 : fk = 4
            · have d4 : (fk == 4) = true := by rw [beq_iff_eq]; exact h4
              have hd := Lib.hid (decide_eq_true (show fk = 3 ∨ fk = 4 from .inr h4))
              clear h3 h4
              go_wp2_with fail
              go_meet
              case rel => exact ⟨by rw [← HRF.out, hd.out], rfl⟩
            · have d4 : (fk == 4) = false := by rw [beq_eq_false_iff_ne]; exact h4
              have hd := Lib.hid (decide_eq_false (show ¬ (fk = 3 ∨ fk = 4) by omega))
              clear h3 h4
              go_wp2_with fail
              go_meet
              case rel => exact ⟨by rw [← HRF.out, hd.out], rfl⟩
        case rest =>
          obtain ⟨rfl, hwc⟩ := hcut
          have hwc2 := hwc.symm
          subst hwc2
          clear hwc
          clear c0 c1 t0 t1
          have hvl := F7.out.vl
          rw [← HYL.out] at hvl
          have HVL := Lib.hid hvl
          clear hvl
          go_upto_region 23 with (at_builtin; refine wpList_append_mine rfl _ _ _ rfl W6.heap.size 31 i0 _ 4 56 Tryd.underlying29 hi hz0 hz1 hz2 rfl (by omega) rfl (some ⟨vb, voff, none⟩) fs.length vc (itsCells ys) rfl HVL.out (its_one ys) (by unfold maxLen; omega) (by omega) (Nat.le_refl _) (by omega) ?_; intro g2 cc2 X3 hown1 hgrow1)
          have hf8 := F7.out.go (below_none hgrow1)
          obtain ⟨vb', voff', he, _, y0, y1, y2, y3⟩ := its_cells hf8.vl kb hby rfl
          injection he with he
          injection he with he1 he2
          subst he1 he2
          have hyv := fun W (h : FitSt ea w ba ⟨nm, fs⟩ (some ⟨ab, off, none⟩) c vs ys (some ⟨vb, voff, none⟩) vc W) => h.vi kb hby (by have := HLEN.out; omega)
          have hfitb : ∀ (h : kb < vs.length), fitsB vs[kb] fs[kb].k fs[kb].o = true := fun h => HFIT.out.2 kb h hbl
          have hbv : kb < vs.length := by have := HLEN.out; omega
          have hfitb := hfitb hbv
          generalize vs[kb] = ub at hyv hfitb
          generalize ys[kb] = yb at y0 y1 y2 y3 hyv
          have x0 : X3.cell? ⟨g2, ka * 4, none⟩ = _ := owned_cell hown1 (ka * 4 + 0) _ (itsCells_at ys ka hay 0 _ rfl)
          have x1 : X3.cell? ⟨g2, ka * 4 + 1, none⟩ = _ := owned_cell hown1 (ka * 4 + 1) _ (itsCells_at ys ka hay 1 _ rfl)
          have x2 : X3.cell? ⟨g2, ka * 4 + 2, none⟩ = _ := owned_cell hown1 (ka * 4 + 2) _ (itsCells_at ys ka hay 2 _ rfl)
          have x3 : X3.cell? ⟨g2, ka * 4 + 3, none⟩ = _ := owned_cell hown1 (ka * 4 + 3) _ (itsCells_at ys ka hay 3 _ rfl)
          have v0 := hown1.frozenAt (ka * 4)
          have v1 := hown1.frozenAt (ka * 4 + 1)
          have v2 := hown1.frozenAt (ka * 4 + 2)
          have v3 := hown1.frozenAt (ka * 4 + 3)
          have hcp := vcopy HYL.out hown1 hgrow1 ka hay yb
          obtain ⟨yk, yn, yz, yp, ym, yc⟩ := yb
          dsimp only at hcp y0 y1 y2 y3
          have HCP := Lib.hid hcp
          have HYV := Lib.hid hyv
          have HFB := Lib.hid hfitb
          clear hcp hown1 hgrow1 HVL hyv hf8 hfitb hbv
          go_upto_region 24 with fail
          have hcp := HCP.out
          clear HCP x0 x1 x2 x3 v0 v1 v2 v3 y0 y1 y2 y3
          generalize (((X3.setCell ⟨g2, ka * 4, none⟩ (.int .i64 yk)).setCell ⟨g2, ka * 4 + 1, none⟩ (.int .i64 yn)).setCell ⟨g2, ka * 4 + 2, none⟩ (.string yz)).setCell ⟨g2, ka * 4 + 3, none⟩ (.slice yp ym yc) = X4 at hcp ⊢
          have hf8 := F7.out.go hcp.1
          have hvs8 : VsAt 1 X4 (vs.set ka ub) (some ⟨g2, 0, none⟩) fs.length cc2 := vsat_set HYL.out HLEN.out hcp.2 hf8.vi (HYV.out X4 hf8)
          have hc8 := HCHK.out nm WA1.out fs WA2.out _ X4 (some ⟨ab, off, none⟩) c (some ⟨g2, 0, none⟩) fs.length cc2 hf8.oc.cls.lies hm9 hvs8 hm9 hf8.oc.ok.t
          have h8t : fk = fs[kb].k → fs[ka].o = fs[kb].o → checkC ⟨nm, fs⟩ (vs.set ka ub) = (0, 0) := fun h1 h2 => (HFIT.out.set hal (by rw [HFK.out, h1, h2]; exact HFB.out)).check OKA.out
          generalize checkC ⟨nm, fs⟩ (vs.set ka ub) = r8 at hc8 h8t
          obtain ⟨a8, e8⟩ := r8
          simp only [Prod.mk.injEq] at hc8 h8t
          obtain ⟨c0, c1⟩ := hf8.oc.cls.box.facts
          simp only at c0 c1
          have HC8 := Lib.hid hc8
          have H8T := Lib.hid h8t
          have F8 := Lib.hid hf8
          clear hc8 h8t hf8 hvs8 hcp F7 HYV HFB
          go_wp2_with fail
          refine HC8.out.mono ?_
          rintro e W8 ⟨rfl, hB⟩
          have F9 := Lib.hid (F8.out.go hB)
          clear c0 c1 hB HC8 F8
          obtain ⟨c0, c1⟩ := F9.out.oc.cls.box.facts
          simp only at c0 c1
          have hal9 := (Below.refl W8.heap.size W8).alloc (Nat.le_refl _) (.cells #[.string ⟨#[111, 116, 104, 101, 114]⟩, .slice (some ⟨ab, off, none⟩) fs.length c] 27)
          have hfU := F9.out.go hal9
          have c2 := hfU.oc.cls.box.facts.2
          simp only at c2
          have HLF := Lib.hid hfU.oc.cls.lies.2
          have hbx : ∀ w1, (W8.alloc (.cells #[.string ⟨#[111, 116, 104, 101, 114]⟩, .slice (some ⟨ab, off, none⟩) fs.length c] 27)).grownBy w1 none → w1.cell? ⟨W8.heap.size, 1, none⟩ = some (.slice (some ⟨ab, off, none⟩) fs.length c) ∧ w1.frozen? ⟨W8.heap.size, 1, none⟩ = false := fun w1 hg => by
            have h := (CBox.new W8 ⟨#[111, 116, 104, 101, 114]⟩ (some ⟨ab, off, none⟩) fs.length c).below (below_none hg)
            exact ⟨h.facts.2, h.free.2⟩
          have HBX := Lib.hid hbx
          clear hbx hfU hal9
          go_upto_region 28 with (at_builtin; refine wpList_append_mine rfl _ _ _ rfl (W8.alloc (.cells #[.string ⟨#[111, 116, 104, 101, 114]⟩, .slice (some ⟨ab, off, none⟩) fs.length c] 27)).heap.size 53 j0 _ 4 40 Tryd.underlying25 hj hy0 hy1 hy2 rfl (by omega) rfl (some ⟨ab, off, none⟩) fs.length c (flCells fs) rfl HLF.out (flCells_one fs) (by unfold maxLen; omega) (by omega) (Nat.le_refl _) (by omega) ?_; intro g3 cc3 X5 hown1 hgrow1; obtain ⟨y0, y1⟩ := HBX.out X5 hgrow1)
          have C5 := Cp.ofCopy (W := W8) (q := some ⟨ab, off, none⟩) (c := c) (nm := ⟨#[111, 116, 104, 101, 114]⟩) (fs := fs) rfl rfl hown1 hgrow1
          clear y0 y1 HBX HLF hown1 hgrow1 c0 c1 c2
          generalize X5.setCell ⟨W8.heap.size, 1, none⟩ (.slice (some ⟨g3, 0, none⟩) fs.length cc3) = X6 at C5 ⊢
          have hne := C5.ne
          have hne' : g3 ≠ W8.heap.size := fun e => hne e.symm
          obtain ⟨c0, c1⟩ := C5.box.facts
          have n0 : X6.cell? ⟨g3, ka * 4, none⟩ = some (.string fs[ka].nm) := C5.own.cell ka hal 0 _ rfl
          have n1 := C5.own.free (ka * 4)
          have C6 := C5.set ka hal 0 (by decide) (.string quiteNew) { fs[ka] with nm := quiteNew } rfl
          have HC6 := Lib.hid C6
          unfold quiteNew at HC6
          clear C5 C6
          go_upto_region 29 with fail
          have C6 := HC6.out
          clear HC6 n0 n1 c0 c1
          generalize X6.setCell ⟨g3, ka * 4, none⟩ (.string ⟨#[113, 117, 105, 116, 101, 95, 110, 101, 119]⟩) = X7 at C6 ⊢
          have C7 : Cp W8.heap.size W8 W8.heap.size otherName g3 fs.length cc3 (fs.set ka { fs[ka] with nm := quiteNew }) X7 := C6
          have hf10 := F9.out.go C7.below
          have hr1 := renamed_types fs ka hal quiteNew
          have hc10 := HCHK.out otherName (by decide) (fs.set ka { fs[ka] with nm := quiteNew }) (fine_set WA2.out ka ⟨by show quiteNew.size ≤ _; decide, (WA2.out _ (List.getElem_mem hal)).2.1, (WA2.out _ (List.getElem_mem hal)).2.2⟩) vs X7 (some ⟨g3, 0, none⟩) cc3 (some ⟨vb, voff, none⟩) ys.length vc (by rw [List.length_set]; exact C7.lies) (by rw [List.length_set]; exact hm9) (hf10.at HLEN.out) hy9 hf10.oc.ok.t
          rw [(HFIT.out.types hr1.1 hr1.2).check (renamed_ok otherName_ok (good_of_ok OKA.out) wa3 HSZ.out ka hal), List.length_set, ← HYL.out] at hc10
          unfold otherName at hc10
          obtain ⟨c0, c1⟩ := C6.box.facts
          have HC10 := Lib.hid hc10
          have F10 := Lib.hid hf10
          clear hc10 hf10 hr1 C6 C7 F9
          go_wp2_with fail
          refine HC10.out.mono ?_
          rintro e W9 ⟨rfl, hB⟩
          have hf11 := F10.out.go hB
          clear c0 c1 hB HC10 F10
          obtain ⟨c0, c1⟩ := hf11.oc.cls.box.facts
          simp only at c0 c1
          obtain ⟨t0, t1⟩ := fl_type hf11.oc.cls.lies ka hal
          obtain ⟨t2, t3⟩ := fl_type hf11.oc.cls.lies kb hbl
          simp only [HFK.out] at t0 t1 t2 t3
          have HEND := Lib.hid hf11.oc.ok.b
          have h8t := H8T.out
          generalize fs[ka].o = fo at t1 h8t
          generalize fs[kb].k = gk at t2 h8t
          generalize fs[kb].o = go at t3 h8t
          have H8 := Lib.hid h8t
          clear h8t H8T hf11 HFK OKT OKA WA1 WA2 HSZ HFIT HCHK hi hz0 hz1 hz2 hj hy0 hy1 hy2
          have u0 : ((ka : Int) == (ka : Int)) = true := by simp
          go_upto_region 30 with fail
          by_cases q0 : fk = gk
          · subst q0
            by_cases q1 : fo = go
            · subst q1
              obtain ⟨rfl, rfl⟩ := H8.out rfl rfl
              cases rf with
              | true =>
                obtain ⟨rfl, rfl⟩ := H6T.out rfl
                go_wp2_with fail
                go_quiet (fail)
                go_wp2_with fail
                go_ret
                exact ⟨rfl, HEND.out.trans ((show Below W9.heap.size W9 (W9.drewN _) from ⟨rfl, rfl, rfl, Nat.le_refl _, fun _ _ => rfl⟩).mono HEND.out.size)⟩
              | false =>
                obtain ⟨rfl, rfl⟩ := H6F.out rfl
                go_wp2_with fail
                go_quiet (fail)
                go_wp2_with fail
                go_ret
                exact ⟨rfl, HEND.out.trans ((show Below W9.heap.size W9 (W9.drewN _) from ⟨rfl, rfl, rfl, Nat.le_refl _, fun _ _ => rfl⟩).mono HEND.out.size)⟩
            · have q2 : (fo == go) = false := by rw [beq_eq_false_iff_ne]; exact q1
              cases rf with
              | true =>
                obtain ⟨rfl, rfl⟩ := H6T.out rfl
                go_wp2_with fail
                go_quiet (fail)
                go_wp2_with fail
                go_ret
                exact ⟨rfl, HEND.out.trans ((show Below W9.heap.size W9 (W9.drewN _) from ⟨rfl, rfl, rfl, Nat.le_refl _, fun _ _ => rfl⟩).mono HEND.out.size)⟩
              | false =>
                obtain ⟨rfl, rfl⟩ := H6F.out rfl
                go_wp2_with fail
                go_quiet (fail)
                go_wp2_with fail
                go_ret
                exact ⟨rfl, HEND.out.trans ((show Below W9.heap.size W9 (W9.drewN _) from ⟨rfl, rfl, rfl, Nat.le_refl _, fun _ _ => rfl⟩).mono HEND.out.size)⟩
          · have q2 : (fk == gk) = false := by rw [beq_eq_false_iff_ne]; exact q0
            cases rf with
            | true =>
              obtain ⟨rfl, rfl⟩ := H6T.out rfl
              go_wp2_with fail
              go_quiet (fail)
              go_wp2_with fail
              go_ret
              exact ⟨rfl, HEND.out.trans ((show Below W9.heap.size W9 (W9.drewN _) from ⟨rfl, rfl, rfl, Nat.le_refl _, fun _ _ => rfl⟩).mono HEND.out.size)⟩
            | false =>
              obtain ⟨rfl, rfl⟩ := H6F.out rfl
              go_wp2_with fail
              go_quiet (fail)
              go_wp2_with fail
              go_ret
              exact ⟨rfl, HEND.out.trans ((show Below W9.heap.size W9 (W9.drewN _) from ⟨rfl, rfl, rfl, Nat.le_refl _, fun _ _ => rfl⟩).mono HEND.out.size)⟩
end Go.Proofs.YtffoklhopmhjaaaDoor

/- The frame of a row that lists no variable. -/
set_option linter.unusedSimpArgs false
set_option linter.unusedVariables false
namespace Go.Proofs.YtffoklhopmhjaaaDoor
open Go Go.ChangeShapes Go.WideShapes Go.ChangeAt Go.RowKit

/-- 'post' of a call that leaves all blocks that were there as they were -/
theorem post_of_below {H : Type} {enc : TypeId × Value → H} {P : Program} {f : Func} {s : ChangeSpec} {apart fresh handsOn again : Bool} {W W' : World} {args : Array Value} {v : Value} {ds gs : List (DataW H)} {before pa pv : List MemPlace}
    (hW : DataW.Whole enc P f.params.toList s.vars apart W args.toList ds gs before)
    (hres : ∀ (b : Nat) (sp : Nat → Bool) (hd : Bool), DataW.TrodAll enc P W' b sp hd f.resultTypes.toList (v.resultList f.resultTypes.size) (s.fn H (ds ++ gs)).results [])
    (hargs : ∀ sp : Nat → Bool, (∀ p ∈ before, sp p.block = true) → DataW.TrodAll enc P W' 0 sp true f.params.toList args.toList (s.fn H (ds ++ gs)).args pa)
    (hvars : ∀ sp : Nat → Bool, (∀ p ∈ before, sp p.block = true) → DataW.TrodVars enc P W' sp s.vars (s.fn H (ds ++ gs)).vars pv)
    (hps : before = pa ++ pv) (hb : Below W.heap.size W W')
    (hok : ∀ (j : Nat) (t : TypeId) (r : Value), f.resultTypes[j]? = some t → (v.resultList f.resultTypes.size)[j]? = some r → Value.okWide P W' .any 0 t r) :
    s.post enc P f apart fresh handsOn again W args v W' := by
  have hold : ∀ p ∈ before, (fun b => decide (b < W.heap.size)) p.block = true := fun p hp => by simpa using hW.lt p hp
  refine ⟨ds, gs, before, [], pa, pv, hW, hres _ _ _, hargs _ hold, hvars _ hold, hb.frame _, fun _ => ?_⟩
  have hlt : ∀ p ∈ before, p.block < W.heap.size := fun p hp => by simpa using hW.lt p hp
  obtain ⟨_, _, _, _, _, hz, hn⟩ := hW
  refine ⟨hok, _, _, ([] ++ pa) ++ pv, ⟨[] ++ pa, pv, trodAll_append (hargs _ (fun _ _ => rfl)) (hres _ _ _), hvars _ (fun _ _ => rfl), rfl, ?_, ?_⟩, ?_⟩
  · intro b off hp
    have hp' : MemPlace.cell b off ∈ before := by rw [hps]; simpa using hp
    rw [hb.frozen (p := ⟨b, off, none⟩) (hlt _ hp')]
    exact hz b off hp'
  · intro ha
    have := hn ha
    rw [hps] at this
    simpa using this
  · intro p hp _
    rw [hps]
    simpa using hp

theorem own : ownKnob Tryd.prog.godebug = none := by kernel_rfl
noncomputable def plainWorld (os : Os) : World := World.holding Tryd.prog os ⟨#[], #[], []⟩
theorem laid_none (P : Program) (w : World) : laidMet P [] w := laidMet_nil _ _
end Go.Proofs.YtffoklhopmhjaaaDoor

/- The frame of a row: whatever a call leaves, its arguments read as before; and slices, opened. -/
set_option linter.unusedSimpArgs false
set_option linter.unusedVariables false
namespace Go.Proofs.YtffoklhopmhjaaaDoor
open Go Go.ChangeShapes Go.WideShapes Go.ChangeAt Go.RowKit

theorem trodAll_stays {H : Type} {enc : TypeId × Value → H} {P : Program} (hl : laidOutB P = true) {W W' : World} {sp : Nat → Bool} (hb : Below W.heap.size W W') :
    ∀ (ts : List TypeId) (vs : List Value) (ds : List (DataW H)) (ps : List MemPlace), ts.all (fun t => P.readableRec t && decide (t < P.types.size)) = true → (∀ x ∈ ps, x.block < W.heap.size) → (∀ x ∈ ps, sp x.block = true) →
      DataW.TrodAll enc P W 0 (fun _ => true) true ts vs ds ps → DataW.TrodAll enc P W' 0 sp true ts vs ds ps
  | [], [], [], _, _, _, _, h => h
  | t :: ts, v :: vs, d :: ds, ps, hr, hlt, hsp, h => by
    obtain ⟨p, q, h0, h1, rfl⟩ := h
    simp only [List.all_cons, Bool.and_eq_true, decide_eq_true_eq] at hr
    exact ⟨p, q, WideElems.Trod_stays hl hr.1.1 hr.1.2 h0 (fun x hx => hb.same (hlt x (List.mem_append_left _ hx))) (fun x hx => hsp x (List.mem_append_left _ hx)),
      trodAll_stays hl hb ts vs ds q hr.2 (fun x hx => hlt x (List.mem_append_right _ hx)) (fun x hx => hsp x (List.mem_append_right _ hx)) h1, rfl⟩
  | [], [], _ :: _, _, _, _, _, h => h.elim
  | [], _ :: _, _, _, _, _, _, h => h.elim
  | _ :: _, [], _, _, _, _, _, h => h.elim
  | _ :: _, _ :: _, [], _, _, _, _, h => h.elim

/-- 'post' of a law that answers true and leaves all blocks that were there as they were -/
theorem true_post {H : Type} {enc : TypeId × Value → H} {P : Program} {f : Func} {s : ChangeSpec} {tb : TypeId} {W W' : World} {args : Array Value} {ds gs : List (DataW H)} {before : List MemPlace}
    (hl : laidOutB P = true) (hr : f.params.toList.all (fun t => P.readableRec t && decide (t < P.types.size)) = true) (hres : f.resultTypes = #[tb]) (htb : P.underlying tb = some .bool) (hv : s.vars = [])
    (hf1 : (s.fn H (ds ++ gs)).results = [.lit (.bool true)]) (hf2 : (s.fn H (ds ++ gs)).args = ds) (hf3 : (s.fn H (ds ++ gs)).vars = [])
    (hW : DataW.Whole enc P f.params.toList s.vars false W args.toList ds gs before) (hb : Below W.heap.size W W') :
    s.post enc P f false true false false W args (.bool true) W' := by
  have hW' := hW
  obtain ⟨p, q, hA0, hV, rfl, hfz, hnd⟩ := hW
  rw [hv] at hV
  obtain ⟨rfl, rfl⟩ := trodVars_none hV
  refine post_of_below (pa := p) (pv := []) hW' (fun _ _ _ => ?_) (fun sp hsp => ?_) (fun _ _ => ?_) (by simp) hb (ok_one hres rfl (okWide_bool_mk htb _))
  · rw [hf1, hres]
    exact trodAll_cons_mk (shut_bool htb _) trodAll_mk0
  · rw [hf2]
    exact trodAll_stays hl hb _ _ _ _ hr (fun x hx => by simpa using hW'.lt x (by simpa using hx)) (fun x hx => hsp x (by simpa using hx)) hA0
  · rw [hf3, hv]
    rfl

theorem add_plain (b o j : Nat) : (⟨b, o, none⟩ : Addr).add j = ⟨b, o + j, none⟩ := by
  unfold Addr.add
  split
  · next h => rw [h]; rfl
  · rfl

/-- A slice opened: its elements are of a kind that is known by its cells. -/
theorem open_lies {α : Type} {H : Type} {enc : TypeId × Value → H} {P : Program} {W : World} {sp : Nat → Bool} {t e : TypeId} {v : Value} {d : DataW H} {ps : List MemPlace} (size : Nat) (cells : α → List Value) (good : α → Prop)
    (ht : P.underlying t = some (.slice e)) (hs : P.cellsOf e = size) (hpos : 0 < size)
    (hel : ∀ (n : Nat) (cs : List Value) (x : DataW H × List MemPlace), cs.length = size → DataW.trod enc P W 0 sp true n e cs = some x → ∃ a, cs = cells a ∧ good a)
    (hone : ∃ c, v.cells = #[c] ∧ v = c) (h : DataW.Trod enc P W 0 sp true t v d ps) (hlt : ∀ x ∈ ps, x.block < W.heap.size) :
    ∃ (p : Option Addr) (n c : Nat) (xs : List α), v = .slice p n c ∧ xs.length = n ∧ n ≤ c ∧ c ≤ maxLen ∧ Lies W v n size (xs.flatMap cells) ∧ (∀ a ∈ xs, good a) ∧ (∀ a ∈ xs, (cells a).length = size) := by
  obtain ⟨fuel, hf⟩ := h
  obtain ⟨c, hc, rfl⟩ := hone
  rw [hc] at hf
  rcases Deep.open_slice ht hf with ⟨hcs, hx⟩ | ⟨a, len, cap, m, n, D, Pl, hcs, hba, hl, hm, hmm, hx, hall⟩
  · simp at hcs
    subst hcs
    exact ⟨none, 0, 0, [], rfl, rfl, Nat.le_refl _, by unfold maxLen; omega, ⟨by simp, .inl ⟨rfl, none, 0, rfl⟩⟩, by simp, by simp⟩
  · simp at hcs
    subst hcs
    rw [hs] at hall hx
    have hlm : len ≤ m := by rw [hmm]; split <;> omega
    have hch : ∀ i, i < len → ∃ x : α, W.cells? 0 (a.add (i * size)) size = some (cells x) ∧ good x ∧ (cells x).length = size := fun i hi => by
      obtain ⟨cs', h1, h2⟩ := hall i (by omega)
      obtain ⟨_, hlen, _⟩ := World.cells?_some h1
      obtain ⟨x, rfl, hg⟩ := hel n cs' _ hlen h2
      exact ⟨x, h1, hg, hlen⟩
    rcases Nat.eq_zero_or_pos len with rfl | hlpos
    · exact ⟨some a, 0, cap, [], rfl, rfl, hl, hm, ⟨by simp, .inl ⟨rfl, some a, cap, rfl⟩⟩, by simp, by simp⟩
    have hxs : ∃ xs : List α, xs.length = len ∧ ∀ (i : Nat) (hi : i < xs.length), W.cells? 0 (a.add (i * size)) size = some (cells xs[i]) ∧ good xs[i] ∧ (cells xs[i]).length = size := by
      clear hx hall hl hlm hlpos hf hc hmm
      induction len with
      | zero => exact ⟨[], rfl, fun i hi => absurd hi (by simp)⟩
      | succ k ih =>
        obtain ⟨xs, hx1, hx2⟩ := ih (fun i hi => hch i (by omega))
        obtain ⟨x, hx⟩ := hch k (by omega)
        refine ⟨xs ++ [x], by simp [hx1], fun i hi => ?_⟩
        by_cases hik : i < xs.length
        · rw [List.getElem_append_left hik]; exact hx2 i hik
        · have : i = k := by simp at hi; omega
          subst this
          rw [List.getElem_append_right (by omega)]
          simp [hx1]
          exact hx
    obtain ⟨xs, hx1, hx2⟩ := hxs
    have hlen : ∀ x ∈ xs, (cells x).length = size := fun x hx => by
      obtain ⟨i, hi, rfl⟩ := List.mem_iff_getElem.1 hx
      exact (hx2 i hi).2.2
    have hgood : ∀ x ∈ xs, good x := fun x hx => by
      obtain ⟨i, hi, rfl⟩ := List.mem_iff_getElem.1 hx
      exact (hx2 i hi).2.1
    have hspot : a = ⟨a.block, a.off, none⟩ := by
      obtain ⟨_, hl0, h0⟩ := World.cells?_some (hx2 0 (by omega)).1
      have h00 := h0 0 hpos
      have hz : (a.add (0 * size)).add 0 = a := by unfold Addr.add; simp
      rw [hz] at h00
      have hsome : ∃ u, (cells xs[0])[0]? = some u := by
        rw [List.getElem?_eq_getElem (by rw [hl0]; exact hpos)]; exact ⟨_, rfl⟩
      obtain ⟨u, hu⟩ := hsome
      rw [hu] at h00
      have := World.cell?_spot h00
      cases a; simp_all
    have hblk : a.block < W.heap.size := by
      simp only [Prod.mk.injEq] at hx
      have hmem : (MemPlace.row a (m * size))[0]? ≠ none := by
        have hmp : 0 < m * size := Nat.mul_pos (by omega) hpos
        simp [MemPlace.row]
        omega
      obtain ⟨y, hy⟩ := Option.ne_none_iff_exists'.1 hmem
      have hyb : y.block = a.block := by
        have hmp : 0 < m * size := Nat.mul_pos (by omega) hpos
        rw [MemPlace.row] at hy
        simp [hmp] at hy
        rw [← hy]; simp [MemPlace.block, Addr.add]
      rw [← hyb]
      apply hlt
      rw [hx.2]
      exact List.mem_append_left _ (List.mem_of_getElem? hy)
    refine ⟨some a, len, cap, xs, rfl, hx1, hl, hm, ⟨?_, .inr ⟨a.block, a.off, cap, by rw [← hspot], hblk, ?_⟩⟩, hgood, hlen⟩
    · rw [List.length_flatMap, ← hx1]
      clear hx1 hx2 hgood
      induction xs with
      | nil => simp
      | cons x r ih =>
        simp only [List.map_cons, List.sum_cons, List.length_cons]
        rw [ih (fun y hy => hlen y (List.mem_cons_of_mem _ hy)), hlen x List.mem_cons_self, Nat.succ_mul, Nat.add_comm]
    · intro j u hu
      have key : ∀ (ys : List α) (o : Nat), (∀ y ∈ ys, (cells y).length = size) → (∀ (i : Nat) (hi : i < ys.length), W.cells? 0 (a.add ((o + i) * size)) size = some (cells ys[i])) → ∀ j u, (ys.flatMap cells)[j]? = some u → W.cell? (a.add (o * size + j)) = some u := by
        intro ys
        induction ys with
        | nil => intro o _ _ j u hu; simp at hu
        | cons y r ih =>
          intro o hl' hc' j u hu
          rw [List.flatMap_cons] at hu
          have hly := hl' y List.mem_cons_self
          by_cases hj : j < size
          · rw [List.getElem?_append_left (by omega)] at hu
            obtain ⟨_, _, h0⟩ := World.cells?_some (hc' 0 (by simp))
            have := h0 j hj
            rw [Deep.add_add] at this
            simp only [Nat.add_zero, List.getElem_cons_zero] at this
            rw [this, hu]
          · rw [List.getElem?_append_right (by omega), hly] at hu
            have := ih (o + 1) (fun z hz => hl' z (List.mem_cons_of_mem _ hz)) (fun i hi => by
              have := hc' (i + 1) (by simp; omega)
              rw [show o + 1 + i = o + (i + 1) from by omega]
              simpa using this) (j - size) u hu
            rw [show (o + 1) * size + (j - size) = o * size + j from by rw [Nat.succ_mul]; omega] at this
            exact this
      have := key xs 0 hlen (fun i hi => by rw [Nat.zero_add]; exact (hx2 i hi).1) j u hu
      rw [Nat.zero_mul, Nat.zero_add, hspot, add_plain] at this
      exact this
end Go.Proofs.YtffoklhopmhjaaaDoor

/- What a row's list of variables gives a walk over values: the two tables of utf8, and wire's error; a world in which they lie. -/
set_option linter.unusedSimpArgs false
set_option linter.unusedVariables false
namespace Go.Proofs.YtffoklhopmhjaaaDoor
open Go Go.ChangeShapes Go.WideShapes Go.ChangeAt Go.RowKit

theorem gNone : Tryd.prog.globalNamed "moraine/wire.errNone" = some 0 := by kernel_rfl
theorem gNoneType : (Tryd.prog.globals[0]?).map (·.type) = some 71 := by kernel_rfl
theorem starES : "*" ++ "errors.errorString" = "*errors.errorString" := by decide
theorem rowES (u : TypeId) (h : Tryd.prog.typeName? 3 u = some "*errors.errorString") : u = 142 :=
  typeName_ptr_named (nm := "errors.errorString") (by rw [starES]; kernel_rfl) (by kernel_rfl) (by decide) u (by rw [starES]; exact h)
theorem cellsES : Tryd.prog.cellsOf 165 = 1 := by kernel_rfl
theorem cellsStr : Tryd.prog.cellsOf 9 = 1 := by kernel_rfl

/-- wire's error lies as start-up laid it, wherever it stands in the list -/
theorem errLies_of {r : List (String × DataW Unit)} {W : World} (h : laidMet Tryd.prog (("moraine/wire.errNone", Rows.laid_moraine_wire_errNone) :: r) W) : ∃ ea, errLies ea W := by
  obtain ⟨a, s, hv, _⟩ := laid_sentinel (P := Tryd.prog) (r := r) h gNone gNoneType Tryd.underlying71 rowES Tryd.underlying142 Tryd.underlying165 rfl rfl Tryd.underlying9 cellsES cellsStr
  exact ⟨a, by simpa [errLies] using World.var?_cell gNone hv 0⟩
/-- the tables of utf8 lie -/
theorem tabs_of {l : List (String × DataW Unit)} {W : World} (h : laidMet Tryd.prog l W) (h1 : ("unicode/utf8.first", Rows.laid_unicode_utf8_first) ∈ l) (h2 : ("unicode/utf8.acceptRanges", Rows.laid_unicode_utf8_acceptRanges) ∈ l) : Tabs W :=
  Go.Proofs.utf8Tabs_of_readsT (U8Types.of196 Tryd.laysValid) ⟨by kernel_rfl, by kernel_rfl, by kernel_rfl, by kernel_rfl, by kernel_rfl, by kernel_rfl, by kernel_rfl⟩
    (by have := Lib.laidMet.reads h h1; unfold Rows.laid_unicode_utf8_first at this; rwa [Pinned.utf8First_eq] at this) (Lib.laidMet.reads h h2)

theorem laidOut : laidOutB Tryd.prog = true := by kernel_rfl
end Go.Proofs.YtffoklhopmhjaaaDoor

/- The arguments of the class rows, opened: raw numbers of classes. -/
set_option linter.unusedSimpArgs false
set_option linter.unusedVariables false
namespace Go.Proofs.YtffoklhopmhjaaaDoor
open Go Go.ChangeShapes Go.WideShapes Go.ChangeAt Go.RowKit Go.ChangeMaps
theorem maxLen_le {n : Nat} (h : n ≤ maxLen) : n ≤ 9223372036854775807 := by unfold maxLen at h; omega
section
variable {H : Type} {enc : TypeId × Value → H} {W : World} {base : Nat} {v : Value} {d : DataW H} {p : List MemPlace}

set_option maxRecDepth 100000 in
theorem frawOne_of_trod {n : Nat} {cs : List Value} {x : DataW H × List MemPlace} (hl : cs.length = 4) (hx : DataW.trod enc Tryd.prog W 0 (fun _ => true) true n 63 cs = some x) :
    ∃ r : FRaw, cs = r.cells ∧ r.fine := by
  obtain ⟨y0, y1, y2, y3, m, rfl, _, t0, t1, t2, t3⟩ := Joins.trod_struct4 Tryd.underlying63 hx
  match cs, hl with
  | [c0, c1, c2, c3], _ =>
    obtain ⟨k0, h0, _, b0⟩ := DataW.trod_int Tryd.underlying3 t0
    obtain ⟨k1, h1, _, b1⟩ := DataW.trod_int Tryd.underlying3 t1
    obtain ⟨k2, h2, _, b2⟩ := DataW.trod_int Tryd.underlying3 t2
    obtain ⟨k3, h3, _⟩ := DataW.trod_bool Tryd.underlying4 t3
    have q1 : Tryd.prog.cellsOf 3 = 1 := by kernel_rfl
    have q2 : Tryd.prog.cellsOf 4 = 1 := by kernel_rfl
    simp only [q1, q2, List.drop, List.take] at h0 h1 h2 h3
    simp only [List.cons.injEq, and_true] at h0 h1 h2 h3
    subst h0 h1 h2 h3
    exact ⟨⟨k0, k1, k2, k3⟩, rfl, bounds_i64 b0, bounds_i64 b1, bounds_i64 b2⟩
theorem fraw_cells (l : List FRaw) : frawCells l = l.flatMap FRaw.cells := by
  induction l with
  | nil => rfl
  | cons r l ih => show r.cells ++ frawCells l = _; rw [ih]; rfl

set_option maxRecDepth 100000 in
theorem openCRaw (hv : Value.okWide Tryd.prog W .any base 24 v) (h : DataW.Trod enc Tryd.prog W 0 (fun _ => true) true 24 v d p) (hlt : ∀ x ∈ p, x.block < W.heap.size) :
    ∃ (x : CRaw) (b : Option Addr) (c : Nat), v = crawV x b c ∧ x.fine ∧ Lies W (.slice b x.l.length c) x.l.length 4 (frawCells x.l) := by
  obtain ⟨v0, v1, y0, y1, n, rfl, _, rfl, t0, t1⟩ := Joins.open_agg2 Tryd.underlying24 (by kernel_rfl) (by kernel_rfl) hv h
  obtain ⟨k, h0, _, b0⟩ := DataW.trod_int Tryd.underlying3 t0
  simp only [List.cons.injEq, and_true] at h0
  subst h0
  have hs3 : ∃ a len cap, v1 = .slice a len cap := by
    rcases Deep.open_slice Tryd.underlying22 t1 with ⟨hcs, _⟩ | ⟨a, len, cap, _, _, _, _, hcs, _⟩
    · simp at hcs; exact ⟨_, _, _, hcs⟩
    · simp at hcs; exact ⟨_, _, _, hcs⟩
  obtain ⟨a, len, cap, rfl⟩ := hs3
  obtain ⟨b, n', c, xs, e1, e2, e3, e4, e5, e6, _⟩ := open_lies (α := FRaw) 4 FRaw.cells FRaw.fine Tryd.underlying22 (by kernel_rfl) (by decide)
    (fun n cs x hl hx => frawOne_of_trod hl hx) ⟨_, rfl, rfl⟩ (⟨n, t1⟩ : DataW.Trod enc Tryd.prog W 0 (fun _ => true) true 22 (.slice a len cap) y1.1 y1.2) (fun x hx => hlt x (by simp [hx]))
  injection e1 with f1 f2 f3
  subst f1 f2 f3
  subst e2
  rw [← fraw_cells] at e5
  exact ⟨⟨k, xs⟩, a, cap, rfl, ⟨bounds_i64 b0, maxLen_le (Nat.le_trans e3 e4), e6⟩, e5⟩
end
end Go.Proofs.YtffoklhopmhjaaaDoor

/- The arguments of the class rows, opened: numbers. -/
set_option linter.unusedSimpArgs false
set_option linter.unusedVariables false
namespace Go.Proofs.YtffoklhopmhjaaaDoor
open Go Go.ChangeShapes Go.WideShapes Go.ChangeAt Go.RowKit Go.ChangeMaps
section
variable {H : Type} {enc : TypeId × Value → H} {W : World} {base : Nat} {v : Value} {d : DataW H} {p : List MemPlace}
set_option maxRecDepth 100000 in
theorem openInts4 (hv : Value.okWide Tryd.prog W .any base 28 v) (h : DataW.Trod enc Tryd.prog W 0 (fun _ => true) true 28 v d p) (hlt : ∀ x ∈ p, x.block < W.heap.size) :
    ∃ (b : Option Addr) (n c : Nat) (xs : List Int), v = .slice b n c ∧ xs.length = n ∧ n ≤ c ∧ c ≤ maxLen ∧ Lies W (.slice b n c) n 1 (xs.map (Value.int .i64)) ∧ ∀ x ∈ xs, -9223372036854775808 ≤ x ∧ x ≤ 9223372036854775807 := by
  obtain ⟨pa, len, cap, rfl⟩ := okWide_slice Tryd.underlying28 hv
  obtain ⟨b, n, c, xs, h1, h2, h3, h4, h5, h6, _⟩ := open_lies (α := Int) 1 (fun s => [.int .i64 s]) (fun x => -9223372036854775808 ≤ x ∧ x ≤ 9223372036854775807) Tryd.underlying28 (by kernel_rfl) (by decide)
    (fun n cs x _ hx => by obtain ⟨s, rfl, _, hs⟩ := DataW.trod_int Tryd.underlying3 hx; exact ⟨s, rfl, bounds_i64 hs⟩) ⟨_, rfl, rfl⟩ h hlt
  refine ⟨b, n, c, xs, h1, h2, h3, h4, ?_, h6⟩
  rw [← h1, List.map_eq_flatMap]; exact h5
end
end Go.Proofs.YtffoklhopmhjaaaDoor

/- For every input ClassFits returns true and leaves its arguments as they were; the condition: before the call the listed variables read as start-up lays them, which is tied to the program's text. -/
set_option linter.unusedSimpArgs false
set_option linter.unusedVariables false
namespace Go.Proofs.YtffoklhopmhjaaaDoor.classFits
open Go Go.ChangeShapes Go.WideShapes Go.ChangeAt Go.RowKit Go.ChangeMaps

set_option maxRecDepth 100000 in
theorem contract (H : Type) (enc : TypeId × Value → H) (W : World) (base : Nat) (args : Array Value) (ds gs : List (DataW H)) (before : List MemPlace)
    (hval : ∀ (j : Nat) t v, Tryd.f5.params[j]? = some t → args[j]? = some v → Value.okWide Tryd.prog W .any base t v)
    (hW : DataW.Whole enc Tryd.prog Tryd.f5.params.toList Rows.classFitsSpec.vars false W args.toList ds gs before) (hL : laidMetH Tryd.prog Rows.classFitsRow.laid W) :
    Calls Tryd.prog 5 args W fun e W' => ∃ v, e = .returned v ∧ Rows.classFitsSpec.post enc Tryd.prog Tryd.f5 false true false false W args v W' := by
  have hW' := hW
  obtain ⟨p, q, hA0, hV, rfl, hfz, hnd⟩ := hW
  have hA : DataW.TrodAll enc Tryd.prog W 0 (fun _ => true) true Tryd.f5.params.toList args.toList ds p := hA0
  rw [Tryd.params5] at hA hval
  obtain ⟨v0, vs0, d0, ds0, p0, q0, hargs, rfl, rfl, h0, r0⟩ := trodAll_cons hA
  obtain ⟨v1, vs1, d1, ds1, p1, q1, rfl, rfl, rfl, h1, r1⟩ := trodAll_cons r0
  obtain ⟨v2, vs2, d2, ds2, p2, q2, rfl, rfl, rfl, h2, r2⟩ := trodAll_cons r1
  obtain ⟨v3, vs3, d3, ds3, p3, q3, rfl, rfl, rfl, h3, r3⟩ := trodAll_cons r2
  obtain ⟨rfl, rfl, rfl⟩ := trodAll_nil r3
  obtain rfl : args = #[v0, v1, v2, v3] := by cases args; simp_all
  obtain ⟨rfl, rfl⟩ := trodVars_none hV
  have hlt : ∀ x ∈ p0 ++ p1 ++ p2 ++ p3, x.block < W.heap.size := fun x hx => by simpa using hW'.lt x (by simpa using hx)
  clear hA0
  rw [MakeChecks.laidMetH_plain _ _ _ (by kernel_rfl)] at hL
  obtain ⟨ea, hE⟩ := errLies_of (hL.tail)
  have hT := tabs_of hL (by simp [Rows.classFitsRow]) (by simp [Rows.classFitsRow])
  obtain ⟨x0, b0, c0, rfl, hx0, hl0⟩ := openCRaw (hval 0 24 v0 rfl rfl) h0 (fun x hx => hlt x (by simp [hx]))
  obtain ⟨b1, n1, c1, l1, rfl, rfl, hc1, hd1, hl1, hr1⟩ := openInts4 (hval 1 28 v1 rfl rfl) h1 (fun x hx => hlt x (by simp [hx]))
  obtain ⟨a2, rfl, rfl, rfl, w2⟩ := open_int Tryd.underlying5 (hval 2 5 v2 rfl rfl) h2
  obtain ⟨a3, rfl, rfl, rfl, w3⟩ := open_int Tryd.underlying5 (hval 3 5 v3 rfl rfl) h3
  refine (classFits_walk x0 hx0 b0 c0 l1 b1 c1 (maxLen_le (Nat.le_trans hc1 hd1)) a2 (bounds_u8 w2).1 (bounds_u8 w2).2 a3 (bounds_u8 w3).1 (bounds_u8 w3).2 ea W hT hE hl0 ⟨hl1, hr1⟩).mono fun e W' ⟨he, hb⟩ => ?_
  subst he
  exact ⟨_, rfl, true_post laidOut (by kernel_rfl) (by kernel_rfl) Tryd.underlying4 rfl rfl rfl rfl hW' hb⟩

noncomputable abbrev wit (os : Os) : World := World.laidAll Tryd.prog os Rows.classFitsRow.laid
theorem reads (os : Os) {H : Type} (enc : TypeId × Value → H) : ∃ places, DataW.whole enc Tryd.prog ((wit os).forCall (fun _ _ => 0) ⟨#[], #[Value.agg #[.int .i64 0, .slice none 0 0], .slice none 0 0, .int .u8 0, .int .u8 0], []⟩).memory Tryd.f5.params.toList Rows.classFitsSpec.vars false #[Value.agg #[.int .i64 0, .slice none 0 0], .slice none 0 0, .int .u8 0, .int .u8 0].toList 8 = some ([.agg [.lit (.int .i64 0), .nil], .nil, .lit (.int .u8 0), .lit (.int .u8 0)], [], places) :=
  ⟨[], by kernel_rfl⟩

set_option maxRecDepth 100000 in
theorem lifted (os : Os) (started : os.Started) (H : Type) (enc : TypeId × Value → H) (F : Stop.Interp) :
    ReturnsInHanded {} Tryd.checked os 5 .any ((OpenSpec.ofChange Rows.classFitsSpec).preRow enc Tryd.prog Tryd.f5 Rows.classFitsRow.domain false Rows.classFitsRow.laid) (((OpenSpec.ofChange Rows.classFitsSpec).at F).post enc Tryd.prog Tryd.f5 false true false false) := by
  obtain ⟨places, hx⟩ := reads os enc
  refine returnsInHanded_of_row (C := Tryd.checked) (s := OpenSpec.ofChange Rows.classFitsSpec) own started (by kernel_rfl) Tryd.func5
    (witness_row_atRef (enc := enc) (C := Tryd.checked) false (wit os) #[Value.agg #[.int .i64 0, .slice none 0 0], .slice none 0 0, .int .u8 0, .int .u8 0] (World.laidAll_os _ _ _) (by kernel_rfl) (by kernel_rfl) (by kernel_rfl)
      (OpenSpec.preRow_of_cond 8 hx (by kernel_rfl) (fun k hk => by cases hk) (by kernel_rfl) (laidMet_laidAll _ (by kernel_rfl) (by kernel_rfl)))) ?_
  intro W base args ds gs before hval hW _ _ _ hL _ _
  exact contract H enc W base args ds gs before hval hW hL

theorem said : Rows.ClassFitsSaid :=
  OpenClaim.holds_of_cond 5 Tryd.f5 rfl rfl rfl rfl rfl rfl rfl ⟨rfl, rfl, rfl, rfl, rfl⟩ rfl rfl rfl rfl rfl (by kernel_rfl) Tryd.func5 (by kernel_rfl)
    (of_decide_eq_true (by kernel_rfl)) (by unfold Func.isWrapper; first | (rw [if_pos (by decide +kernel)]; kernel_rfl) | (rw [if_neg (by decide +kernel)]; exact ⟨rfl, rfl⟩))
    (fun os started H enc _ F => by rw [OpenClaim.pre_eq_preRow]; exact lifted os started H enc F)

theorem plain (f : FuncId) (fn : Func) (hf : Tryd.pinned.checked.prog.funcNamed "moraine/morainelaw04.ClassFits" = some f) (hfn : Tryd.pinned.checked.prog.funcs[f]? = some fn) :
    true = Tryd.pinned.checked.prog.looks [] ∧ ∀ (j : Nat) t, fn.params[j]? = some t → Tryd.pinned.checked.prog.wantsStandIn t = false := by
  obtain rfl : f = 5 := Option.some.inj ((show Tryd.prog.funcNamed "moraine/morainelaw04.ClassFits" = some 5 by kernel_rfl).symm.trans hf) |>.symm
  obtain rfl : fn = Tryd.f5 := (Option.some.inj (Tryd.func5.symm.trans hfn)).symm
  refine ⟨by kernel_rfl, fun j t ht => ?_⟩
  have h := Array.mem_of_getElem? ht
  rw [Tryd.params5] at h
  show Tryd.prog.wantsStandIn t = false
  have hall : (#[24, 28, 5, 5] : Array TypeId).all (fun t => Tryd.prog.wantsStandIn t == false) = true := by kernel_rfl
  rw [Array.all_eq_true'] at hall
  exact by simpa using hall t h

/-- the card -/
theorem card : Rows.ClassFitsCardSaid :=
  Claim7.holds_tied_plain_at .later [] _ _ _ _ said (fun _ h => by cases h) (by kernel_rfl) (fun _ h => by cases h) classFits_row_tie rfl ⟨rfl, rfl⟩ (by kernel_rfl) rfl plain (by kernel_rfl)
end Go.Proofs.YtffoklhopmhjaaaDoor.classFits
