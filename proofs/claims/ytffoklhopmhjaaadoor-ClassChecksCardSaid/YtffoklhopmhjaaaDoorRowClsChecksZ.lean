/- For every input ClassChecks returns true and leaves its arguments as they were; the condition: before the call the listed variables read as start-up lays them, which is tied to the program's text. -/
import Derived.Deep.CutRange
import Derived.Test.YtffoklhopmhjaaaDoorRowClsChecksY1
import Derived.Test.YtffoklhopmhjaaaDoorRows
import Derived.WalkKit
import Derived.ProofKit
import Derived.OpenShut
import Derived.Below
import Derived.Deep.DeepHandedRow
import Derived.LaidLaws
import Derived.Carry
import Derived.ChangeSlices
import Derived.Deep.Slices
import Derived.Lib.SmallJoins
import Derived.Test.YtffoklhopmhjaaaDoorLies
import Derived.Test.YtffoklhopmhjaaaDoorCards
import Derived.Test.YtffoklhopmhjaaaDoorTie
import Derived.Test.YtffoklhopmhjaaaDoorWireShown
import Derived.Test.YtffoklhopmhjaaaDoorWords
import Derived.Deep.DeepWitnessRowRef
import Derived.Lay
import Derived.PinnedBridge
import Derived.Lib.LaidU8T
import Derived.Stop.LaidErr
import Derived.MakeChecks
import Derived.SevenTiedAt
import Derived.Test.YtffoklhopmhjaaaDoorClsRaw
import Derived.Test.YtffoklhopmhjaaaDoorRowClsChecksY0
import Derived.Deep.Strs
/- The walk of ClassChecks. -/
set_option linter.unusedSimpArgs false
set_option linter.unusedVariables false
namespace Go.Proofs.YtffoklhopmhjaaaDoor
open Go Go.RowKit Go.Shelf

/-- the arguments in their boxes -/
structure CkSt (ea : Addr) (w : World) (on : ByteArray) (op : Option Addr) (oc : Nat) (ofs : List Fl) (vk vn : Int) (vz : ByteArray) (v : Value) (W : World) : Prop where
  ok : OkB ea w W
  ob : CBox W (w.heap.size + 1) on op ofs.length oc
  ol : FLies W op ofs.length oc ofs
  vb : VBox W (w.heap.size + 1 + 1) vk vn vz v
theorem CkSt.go {ea : Addr} {w : World} {on : ByteArray} {op : Option Addr} {oc : Nat} {ofs : List Fl} {vk vn : Int} {vz : ByteArray} {v : Value} {W W' : World} (h : CkSt ea w on op oc ofs vk vn vz v W) (hb : Below W.heap.size W W') : CkSt ea w on op oc ofs vk vn vz v W' :=
  ⟨h.ok.below hb, h.ob.below hb, h.ol.below hb, h.vb.below hb⟩
/-- fields lie in no value's box -/
theorem fl_not_val {W : World} {b off n c : Nat} {fs : List Fl} (h : FLies W (some ⟨b, off, none⟩) n c fs) (hn : 0 < fs.length) {bv : Nat} {k n' : Int} {s : ByteArray} {p : Option Addr} {m c' : Nat} (hv : VBox W bv k n' s (.slice p m c')) : b ≠ bv := by
  rintro rfl
  obtain ⟨b', off', he, _, hc⟩ := h.2.at hn
  injection he with he
  injection he with e1 e2
  subst e1 e2
  have h3 := hc 3 _ (flCells_at fs 0 hn 3 (.bool fs[0].ix) rfl)
  rw [Lib.cell_of_heap hv] at h3
  match off, h3 with
  | 0, h3 => cases h3
theorem fl_past {W : World} {q : Option Addr} {n c : Nat} {fs : List Fl} (h : FLies W q n c fs) {bv : Nat} {k n' : Int} {s : ByteArray} {p : Option Addr} {m c' : Nat} (hv : VBox W bv k n' s (.slice p m c')) (i : Nat) (u : Value) : FLies (W.setCell ⟨bv, i, none⟩ u) q n c fs := by
  refine ⟨h.1, ?_⟩
  rcases Nat.eq_zero_or_pos fs.length with h0 | hp
  · exact ⟨h.2.1, .inl ⟨h0, q, c, by rw [h0]⟩⟩
  · refine lies_over h.2 _ (fun a m c e => ?_) u
    injection e with e1 _ _
    obtain ⟨b, off, e2, _⟩ := h.2.at hp
    subst e2
    cases e1
    exact fl_not_val h hp hv
theorem vat_past {W : World} {u : V} {y : It} (h : VAt 1 W u y) (b i : Nat) (v : Value) (hne : ∀ a, y.p = some a → b ≠ a.block) : VAt 1 (W.setCell ⟨b, i, none⟩ v) u y :=
  vat_grown h (set_grown W b i v) (fun a ha e => hne a ha (Option.some.inj e))
/-- the class and its values, one of which is turned -/
structure CkV (ea : Addr) (w : World) (bc : Nat) (nm : ByteArray) (fs : List Fl) (q : Option Addr) (c : Nat) (on : ByteArray) (op : Option Addr) (oc : Nat) (ofs : List Fl) (vk vn : Int) (vz : ByteArray) (vs : List V) (ys : List It) (vp : Option Addr) (vc : Nat) (W : World) : Prop where
  st : CkSt ea w on op oc ofs vk vn vz (.slice none 0 0) W
  cb : ClBox W bc ⟨nm, fs⟩ q c
  vl : Lies W (.slice vp fs.length vc) fs.length 4 (itsCells ys)
  vi : ∀ (i : Nat) (h : i < ys.length) (h' : i < vs.length), VAt 1 W vs[i] ys[i]
theorem CkV.go {ea : Addr} {w : World} {bc : Nat} {nm : ByteArray} {fs : List Fl} {q : Option Addr} {c : Nat} {on : ByteArray} {op : Option Addr} {oc : Nat} {ofs : List Fl} {vk vn : Int} {vz : ByteArray} {vs : List V} {ys : List It} {vp : Option Addr} {vc : Nat} {W W' : World} (h : CkV ea w bc nm fs q c on op oc ofs vk vn vz vs ys vp vc W) (hb : Below W.heap.size W W') : CkV ea w bc nm fs q c on op oc ofs vk vn vz vs ys vp vc W' :=
  ⟨h.st.go hb, h.cb.below hb, h.vl.below hb, fun i a b => (h.vi i a b).below hb⟩

set_option maxHeartbeats 8000000 in
set_option maxRecDepth 100000 in
theorem classChecks_walk (x : CRaw) (hx : x.fine) (p : Option Addr) (c0' : Nat) (on : ByteArray) (hon : on.size ≤ 9223372036854775807) (ofs : List Fl) (hof : ∀ f ∈ ofs, f.fine) (op : Option Addr) (oc : Nat) (hoc : ofs.length ≤ oc) (hoc2 : oc ≤ 9223372036854775807) (l : List Int) (lp : Option Addr) (lc : Nat) (hll : l.length ≤ 9223372036854775807) (at_ : Int) (ha0 : -9223372036854775808 ≤ at_) (ha1 : at_ ≤ 9223372036854775807) (vk vn : Int) (vz : ByteArray) (hvk : -9223372036854775808 ≤ vk ∧ vk ≤ 9223372036854775807) (hvn : -9223372036854775808 ≤ vn ∧ vn ≤ 9223372036854775807) (hvz : vz.size ≤ 9223372036854775807) (vl : Option Addr) (vm vc' : Nat) (ea : Addr) (w : World) (hT : Tabs w) (hE : errLies ea w)
    (hL : Lies w (.slice p x.l.length c0') x.l.length 4 (frawCells x.l)) (hO : FLies w op ofs.length oc ofs) (hI : ILies w lp lc l) :
    Calls Tryd.prog 3 #[crawV x p c0', clV on op ofs.length oc, .slice lp l.length lc, .int .i64 at_, valV vk vn vz (.slice vl vm vc')] w fun e w' => e = .returned (.bool true) ∧ Below w.heap.size w w' := by
  obtain ⟨i0, hi, hz0, hz1, hz2⟩ := info_parts infoVal4
  have b3 : Below w.heap.size w (((w.alloc (.cells #[.int .i64 x.n, .slice p x.l.length c0'] 24)).alloc (.cells #[.string on, .slice op ofs.length oc] 27)).alloc (.cells #[.int .i64 vk, .int .i64 vn, .string vz, .slice vl vm vc'] 31)) := (below_two _ _).alloc (by simp; omega) _
  have R0 : CRBox (((w.alloc (.cells #[.int .i64 x.n, .slice p x.l.length c0'] 24)).alloc (.cells #[.string on, .slice op ofs.length oc] 27)).alloc (.cells #[.int .i64 vk, .int .i64 vn, .string vz, .slice vl vm vc'] 31)) w.heap.size x p c0' := ⟨(Lib.alloc_old _ _ _ (by simp; omega)).trans ((Lib.alloc_old _ _ _ (by simp)).trans (World.alloc_heap_new _ _)), hL.below b3⟩
  have S0 : CkSt ea w on op oc ofs vk vn vz (.slice vl vm vc') (((w.alloc (.cells #[.int .i64 x.n, .slice p x.l.length c0'] 24)).alloc (.cells #[.string on, .slice op ofs.length oc] 27)).alloc (.cells #[.int .i64 vk, .int .i64 vn, .string vz, .slice vl vm vc'] 31)) := by
    refine ⟨⟨hT.below b3, hE.below b3, b3⟩, ?_, hO.below b3, ?_⟩
    · have h := CBox.new (w.alloc (.cells #[.int .i64 x.n, .slice p x.l.length c0'] 24)) on op ofs.length oc
      rw [World.size_alloc] at h
      exact h.alloc _
    · have h := VBox.new ((w.alloc (.cells #[.int .i64 x.n, .slice p x.l.length c0'] 24)).alloc (.cells #[.string on, .slice op ofs.length oc] 27)) vk vn vz (.slice vl vm vc')
      rwa [World.size_alloc, World.size_alloc] at h
  have oka := clsOf_ok x
  have hofa := fun W h => clsOf_any x hx p c0' W h
  unfold clsOfPost at hofa
  generalize clsOf x = a at oka hofa
  obtain ⟨wa1, wa2, wa3, wa4, wa5⟩ := cl_wide oka
  obtain ⟨nm, fs⟩ := a
  simp only at wa1 wa2 wa3 hofa
  have hok : ∀ (i : Nat) (h : i < fs.length), rtB fs[i].k fs[i].o = true := fun i h => (Fl.ok_parts ((Cl.ok_parts oka).2.2 i h).1).2.2.2.1
  have hfit := vsTo_fit oka l (many := 3) (by decide)
  have hvo := fun W q c (hF : FLies W q fs.length c fs) (hI : ILies W lp lc l) => valsOf4_cap nm q c fs wa3 hok l lp lc hll 3 (by decide) W hF hI
  unfold valsOf4Cap at hvo
  generalize vsTo fs l 3 fs.length = vs at hfit hvo
  have hsh := hfit.short
  have hlenv := hfit.1
  have hchk : ∀ (cn : ByteArray) (hcn : cn.size ≤ 9223372036854775807) (gs : List Fl) (hgs : ∀ f ∈ gs, f.fine) (us : List V) (W : World) (q : Option Addr) (c : Nat) (p : Option Addr) (m2 c2 : Nat), FLies W q gs.length c gs → gs.length ≤ 12 → VsAt 1 W us p m2 c2 → m2 ≤ 20 → Tabs W → Calls Tryd.prog 12 #[clV cn q gs.length c, .slice p m2 c2] W fun e w' => e = .returned (.tuple #[.int .i64 (checkC ⟨cn, gs⟩ us).1, .int .i64 (checkC ⟨cn, gs⟩ us).2]) ∧ Below W.heap.size W w' := fun cn hcn gs hgs us W q c p m2 c2 h1 h2 h3 h4 hT => clsCheck_any 1 cn q gs.length c gs hcn hgs us p m2 c2 W h1 (by omega) h3 (by omega) hT
  have hrchk : ∀ (cn : ByteArray) (hcn : cn.size ≤ 9223372036854775807) (gs : List Fl) (hgs : ∀ f ∈ gs, f.fine) (us : List V) (hus : ∀ v ∈ us, v.short) (W : World) (q : Option Addr) (c : Nat) (p : Option Addr) (m2 c2 : Nat), FLies W q gs.length c gs → gs.length ≤ 12 → VsAt 1 W us p m2 c2 → m2 ≤ 20 → Calls Tryd.prog 13 #[clV cn q gs.length c, .slice p m2 c2] W fun e w' => e = .returned (.tuple #[.int .i64 (checkC ⟨cn, gs⟩ us).1, .int .i64 (checkC ⟨cn, gs⟩ us).2]) ∧ Below W.heap.size W w' := fun cn hcn gs hgs us hus W q c p m2 c2 h1 h2 h3 h4 => rclsCheck_any 1 cn q gs.length c gs hcn hgs us hus p m2 c2 W h1 (by omega) h3 (by omega)
  have hcut := fun W (h : FLies W op ofs.length oc ofs) => cut_any on hon op oc ofs hof hoc hoc2 W h
  unfold cutPost at hcut
  have hcf := cutCl_fine (a := ⟨on, ofs⟩) hof
  have hcs : (cutCl ⟨on, ofs⟩).nm.size ≤ 9223372036854775807 ∧ (cutCl ⟨on, ofs⟩).fs.length ≤ 12 := ⟨by have := cutN_size on; show (cutN on).size ≤ _; omega, by show ((ofs.take 12).map cutF).length ≤ 12; rw [List.length_map, List.length_take]; omega⟩
  generalize (cutCl ⟨on, ofs⟩).nm = on2 at hcut hcs
  generalize (cutCl ⟨on, ofs⟩).fs = ofs2 at hcut hcs hcf
  have HOFA := Lib.hid hofa
  have HVO := Lib.hid hvo
  have HCHK := Lib.hid hchk
  have HRCHK := Lib.hid hrchk
  have HCUT := Lib.hid hcut
  have HCF := Lib.hid hcf
  have HCS := Lib.hid hcs
  have WA1 := Lib.hid wa1
  have WA2 := Lib.hid wa2
  have HSH := Lib.hid hsh
  have HLENV := Lib.hid hlenv
  have HI := Lib.hid hI
  have HO := Lib.hid hO
  have HT := Lib.hid hT
  have HE := Lib.hid hE
  clear hofa hvo hchk hrchk hcut hcf hcs hT hE hL oka hok hx wa1 wa4 wa5 wa2 hsh hlenv hfit hI hO hll b3 hon hof hoc hoc2
  go_enter Tryd.func3, Tryd.ntmps3
  go_wp2_with fail
  refine (clsEx_any ea _ S0.ok.t S0.ok.e).mono ?_
  rintro e W1 ⟨rfl, hB⟩
  have S1 := Lib.hid (S0.go hB)
  have r1 := R0.below hB
  clear S0 R0 hB
  obtain ⟨r0, r2⟩ := r1.facts
  have R1 := Lib.hid r1
  clear r1
  go_wp2_with fail
  refine (HOFA.out _ R1.out.lies).mono ?_
  rintro e W2 ⟨q, c, rfl, hl, hB⟩
  have hal : Below W2.heap.size W2 (W2.alloc (.cells #[.string nm, .slice q fs.length c] 27)) := (Below.refl _ _).alloc (Nat.le_refl _) _
  have hs2 := S1.out.go hB
  have hbc := hs2.vb.lt
  have S2 := Lib.hid (hs2.go hal)
  have A2 := Lib.hid (show ClBox (W2.alloc (.cells #[.string nm, .slice q fs.length c] 27)) W2.heap.size ⟨nm, fs⟩ q c from ⟨CBox.new _ _ _ _ _, hl.below hal⟩)
  clear r0 r2 S1 R1 hl hB hal hs2 HOFA
  obtain ⟨c0, c1⟩ := A2.out.box.facts
  simp only at c0 c1
  go_wp2_with fail
  generalize W2.alloc (.cells #[.string nm, .slice q fs.length c] 27) = U2 at A2 S2 c0 c1 ⊢
  generalize W2.heap.size = bc at A2 c0 c1 hbc ⊢
  have hu2 := S2.out.vb.lt
  refine (HVO.out U2 q c A2.out.lies (HI.out.below S2.out.ok.b)).mono ?_
  rintro e W3 ⟨vp, vc, ys, rfl, hyl, hvl, hvi, hB, hcap, hloc, hiloc⟩
  have hs3 := S2.out.go hB
  obtain ⟨⟨e0, e1, e2, e3⟩, g0, g1, g2, g3⟩ := hs3.vb.facts
  obtain ⟨r, hr⟩ : ∃ r, min vz.size 70 = r := ⟨_, rfl⟩
  have m1a : (if (70 : Int) < (vz.size : Int) then (70 : Int) else (vz.size : Int)) = (r : Int) := by split <;> omega
  have m1b : min (vz.size : Int) 70 = (r : Int) := by omega
  have hr1 : (r : Int) ≤ (vz.size : Int) := by omega
  have hr0 : (0 : Int) ≤ (r : Int) := by omega
  have hvz2 : (vz.extract 0 r).size ≤ 70 := by rw [ByteArray.size_extract]; omega
  have hck : CkV ea w bc nm fs q c on op oc ofs vk vn (vz.extract 0 r) vs ys vp vc ((W3.setCell ⟨w.heap.size + 1 + 1, 2, none⟩ (.string (vz.extract 0 r))).setCell ⟨w.heap.size + 1 + 1, 3, none⟩ (.slice none 0 0)) := by
    have hb5 : Below w.heap.size w ((W3.setCell ⟨w.heap.size + 1 + 1, 2, none⟩ (.string (vz.extract 0 r))).setCell ⟨w.heap.size + 1 + 1, 3, none⟩ (.slice none 0 0)) := (hs3.ok.b.setCell (p := ⟨w.heap.size + 1 + 1, 2, none⟩) (by show w.heap.size ≤ w.heap.size + 1 + 1; omega) _).setCell (p := ⟨w.heap.size + 1 + 1, 3, none⟩) (by show w.heap.size ≤ w.heap.size + 1 + 1; omega) _
    have ha3 := A2.out.below hB
    have hv2 := hs3.vb.set2 (vz.extract 0 r)
    refine ⟨⟨⟨HT.out.below hb5, HE.out.below hb5, hb5⟩, ?_, HO.out.below hb5, hv2.set3 _⟩, ⟨?_, fl_past (fl_past ha3.lies hs3.vb 2 _) hv2 3 _⟩, ?_, fun i h h' => ?_⟩
    · exact (Below.heap_setCell _ ⟨w.heap.size + 1 + 1, 3, none⟩ _ _ (by show w.heap.size + 1 ≠ w.heap.size + 1 + 1; omega)).trans ((Below.heap_setCell _ ⟨w.heap.size + 1 + 1, 2, none⟩ _ _ (by show w.heap.size + 1 ≠ w.heap.size + 1 + 1; omega)).trans hs3.ob)
    · exact (Below.heap_setCell _ ⟨w.heap.size + 1 + 1, 3, none⟩ _ _ (by show bc ≠ w.heap.size + 1 + 1; omega)).trans ((Below.heap_setCell _ ⟨w.heap.size + 1 + 1, 2, none⟩ _ _ (by show bc ≠ w.heap.size + 1 + 1; omega)).trans ha3.box)
    · have hne : ∀ a m c, (Value.slice vp fs.length vc) = .slice (some a) m c → a.block ≠ w.heap.size + 1 + 1 := fun a m c e => by
        injection e with e1 _ _
        have := hloc a e1
        omega
      exact lies_over (lies_over hvl _ hne _) _ hne _
    · have hne : ∀ a, ys[i].p = some a → w.heap.size + 1 + 1 ≠ a.block := fun a ha => by
        have := hiloc _ (List.getElem_mem h) a ha
        omega
      exact vat_past (vat_past (hvi i h h') _ _ _ hne) _ _ _ hne
  have HCK := Lib.hid hck
  have HYL := Lib.hid hyl
  have HCAP := Lib.hid hcap
  clear hck hyl hcap hvl hvi hB hloc hiloc hs3 S2 A2 HVO HI HO HT HE
  clear c0 c1
  go_upto_region 8 with fail
  have hck := HCK.out
  clear HCK e0 e1 e2 e3 g0 g1 g2 g3
  generalize (W3.setCell ⟨w.heap.size + 1 + 1, 2, none⟩ (.string (vz.extract 0 r))).setCell ⟨w.heap.size + 1 + 1, 3, none⟩ (.slice none 0 0) = V4 at hck ⊢
  generalize vz.extract 0 r = vt at hck hvz2
  have K4 := Lib.hid hck
  clear hck
  go_upto_region 9 with (at_builtin; refine wpList_append_copy rfl _ _ _ rfl V4.heap.size 31 i0 _ 4 56 Tryd.underlying29 hi hz0 hz1 hz2 rfl (by omega) rfl vp fs.length vc (itsCells ys) rfl K4.out.vl (its_one ys) (by unfold maxLen; omega) (by omega) (Nat.le_refl _) ?_; intro tp tc W5 hown hgrow)
  have hb5 := below_none hgrow
  have K5 := Lib.hid (K4.out.go hb5)
  have HOWN := Lib.hid hown
  have HGROW := Lib.hid hgrow
  have hvf : (V.mk vk vn vt []).fine := ⟨hvk, hvn, by show vt.size ≤ _; omega, by show ([] : List V).length ≤ _; decide⟩
  have HVF := Lib.hid hvf
  clear hown hgrow hvf
  obtain ⟨⟨v0, v1, v2, v3⟩, _⟩ := K5.out.st.vb.facts
  go_upto_if 44 with fail
  go_cut [14] from 40 (fun v14 wx => ∃ (up : Option Addr) (uc : Nat) (us : List V), v14 = .slice up fs.length uc ∧ VsAt 1 wx us up fs.length uc ∧ (∀ v ∈ us, v.short) ∧ Below V4.heap.size V4 wx)
  case first =>
    by_cases hn0 : fs.length = 0
    · have z0 : decide ((fs.length : Int) > 0) = false := decide_eq_false (by omega)
      have z0' : ¬ (0 : Int) < (fs.length : Int) := by omega
      have hv5 : VsAt 1 W5 vs tp fs.length tc := ⟨ys, HYL.out.symm, by rw [HYL.out, HLENV.out], by rw [HYL.out]; exact Lies.own HOWN.out, K5.out.vi⟩
      have HV5 := Lib.hid hv5
      clear hn0 hv5
      go_wp2_with fail
      go_meet
      case rel => exact ⟨tp, tc, vs, rfl, HV5.out, HSH.out, hb5⟩
    · have z0 : decide ((fs.length : Int) > 0) = true := decide_eq_true (by omega)
      have z0' : (0 : Int) < (fs.length : Int) := by omega
      obtain ⟨g, cap, he, hg1, hg2⟩ := HOWN.out.form (by omega)
      injection he with he1 _ he2
      subst he1 he2
      have hpj := pickI_bd at_ (fs.length : Int) (by omega)
      have hpk := fun W => pick4_any at_ (fs.length : Int) ha0 ha1 (by omega) (by omega) W
      obtain ⟨j, hj⟩ : ∃ j : Nat, pickI at_ (fs.length : Int) = (j : Int) := ⟨(pickI at_ (fs.length : Int)).toNat, by omega⟩
      rw [hj] at hpk hpj
      have j0 : (0 : Int) ≤ (j : Int) := by omega
      have j1 : (j : Int) < (fs.length : Int) := by omega
      have hjy : j < ys.length := by have := HYL.out; omega
      have x0 : W5.cell? ⟨g, j * 4, none⟩ = _ := owned_cell HOWN.out (j * 4 + 0) _ (itsCells_at ys j hjy 0 _ rfl)
      have x1 : W5.cell? ⟨g, j * 4 + 1, none⟩ = _ := owned_cell HOWN.out (j * 4 + 1) _ (itsCells_at ys j hjy 1 _ rfl)
      have x2 : W5.cell? ⟨g, j * 4 + 2, none⟩ = _ := owned_cell HOWN.out (j * 4 + 2) _ (itsCells_at ys j hjy 2 _ rfl)
      have x3 : W5.cell? ⟨g, j * 4 + 3, none⟩ = _ := owned_cell HOWN.out (j * 4 + 3) _ (itsCells_at ys j hjy 3 _ rfl)
      have q0 := HOWN.out.frozenAt (j * 4)
      have q1 := HOWN.out.frozenAt (j * 4 + 1)
      have q2 := HOWN.out.frozenAt (j * 4 + 2)
      have q3 := HOWN.out.frozenAt (j * 4 + 3)
      have hcp := vcopy HYL.out.symm HOWN.out HGROW.out j hjy ⟨vk, vn, vt, none, 0, 0⟩
      dsimp only at hcp
      have hvs : VsAt 1 ((((W5.setCell ⟨g, j * 4, none⟩ (.int .i64 vk)).setCell ⟨g, j * 4 + 1, none⟩ (.int .i64 vn)).setCell ⟨g, j * 4 + 2, none⟩ (.string vt)).setCell ⟨g, j * 4 + 3, none⟩ (.slice none 0 0)) (vs.set j (.mk vk vn vt [])) (some ⟨g, 0, none⟩) fs.length tc := vsat_set HYL.out.symm (by rw [HYL.out, HLENV.out]) hcp.2 (K4.out.go hcp.1).vi (vat_none 1 _ HVF.out rfl)
      have hus : ∀ v ∈ vs.set j (.mk vk vn vt []), v.short := fun v hv => by
        rcases List.mem_or_eq_of_mem_set hv with h | rfl
        · exact HSH.out v h
        · exact flat_short hvz2
      have hS0 : W5.drew.cell? ⟨w.heap.size + 1 + 1, 0, none⟩ = some (.int .i64 vk) ∧ W5.drew.cell? ⟨w.heap.size + 1 + 1, 1, none⟩ = some (.int .i64 vn) ∧ W5.drew.cell? ⟨w.heap.size + 1 + 1, 2, none⟩ = some (.string vt) ∧ W5.drew.cell? ⟨w.heap.size + 1 + 1, 3, none⟩ = some (.slice none 0 0) := ⟨v0, v1, v2, v3⟩
      have HPK := Lib.hid hpk
      have HVS := Lib.hid (hvs.below (Below.refl _ _).drew)
      have HUS := Lib.hid hus
      have HBE := Lib.hid hcp.1.drew
      clear hpk hpj hj hvs hus hcp hn0
      go_wp2_with fail
      refine wp_region_T (fun W : World => W.cell? ⟨w.heap.size + 1 + 1, 0, none⟩ = some (.int .i64 vk) ∧ W.cell? ⟨w.heap.size + 1 + 1, 1, none⟩ = some (.int .i64 vn) ∧ W.cell? ⟨w.heap.size + 1 + 1, 2, none⟩ = some (.string vt) ∧ W.cell? ⟨w.heap.size + 1 + 1, 3, none⟩ = some (.slice none 0 0)) (fun j => j == 7) (by kernel_rfl) ?_
      refine wpAnyT_take (i := 0) (v := ?va0) rfl (by kernel_rfl) (by kernel_rfl) (by kernel_rfl) (by kernel_rfl) (by kernel_rfl) (fun _ _ _ h => h) (Or.inl ⟨by rfl, ?ya0⟩) (hS0) ?ra0
      case ya0 => (intro w hSw; (try dsimp only at hSw); go_simp; try with_reducible rfl)
      try simp only [Act.put, List.setIfInBounds_toArray, List.set_cons_zero, List.set_cons_succ, List.getElem_toArray, List.getElem_cons_succ, List.getElem_cons_zero]
      refine wpAnyT_take (i := 1) (v := ?va1) rfl (by kernel_rfl) (by kernel_rfl) (by kernel_rfl) (by kernel_rfl) (by kernel_rfl) (fun _ _ _ h => h) (Or.inl ⟨by rfl, ?ya1⟩) (hS0) ?ra1
      case ya1 => (intro w hSw; (try dsimp only at hSw); go_simp; try with_reducible rfl)
      try simp only [Act.put, List.setIfInBounds_toArray, List.set_cons_zero, List.set_cons_succ, List.getElem_toArray, List.getElem_cons_succ, List.getElem_cons_zero]
      refine wpAnyT_take (i := 2) (v := ?va2) rfl (by kernel_rfl) (by kernel_rfl) (by kernel_rfl) (by kernel_rfl) (by kernel_rfl) (fun _ _ _ h => h) (Or.inl ⟨by rfl, ?ya2⟩) (hS0) ?ra2
      case ya2 => (intro w hSw; (try dsimp only at hSw); go_simp; try with_reducible rfl)
      try simp only [Act.put, List.setIfInBounds_toArray, List.set_cons_zero, List.set_cons_succ, List.getElem_toArray, List.getElem_cons_succ, List.getElem_cons_zero]
      refine wpAnyT_take (i := 5) (v := ?va5) rfl (by kernel_rfl) (by kernel_rfl) (by kernel_rfl) (by kernel_rfl) (by kernel_rfl) (fun _ _ _ h => h) (Or.inl ⟨by rfl, ?ya5⟩) (hS0) ?ra5
      case ya5 => (intro w hSw; (try dsimp only at hSw); go_simp; try with_reducible rfl)
      try simp only [Act.put, List.setIfInBounds_toArray, List.set_cons_zero, List.set_cons_succ, List.getElem_toArray, List.getElem_cons_succ, List.getElem_cons_zero]
      refine wpAnyT_run (i := 3) (by kernel_rfl) rfl (fun K hK => ?_)
      go_simp
      refine hK.out _ _ (fun _ => hS0) ?_
      clear hK K
      try simp only [Act.put, List.setIfInBounds_toArray, List.set_cons_zero, List.set_cons_succ, List.getElem_toArray, List.getElem_cons_succ, List.getElem_cons_zero]
      refine wpAnyT_run (i := 4) (by kernel_rfl) rfl (fun K hK => ?_)
      go_simp
      (refine (HPK.out _).mono ?_; rintro e Y ⟨rfl, rfl⟩)
      go_wp2_with fail
      refine hK.out _ _ (fun _ => hS0) ?_
      clear hK K
      try simp only [Act.put, List.setIfInBounds_toArray, List.set_cons_zero, List.set_cons_succ, List.getElem_toArray, List.getElem_cons_succ, List.getElem_cons_zero]
      refine wpAnyT_run (i := 6) (by kernel_rfl) rfl (fun K hK => ?_)
      go_simp
      refine hK.out _ _ (fun _ => hS0) ?_
      clear hK K
      try simp only [Act.put, List.setIfInBounds_toArray, List.set_cons_zero, List.set_cons_succ, List.getElem_toArray, List.getElem_cons_succ, List.getElem_cons_zero]
      refine wpAnyT_run (i := 7) (by kernel_rfl) rfl (fun K hK => ?_)
      go_simp
      refine hK.out _ _ (fun h => absurd h (by decide)) ?_
      clear hK K
      try simp only [Act.put, List.setIfInBounds_toArray, List.set_cons_zero, List.set_cons_succ, List.getElem_toArray, List.getElem_cons_succ, List.getElem_cons_zero]
      refine wpAnyT_done (by kernel_rfl) ?_ _
      go_wp2_with fail
      go_meet
      case rel => exact ⟨some ⟨g, 0, none⟩, tc, _, rfl, HVS.out, HUS.out, HBE.out⟩
  case rest =>
    obtain ⟨V5, rfl⟩ : ∃ V5, V5 = wc := ⟨_, rfl⟩
    obtain ⟨up, uc, us, rfl, hvu, hus, hb⟩ := hcut
    have K6 := Lib.hid (K4.out.go hb)
    have HVU := Lib.hid hvu
    have HUS := Lib.hid hus
    clear hvu hus hb K4 K5 HOWN HGROW v0 v1 v2 v3 hb5
    obtain ⟨c0, c1⟩ := K6.out.cb.box.facts
    simp only at c0 c1
    obtain ⟨o0, o1⟩ := K6.out.st.ob.facts
    have hd0 : Below V5.heap.size V5 V5.drew := (Below.refl _ _).drew
    have hS0 : V5.drew.cell? ⟨bc, 0, none⟩ = some (.string nm) ∧ V5.drew.cell? ⟨bc, 1, none⟩ = some (.slice q fs.length c) ∧ V5.drew.cell? ⟨w.heap.size + 1, 0, none⟩ = some (.string on) ∧ V5.drew.cell? ⟨w.heap.size + 1, 1, none⟩ = some (.slice op ofs.length oc) := ⟨c0, c1, o0, o1⟩
    have hsw : ∀ W, Below V5.heap.size V5 W → W.cell? ⟨bc, 0, none⟩ = some (.string nm) ∧ W.cell? ⟨bc, 1, none⟩ = some (.slice q fs.length c) ∧ W.cell? ⟨w.heap.size + 1, 0, none⟩ = some (.string on) ∧ W.cell? ⟨w.heap.size + 1, 1, none⟩ = some (.slice op ofs.length oc) := fun W h =>
      ⟨(K6.out.go h).cb.box.facts.1, (K6.out.go h).cb.box.facts.2, (K6.out.go h).st.ob.facts.1, (K6.out.go h).st.ob.facts.2⟩
    have hct := HCUT.out V5.drew (K6.out.go hd0).st.ol
    have HCT := Lib.hid hct
    have HSW := Lib.hid hsw
    have HD0 := Lib.hid hd0
    clear hsw hd0 hct c0 c1 o0 o1
    go_wp2_with fail
    refine wp_region_T (fun W : World => W.cell? ⟨bc, 0, none⟩ = some (.string nm) ∧ W.cell? ⟨bc, 1, none⟩ = some (.slice q fs.length c) ∧ W.cell? ⟨w.heap.size + 1, 0, none⟩ = some (.string on) ∧ W.cell? ⟨w.heap.size + 1, 1, none⟩ = some (.slice op ofs.length oc)) (fun j => false) (by kernel_rfl) ?_
    refine wpAnyT_take (i := 0) (v := ?vb0) rfl (by kernel_rfl) (by kernel_rfl) (by kernel_rfl) (by kernel_rfl) (by kernel_rfl) (fun _ _ _ h => h) (Or.inl ⟨by rfl, ?yb0⟩) (hS0) ?rb0
    case yb0 => (intro w hSw; (try dsimp only at hSw); go_simp; try with_reducible rfl)
    try simp only [Act.put, List.setIfInBounds_toArray, List.set_cons_zero, List.set_cons_succ, List.getElem_toArray, List.getElem_cons_succ, List.getElem_cons_zero]
    refine wpAnyT_take (i := 1) (v := ?vb1) rfl (by kernel_rfl) (by kernel_rfl) (by kernel_rfl) (by kernel_rfl) (by kernel_rfl) (fun _ _ _ h => h) (Or.inl ⟨by rfl, ?yb1⟩) (hS0) ?rb1
    case yb1 => (intro w hSw; (try dsimp only at hSw); go_simp; try with_reducible rfl)
    try simp only [Act.put, List.setIfInBounds_toArray, List.set_cons_zero, List.set_cons_succ, List.getElem_toArray, List.getElem_cons_succ, List.getElem_cons_zero]
    refine wpAnyT_take (i := 5) (v := ?vb5) rfl (by kernel_rfl) (by kernel_rfl) (by kernel_rfl) (by kernel_rfl) (by kernel_rfl) (fun _ _ _ h => h) (Or.inl ⟨by rfl, ?yb5⟩) (hS0) ?rb5
    case yb5 => (intro w hSw; (try dsimp only at hSw); go_simp; try with_reducible rfl)
    try simp only [Act.put, List.setIfInBounds_toArray, List.set_cons_zero, List.set_cons_succ, List.getElem_toArray, List.getElem_cons_succ, List.getElem_cons_zero]
    refine wpAnyT_run (i := 2) (by kernel_rfl) rfl (fun K hK => ?_)
    go_simp
    (refine HCT.out.mono ?_; rintro e Y1 ⟨q2, cc2, rfl, hf2, hBY⟩)
    have hBZ := HD0.out.trans (hBY.mono HD0.out.size)
    have hS1 := HSW.out _ hBZ
    go_wp2_with fail
    refine hK.out _ _ (fun _ => hS1) ?_
    clear hK K
    try simp only [Act.put, List.setIfInBounds_toArray, List.set_cons_zero, List.set_cons_succ, List.getElem_toArray, List.getElem_cons_succ, List.getElem_cons_zero]
    have hal2 := (Below.refl Y1.heap.size Y1).alloc (Nat.le_refl _) (.cells #[.string nm, .slice q fs.length c, .string on2, .slice q2 ofs2.length cc2] 27)
    have hBA := hBZ.trans (hal2.mono hBZ.size)
    have hS2 := HSW.out _ hBA
    refine wpAnyT_run (i := 3) (by kernel_rfl) rfl (fun K hK => ?_)
    go_simp
    refine hK.out _ _ (fun _ => hS2) ?_
    clear hK K
    try simp only [Act.put, List.setIfInBounds_toArray, List.set_cons_zero, List.set_cons_succ, List.getElem_toArray, List.getElem_cons_succ, List.getElem_cons_zero]
    refine wpAnyT_run (i := 4) (by kernel_rfl) rfl (fun K hK => ?_)
    go_simp
    refine hK.out _ _ (fun _ => hS2) ?_
    clear hK K
    try simp only [Act.put, List.setIfInBounds_toArray, List.set_cons_zero, List.set_cons_succ, List.getElem_toArray, List.getElem_cons_succ, List.getElem_cons_zero]
    refine wpAnyT_done (by kernel_rfl) ?_ _
    have K7 := Lib.hid (K6.out.go hBA)
    have HVU7 := Lib.hid (HVU.out.below hBA)
    have hblk := World.alloc_heap_new Y1 (.cells #[.string nm, .slice q fs.length c, .string on2, .slice q2 ofs2.length cc2] 27)
    have hf27 := hf2.below hal2
    have hblt : Y1.heap.size < (Y1.alloc (.cells #[.string nm, .slice q fs.length c, .string on2, .slice q2 ofs2.length cc2] 27)).heap.size := by rw [World.size_alloc]; exact Nat.lt_succ_self _
    clear hS0 hS1 hS2 HSW HD0 HCT hf2 hBY hBZ hBA hal2 K6 HVU
    generalize Y1.alloc (.cells #[.string nm, .slice q fs.length c, .string on2, .slice q2 ofs2.length cc2] 27) = Z at K7 HVU7 hblk hf27 hblt ⊢
    generalize Y1.heap.size = bl at hblk hblt ⊢
    have hpk : ∀ i, i < 2 → ∃ (dn : ByteArray) (dfs : List Fl) (dq : Option Addr) (dc : Nat), Z.cell? ⟨bl, i * 2, none⟩ = some (.string dn) ∧ Z.cell? ⟨bl, i * 2 + 1, none⟩ = some (.slice dq dfs.length dc) ∧ FLies Z dq dfs.length dc dfs ∧ (∀ f ∈ dfs, f.fine) ∧ dn.size ≤ 9223372036854775807 ∧ dfs.length ≤ 12 := fun i hi => by
      match i, hi with
      | 0, _ => exact ⟨nm, fs, q, c, by rw [Lib.cell_of_heap hblk]; rfl, by rw [Lib.cell_of_heap hblk]; rfl, K7.out.cb.lies, WA2.out, WA1.out, by omega⟩
      | 1, _ => exact ⟨on2, ofs2, q2, cc2, by rw [Lib.cell_of_heap hblk]; rfl, by rw [Lib.cell_of_heap hblk]; rfl, hf27, HCF.out, HCS.out.1, HCS.out.2⟩
    have HPK := Lib.hid hpk
    clear hpk hblk hf27
    go_wp2_with fail
    go_loopw [57] (fun s wr => ∃ i : Nat, i ≤ 2 ∧ s = .int .i64 (i : Int) ∧ Below Z.heap.size Z wr) (fun s _ => 2 - (intOf s).toNat)
    case atStart => exact ⟨0, by omega, rfl, Below.refl _ _⟩
    case round =>
      obtain ⟨i, hi2, rfl, hBr⟩ := hrel
      have HBR := Lib.hid hBr
      have hszr := hBr.size
      clear hBr
      by_cases hil : i < 2
      · have d1 : decide ((i : Int) < 2) = true := decide_eq_true (by omega)
        have d1' : (i : Int) < 2 := by omega
        have d0 : (0 : Int) ≤ (i : Int) := by omega
        obtain ⟨dn, dfs, dq, dc, hc0, hc1, hdl, hdf, hds, hd12⟩ := HPK.out i hil
        have k0 : wr.cell? ⟨bl, i * 2, none⟩ = some (.string dn) := (HBR.out.cell (p := ⟨bl, i * 2, none⟩) hblt).trans hc0
        have k1 : wr.cell? ⟨bl, i * 2 + 1, none⟩ = some (.slice dq dfs.length dc) := (HBR.out.cell (p := ⟨bl, i * 2 + 1, none⟩) hblt).trans hc1
        have HDL := Lib.hid hdl
        have HDF := Lib.hid hdf
        have HDS := Lib.hid hds
        clear hc0 hc1 hdl hdf hds HPK
        go_upto_region 14 with fail
        have halD := (Below.refl wr.heap.size wr).alloc (Nat.le_refl _) (.cells #[.string dn, .slice dq dfs.length dc] 27)
        have hdb := CBox.new wr dn dq dfs.length dc
        have hbD := HBR.out.trans (halD.mono hszr)
        generalize wr.alloc (.cells #[.string dn, .slice dq dfs.length dc] 27) = D at halD hdb hbD ⊢
        generalize wr.heap.size = bd at hdb ⊢
        have hkD := K7.out.go hbD
        have hvD := HVU7.out.below hbD
        have hdlD := HDL.out.below hbD
        have hszD := hbD.size
        obtain ⟨⟨v0, v1, v2, v3⟩, _⟩ := hkD.st.vb.facts
        have hd0 : Below D.heap.size D D.drew := (Below.refl _ _).drew
        have hsw : ∀ W, Below D.heap.size D.drew W → W.cell? ⟨w.heap.size + 1 + 1, 0, none⟩ = some (.int .i64 vk) ∧ W.cell? ⟨w.heap.size + 1 + 1, 1, none⟩ = some (.int .i64 vn) ∧ W.cell? ⟨w.heap.size + 1 + 1, 2, none⟩ = some (.string vt) ∧ W.cell? ⟨w.heap.size + 1 + 1, 3, none⟩ = some (.slice none 0 0) := fun W h => (hkD.go (hd0.trans h)).st.vb.facts.1
        have hS0 := hsw D.drew (Below.refl _ _)
        have hlv : ∀ W, Below D.heap.size D.drew W → Lies W (.slice vp fs.length vc) fs.length 4 (itsCells ys) := fun W h => (hkD.go (hd0.trans h)).vl
        have hpj := pickI_bd at_ (fs.length + 1 : Int) (by omega)
        have hpk4 := fun W => pick4_any at_ (fs.length + 1 : Int) ha0 ha1 (by omega) (by omega) W
        obtain ⟨jt, hjt⟩ : ∃ jt : Nat, pickI at_ (fs.length + 1 : Int) = (jt : Int) := ⟨(pickI at_ (fs.length + 1 : Int)).toNat, by omega⟩
        rw [hjt] at hpk4 hpj
        have hjn : jt ≤ fs.length := by omega
        have j0 : (0 : Int) ≤ (jt : Int) := by omega
        have j1 : (jt : Int) ≤ (vc : Int) := by have := HCAP.out.1; omega
        have jw : IntKind.i64.wrap ((fs.length : Int) + 1) = (fs.length : Int) + 1 := IntWalk.i64_in _ (by omega)
        have hend : ∀ W g cap, Below D.heap.size D.drew W → W.ownsRow D.heap.size 31 4 (.slice (some ⟨g, 0, none⟩) (fs.length + 1) cap) (fs.length + 1) (itsCells ys ++ [.int .i64 vk, .int .i64 vn, .string vt, .slice none 0 0]) → Below D.heap.size D (W.alloc (.cells #[.slice vp fs.length vc, .slice up fs.length uc, .slice (some ⟨g, 0, none⟩) (fs.length + 1) cap, .slice vp jt vc] 29)) ∧ W.heap.size < (W.alloc (.cells #[.slice vp fs.length vc, .slice up fs.length uc, .slice (some ⟨g, 0, none⟩) (fs.length + 1) cap, .slice vp jt vc] 29)).heap.size ∧ ∀ j, j < 4 → ∃ (us' : List V) (p' : Option Addr) (m' c' : Nat), (W.alloc (.cells #[.slice vp fs.length vc, .slice up fs.length uc, .slice (some ⟨g, 0, none⟩) (fs.length + 1) cap, .slice vp jt vc] 29)).cell? ⟨W.heap.size, j, none⟩ = some (.slice p' m' c') ∧ VsAt 1 (W.alloc (.cells #[.slice vp fs.length vc, .slice up fs.length uc, .slice (some ⟨g, 0, none⟩) (fs.length + 1) cap, .slice vp jt vc] 29)) us' p' m' c' ∧ (∀ v ∈ us', v.short) ∧ m' ≤ 20 := fun W g cap hb ho => by
          have hbw := hd0.trans hb
          have hbl := hbw.alloc hbw.size (.cells #[.slice vp fs.length vc, .slice up fs.length uc, .slice (some ⟨g, 0, none⟩) (fs.length + 1) cap, .slice vp jt vc] 29)
          have hk := hkD.go hbl
          have hblk := World.alloc_heap_new W (.cells #[.slice vp fs.length vc, .slice up fs.length uc, .slice (some ⟨g, 0, none⟩) (fs.length + 1) cap, .slice vp jt vc] 29)
          have hown := ho.alloc (.cells #[.slice vp fs.length vc, .slice up fs.length uc, .slice (some ⟨g, 0, none⟩) (fs.length + 1) cap, .slice vp jt vc] 29)
          have hvv : VsAt 1 (W.alloc (.cells #[.slice vp fs.length vc, .slice up fs.length uc, .slice (some ⟨g, 0, none⟩) (fs.length + 1) cap, .slice vp jt vc] 29)) vs vp fs.length vc := ⟨ys, HYL.out.symm, by rw [HYL.out, HLENV.out], by rw [HYL.out]; exact hk.vl, hk.vi⟩
          refine ⟨hbl, by rw [World.size_alloc]; exact Nat.lt_succ_self _, fun j hj => ?_⟩
          match j, hj with
          | 0, _ => exact ⟨vs, vp, fs.length, vc, by rw [Lib.cell_of_heap hblk]; rfl, hvv, HSH.out, by omega⟩
          | 1, _ => exact ⟨us, up, fs.length, uc, by rw [Lib.cell_of_heap hblk]; rfl, hvD.below hbl, HUS.out, by omega⟩
          | 2, _ => exact ⟨vs ++ [.mk vk vn vt []], some ⟨g, 0, none⟩, fs.length + 1, cap, by rw [Lib.cell_of_heap hblk]; rfl, vsat_snoc HYL.out.symm (by rw [HYL.out, HLENV.out]) (Lies.own hown) hk.vi (vat_none 1 _ HVF.out rfl), fun v hv => by
              rcases List.mem_append.1 hv with h | h
              · exact HSH.out v h
              · rw [List.mem_singleton.1 h]; exact flat_short hvz2, by omega⟩
          | 3, _ => exact ⟨vs.take jt, vp, jt, vc, by rw [Lib.cell_of_heap hblk]; rfl, vsat_take hvv jt hjn, fun v hv => HSH.out v (List.mem_of_mem_take hv), by omega⟩
        have HLV := Lib.hid hlv
        have HPK4 := Lib.hid hpk4
        have HENDR := Lib.hid hend
        have HSW := Lib.hid hsw
        have HKD := Lib.hid hkD
        have HDLD := Lib.hid hdlD
        have HDB := Lib.hid hdb
        have HBD := Lib.hid hbD
        clear hkD hvD hdlD hdb hbD halD hlv hpj hpk4 hjt hend hsw HDL v0 v1 v2 v3 k0 k1
        go_cut [75, 76, 77] from 58 to 102 (fun v75 v76 v77 wx => ∃ byl : Nat, v75 = .slice (some ⟨byl, 0, none⟩) 4 4 ∧ v76 = .int .i64 4 ∧ v77 = .int .i64 0 ∧ Below D.heap.size D wx ∧ byl < wx.heap.size ∧ ∀ j, j < 4 → ∃ (us' : List V) (p' : Option Addr) (m' c' : Nat), wx.cell? ⟨byl, j, none⟩ = some (.slice p' m' c') ∧ VsAt 1 wx us' p' m' c' ∧ (∀ v ∈ us', v.short) ∧ m' ≤ 20)
        case first =>
          go_wp2_with fail
          refine wp_region_T (fun W : World => W.cell? ⟨w.heap.size + 1 + 1, 0, none⟩ = some (.int .i64 vk) ∧ W.cell? ⟨w.heap.size + 1 + 1, 1, none⟩ = some (.int .i64 vn) ∧ W.cell? ⟨w.heap.size + 1 + 1, 2, none⟩ = some (.string vt) ∧ W.cell? ⟨w.heap.size + 1 + 1, 3, none⟩ = some (.slice none 0 0)) (fun j => false) (by kernel_rfl) ?_
          refine wpAnyT_take (i := 0) (v := ?vc0) rfl (by kernel_rfl) (by kernel_rfl) (by kernel_rfl) (by kernel_rfl) (by kernel_rfl) (fun _ _ _ h => h) (Or.inl ⟨by rfl, ?yc0⟩) (hS0) ?rc0
          case yc0 => (intro w hSw; (try dsimp only at hSw); go_simp; try with_reducible rfl)
          try simp only [Act.put, List.setIfInBounds_toArray, List.set_cons_zero, List.set_cons_succ, List.getElem_toArray, List.getElem_cons_succ, List.getElem_cons_zero]
          refine wpAnyT_take (i := 1) (v := ?vc1) rfl (by kernel_rfl) (by kernel_rfl) (by kernel_rfl) (by kernel_rfl) (by kernel_rfl) (fun _ _ _ h => h) (Or.inl ⟨by rfl, ?yc1⟩) (hS0) ?rc1
          case yc1 => (intro w hSw; (try dsimp only at hSw); go_simp; try with_reducible rfl)
          try simp only [Act.put, List.setIfInBounds_toArray, List.set_cons_zero, List.set_cons_succ, List.getElem_toArray, List.getElem_cons_succ, List.getElem_cons_zero]
          refine wpAnyT_take (i := 2) (v := ?vc2) rfl (by kernel_rfl) (by kernel_rfl) (by kernel_rfl) (by kernel_rfl) (by kernel_rfl) (fun _ _ _ h => h) (Or.inl ⟨by rfl, ?yc2⟩) (hS0) ?rc2
          case yc2 => (intro w hSw; (try dsimp only at hSw); go_simp; try with_reducible rfl)
          try simp only [Act.put, List.setIfInBounds_toArray, List.set_cons_zero, List.set_cons_succ, List.getElem_toArray, List.getElem_cons_succ, List.getElem_cons_zero]
          refine wpAnyT_take (i := 4) (v := ?vc4) rfl (by kernel_rfl) (by kernel_rfl) (by kernel_rfl) (by kernel_rfl) (by kernel_rfl) (fun _ _ _ h => h) (Or.inl ⟨by rfl, ?yc4⟩) (hS0) ?rc4
          case yc4 => (intro w hSw; (try dsimp only at hSw); go_simp; try with_reducible rfl)
          try simp only [Act.put, List.setIfInBounds_toArray, List.set_cons_zero, List.set_cons_succ, List.getElem_toArray, List.getElem_cons_succ, List.getElem_cons_zero]
          refine wpAnyT_take (i := 7) (v := ?vc7) rfl (by kernel_rfl) (by kernel_rfl) (by kernel_rfl) (by kernel_rfl) (by kernel_rfl) (fun _ _ _ h => h) (Or.inl ⟨by rfl, ?yc7⟩) (hS0) ?rc7
          case yc7 => (intro w hSw; (try dsimp only at hSw); go_simp; try with_reducible rfl)
          try simp only [Act.put, List.setIfInBounds_toArray, List.set_cons_zero, List.set_cons_succ, List.getElem_toArray, List.getElem_cons_succ, List.getElem_cons_zero]
          refine wpAnyT_take (i := 8) (v := ?vc8) rfl (by kernel_rfl) (by kernel_rfl) (by kernel_rfl) (by kernel_rfl) (by kernel_rfl) (fun _ _ _ h => h) (Or.inl ⟨by rfl, ?yc8⟩) (hS0) ?rc8
          case yc8 => (intro w hSw; (try dsimp only at hSw); go_simp; try with_reducible rfl)
          try simp only [Act.put, List.setIfInBounds_toArray, List.set_cons_zero, List.set_cons_succ, List.getElem_toArray, List.getElem_cons_succ, List.getElem_cons_zero]
          refine wpAnyT_take (i := 9) (v := ?vc9) rfl (by kernel_rfl) (by kernel_rfl) (by kernel_rfl) (by kernel_rfl) (by kernel_rfl) (fun _ _ _ h => h) (Or.inl ⟨by rfl, ?yc9⟩) (hS0) ?rc9
          case yc9 => (intro w hSw; (try dsimp only at hSw); go_simp; try with_reducible rfl)
          try simp only [Act.put, List.setIfInBounds_toArray, List.set_cons_zero, List.set_cons_succ, List.getElem_toArray, List.getElem_cons_succ, List.getElem_cons_zero]
          refine wpAnyT_take (i := 10) (v := ?vc10) rfl (by kernel_rfl) (by kernel_rfl) (by kernel_rfl) (by kernel_rfl) (by kernel_rfl) (fun _ _ _ h => h) (Or.inl ⟨by rfl, ?yc10⟩) (hS0) ?rc10
          case yc10 => (intro w hSw; (try dsimp only at hSw); go_simp; try with_reducible rfl)
          try simp only [Act.put, List.setIfInBounds_toArray, List.set_cons_zero, List.set_cons_succ, List.getElem_toArray, List.getElem_cons_succ, List.getElem_cons_zero]
          refine wpAnyT_take (i := 11) (v := ?vc11) rfl (by kernel_rfl) (by kernel_rfl) (by kernel_rfl) (by kernel_rfl) (by kernel_rfl) (fun _ _ _ h => h) (Or.inl ⟨by rfl, ?yc11⟩) (hS0) ?rc11
          case yc11 => (intro w hSw; (try dsimp only at hSw); go_simp; try with_reducible rfl)
          try simp only [Act.put, List.setIfInBounds_toArray, List.set_cons_zero, List.set_cons_succ, List.getElem_toArray, List.getElem_cons_succ, List.getElem_cons_zero]
          refine wpAnyT_take (i := 16) (v := ?vc16) rfl (by kernel_rfl) (by kernel_rfl) (by kernel_rfl) (by kernel_rfl) (by kernel_rfl) (fun _ _ _ h => h) (Or.inl ⟨by rfl, ?yc16⟩) (hS0) ?rc16
          case yc16 => (intro w hSw; (try dsimp only at hSw); go_simp; try with_reducible rfl)
          try simp only [Act.put, List.setIfInBounds_toArray, List.set_cons_zero, List.set_cons_succ, List.getElem_toArray, List.getElem_cons_succ, List.getElem_cons_zero]
          refine wpAnyT_two (i := 3) (j := 5) (by kernel_rfl) rfl rfl (fun K hK => ?_) (fun K hK => ?_)
          · refine step_append_copy (by rfl) _ _ _ (by rfl) D.heap.size 31 i0 _ 4 56 Tryd.underlying29 hi hz0 hz1 hz2 rfl (by omega) (by rfl) vp fs.length vc (itsCells ys) (by rfl) (HLV.out _ (Below.refl D.heap.size D.drew)) (its_one ys) (by unfold maxLen; omega) (by omega) ((Below.refl D.heap.size D.drew)).size ?_
            intro p3 c3 w3 hown3 hg3
            have hB3 : Below D.heap.size D.drew w3 := below_none hg3
            have hS3 := HSW.out _ hB3
            refine hK.out _ _ (fun _ => hS3) ?_
            clear hK K
            try simp only [Act.put, List.setIfInBounds_toArray, List.set_cons_zero, List.set_cons_succ, List.getElem_toArray, List.getElem_cons_succ, List.getElem_cons_zero]
            refine wpAnyT_run (i := 5) (by kernel_rfl) rfl (fun K hK => ?_)
            go_simp
            have hB5 := hB3.alloc hB3.size (.cells #[.int .i64 vk, .int .i64 vn, .string vt, .slice none 0 0] 31)
            have hS5 := HSW.out _ hB5
            refine hK.out _ _ (fun _ => hS5) ?_
            clear hK K
            try simp only [Act.put, List.setIfInBounds_toArray, List.set_cons_zero, List.set_cons_succ, List.getElem_toArray, List.getElem_cons_succ, List.getElem_cons_zero]
            have hblk := World.alloc_heap_new w3 (.cells #[.int .i64 vk, .int .i64 vn, .string vt, .slice none 0 0] 31)
            have hown5 := hown3.alloc (.cells #[.int .i64 vk, .int .i64 vn, .string vt, .slice none 0 0] 31)
            refine wpAnyT_run (i := 6) (by kernel_rfl) rfl (fun K hK => ?_)
            refine step_append_lies _ (by rfl) _ _ _ (by rfl) D.heap.size 31 i0 _ 4 56 Tryd.underlying29 hi hz0 hz1 hz2 rfl (by omega) _ fs.length (itsCells ys) (by rfl) hown5 ⟨w3.heap.size, 0, none⟩ 1 1 [.int .i64 vk, .int .i64 vn, .string vt, .slice none 0 0] (by rfl) (by rfl) (World.news_of_block (cs := #[.int .i64 vk, .int .i64 vn, .string vt, .slice none 0 0]) (t := 31) (fr := (0, 0)) hblk) (by simp [Value.oneCell']) (by omega) (by simp [maxLen]; omega) (by omega) (hB5).size _ rfl ?_
            intro g cap w6 hown6 hg6 hat6 hlt6
            have hB6 : Below D.heap.size D.drew w6 := (hB5).grown hg6 (hB5).size (fun g' hg' => ((hown5).lt g' hg').1)
            have hS6 := HSW.out _ hB6
            refine hK.out _ _ (fun _ => hS6) ?_
            clear hK K
            try simp only [Act.put, List.setIfInBounds_toArray, List.set_cons_zero, List.set_cons_succ, List.getElem_toArray, List.getElem_cons_succ, List.getElem_cons_zero]
            refine wpAnyT_run (i := 12) (by kernel_rfl) rfl (fun K hK => ?_)
            go_simp
            (refine (HPK4.out _).mono ?_; rintro e Y ⟨rfl, rfl⟩)
            go_wp2_with fail
            refine hK.out _ _ (fun _ => hS6) ?_
            clear hK K
            try simp only [Act.put, List.setIfInBounds_toArray, List.set_cons_zero, List.set_cons_succ, List.getElem_toArray, List.getElem_cons_succ, List.getElem_cons_zero]
            refine wpAnyT_take (i := 13) (v := ?vd13) rfl (by kernel_rfl) (by kernel_rfl) (by kernel_rfl) (by kernel_rfl) (by kernel_rfl) (fun _ _ _ h => h) (Or.inl ⟨by rfl, ?yd13⟩) (hS6) ?rd13
            case yd13 => (intro w hSw; (try dsimp only at hSw); go_simp; try with_reducible rfl)
            try simp only [Act.put, List.setIfInBounds_toArray, List.set_cons_zero, List.set_cons_succ, List.getElem_toArray, List.getElem_cons_succ, List.getElem_cons_zero]
            obtain ⟨e1, e2, e3⟩ := HENDR.out _ g cap hB6 hown6
            have hS7 := HSW.out _ (hB6.alloc hB6.size (.cells #[.slice vp fs.length vc, .slice up fs.length uc, .slice (some ⟨g, 0, none⟩) (fs.length + 1) cap, .slice vp jt vc] 29))
            refine wpAnyT_run (i := 14) (by kernel_rfl) rfl (fun K hK => ?_)
            go_simp
            refine hK.out _ _ (fun _ => hS7) ?_
            clear hK K
            try simp only [Act.put, List.setIfInBounds_toArray, List.set_cons_zero, List.set_cons_succ, List.getElem_toArray, List.getElem_cons_succ, List.getElem_cons_zero]
            refine wpAnyT_run (i := 15) (by kernel_rfl) rfl (fun K hK => ?_)
            go_simp
            refine hK.out _ _ (fun _ => hS7) ?_
            clear hK K
            try simp only [Act.put, List.setIfInBounds_toArray, List.set_cons_zero, List.set_cons_succ, List.getElem_toArray, List.getElem_cons_succ, List.getElem_cons_zero]
            refine wpAnyT_done (by kernel_rfl) ?_ _
            have E3 := Lib.hid e3
            clear e3
            go_wp2_with fail
            go_meet
            case rel => exact ⟨_, rfl, rfl, rfl, e1, e2, E3.out⟩
          · go_simp
            have hB5 := (Below.refl D.heap.size D.drew).alloc (Nat.le_refl _) (.cells #[.int .i64 vk, .int .i64 vn, .string vt, .slice none 0 0] 31)
            have hS5 := HSW.out _ hB5
            refine hK.out _ _ (fun _ => hS5) ?_
            clear hK K
            try simp only [Act.put, List.setIfInBounds_toArray, List.set_cons_zero, List.set_cons_succ, List.getElem_toArray, List.getElem_cons_succ, List.getElem_cons_zero]
            refine wpAnyT_run (i := 3) (by kernel_rfl) rfl (fun K hK => ?_)
            refine step_append_copy (by rfl) _ _ _ (by rfl) D.heap.size 31 i0 _ 4 56 Tryd.underlying29 hi hz0 hz1 hz2 rfl (by omega) (by rfl) vp fs.length vc (itsCells ys) (by rfl) (HLV.out _ hB5) (its_one ys) (by unfold maxLen; omega) (by omega) (hB5).size ?_
            intro p3 c3 w3 hown3 hg3
            have hB3 : Below D.heap.size D.drew w3 := hB5.trans ((below_none hg3).mono hB5.size)
            have hS3 := HSW.out _ hB3
            refine hK.out _ _ (fun _ => hS3) ?_
            clear hK K
            try simp only [Act.put, List.setIfInBounds_toArray, List.set_cons_zero, List.set_cons_succ, List.getElem_toArray, List.getElem_cons_succ, List.getElem_cons_zero]
            have hblk := ((below_none hg3).block D.heap.size (by show D.heap.size < (D.heap.push _).size; simp)).trans (World.alloc_heap_new D.drew (.cells #[.int .i64 vk, .int .i64 vn, .string vt, .slice none 0 0] 31))
            refine wpAnyT_run (i := 6) (by kernel_rfl) rfl (fun K hK => ?_)
            refine step_append_lies _ (by rfl) _ _ _ (by rfl) D.heap.size 31 i0 _ 4 56 Tryd.underlying29 hi hz0 hz1 hz2 rfl (by omega) _ fs.length (itsCells ys) (by rfl) hown3 ⟨D.heap.size, 0, none⟩ 1 1 [.int .i64 vk, .int .i64 vn, .string vt, .slice none 0 0] (by rfl) (by rfl) (World.news_of_block (cs := #[.int .i64 vk, .int .i64 vn, .string vt, .slice none 0 0]) (t := 31) (fr := (0, 0)) hblk) (by simp [Value.oneCell']) (by omega) (by simp [maxLen]; omega) (by omega) (hB3).size _ rfl ?_
            intro g cap w6 hown6 hg6 hat6 hlt6
            have hB6 : Below D.heap.size D.drew w6 := (hB3).grown hg6 (hB3).size (fun g' hg' => ((hown3).lt g' hg').1)
            have hS6 := HSW.out _ hB6
            refine hK.out _ _ (fun _ => hS6) ?_
            clear hK K
            try simp only [Act.put, List.setIfInBounds_toArray, List.set_cons_zero, List.set_cons_succ, List.getElem_toArray, List.getElem_cons_succ, List.getElem_cons_zero]
            refine wpAnyT_run (i := 12) (by kernel_rfl) rfl (fun K hK => ?_)
            go_simp
            (refine (HPK4.out _).mono ?_; rintro e Y ⟨rfl, rfl⟩)
            go_wp2_with fail
            refine hK.out _ _ (fun _ => hS6) ?_
            clear hK K
            try simp only [Act.put, List.setIfInBounds_toArray, List.set_cons_zero, List.set_cons_succ, List.getElem_toArray, List.getElem_cons_succ, List.getElem_cons_zero]
            refine wpAnyT_take (i := 13) (v := ?ve13) rfl (by kernel_rfl) (by kernel_rfl) (by kernel_rfl) (by kernel_rfl) (by kernel_rfl) (fun _ _ _ h => h) (Or.inl ⟨by rfl, ?ye13⟩) (hS6) ?re13
            case ye13 => (intro w hSw; (try dsimp only at hSw); go_simp; try with_reducible rfl)
            try simp only [Act.put, List.setIfInBounds_toArray, List.set_cons_zero, List.set_cons_succ, List.getElem_toArray, List.getElem_cons_succ, List.getElem_cons_zero]
            obtain ⟨e1, e2, e3⟩ := HENDR.out _ g cap hB6 hown6
            have hS7 := HSW.out _ (hB6.alloc hB6.size (.cells #[.slice vp fs.length vc, .slice up fs.length uc, .slice (some ⟨g, 0, none⟩) (fs.length + 1) cap, .slice vp jt vc] 29))
            refine wpAnyT_run (i := 14) (by kernel_rfl) rfl (fun K hK => ?_)
            go_simp
            refine hK.out _ _ (fun _ => hS7) ?_
            clear hK K
            try simp only [Act.put, List.setIfInBounds_toArray, List.set_cons_zero, List.set_cons_succ, List.getElem_toArray, List.getElem_cons_succ, List.getElem_cons_zero]
            refine wpAnyT_run (i := 15) (by kernel_rfl) rfl (fun K hK => ?_)
            go_simp
            refine hK.out _ _ (fun _ => hS7) ?_
            clear hK K
            try simp only [Act.put, List.setIfInBounds_toArray, List.set_cons_zero, List.set_cons_succ, List.getElem_toArray, List.getElem_cons_succ, List.getElem_cons_zero]
            refine wpAnyT_done (by kernel_rfl) ?_ _
            have E3 := Lib.hid e3
            clear e3
            go_wp2_with fail
            go_meet
            case rel => exact ⟨_, rfl, rfl, rfl, e1, e2, E3.out⟩
        case rest =>
          obtain ⟨Z2, rfl⟩ : ∃ Z2, Z2 = wc := ⟨_, rfl⟩
          obtain ⟨byl, rfl, rfl, rfl, hbz, hbyl, hpks⟩ := hcut
          have HPS := Lib.hid hpks
          have HK2 := Lib.hid (HKD.out.go hbz)
          have HD2 := Lib.hid (HDLD.out.below hbz)
          have HB2 := Lib.hid (HDB.out.below hbz)
          have HBZ := Lib.hid (HBD.out.trans (hbz.mono hszD))
          clear hpks hbz HKD HDLD HDB HBD HENDR HPK4 HLV HSW hS0
          go_wp2_with fail
          go_loopw [77] (fun s wr => ∃ j : Nat, j ≤ 4 ∧ s = .int .i64 (j : Int) ∧ Below Z2.heap.size Z2 wr) (fun s _ => 4 - (intOf s).toNat)
          case atStart => exact ⟨0, by omega, rfl, Below.refl _ _⟩
          case round =>
            obtain ⟨j, hj4, rfl, hBj⟩ := hrel
            have HBJ := Lib.hid hBj
            have hszj := hBj.size
            clear hBj
            by_cases hjl : j < 4
            · have f1 : decide ((j : Int) < 4) = true := decide_eq_true (by omega)
              have f1' : (j : Int) < 4 := by omega
              have f0 : (0 : Int) ≤ (j : Int) := by omega
              obtain ⟨us', p', m', c', hc0, hva, hsu, hm20⟩ := HPS.out j hjl
              have k0 : wr.cell? ⟨byl, j, none⟩ = some (.slice p' m' c') := (HBJ.out.cell (p := ⟨byl, j, none⟩) hbyl).trans hc0
              have hb0 := HB2.out.below HBJ.out
              obtain ⟨b0, b1⟩ := hb0.facts
              have hk3 := HK2.out.go HBJ.out
              have hck := HCHK.out dn HDS.out dfs HDF.out us' wr dq dc p' m' c' (HD2.out.below HBJ.out) hd12 (hva.below HBJ.out) hm20 hk3.st.ok.t
              have hrk := fun W (h : Below wr.heap.size wr W) => HRCHK.out dn HDS.out dfs HDF.out us' hsu W dq dc p' m' c' ((HD2.out.below HBJ.out).below h) hd12 ((hva.below HBJ.out).below h) hm20
              generalize checkC ⟨dn, dfs⟩ us' = rr at hck hrk
              obtain ⟨ra, rb⟩ := rr
              simp only at hck hrk
              have HCK1 := Lib.hid hck
              have HRK1 := Lib.hid hrk
              have HB0 := Lib.hid hb0
              have n1 : (ra != ra) = false := by simp
              have n2 : (rb != rb) = false := by simp
              clear hck hrk hb0 hk3 hva hsu hc0
              go_wp2_with fail
              refine HCK1.out.mono ?_
              rintro e Y1 ⟨rfl, hBY⟩
              have hb1 := HB0.out.below hBY
              obtain ⟨b2, b3⟩ := hb1.facts
              have hr2 := HRK1.out Y1 hBY
              have HR2 := Lib.hid hr2
              have HBY := Lib.hid hBY
              clear b0 b1 hb1 hr2 hBY k0
              go_wp2_with fail
              refine HR2.out.mono ?_
              rintro e Y2 ⟨rfl, hBY2⟩
              have hfb := HBJ.out.trans ((HBY.out.trans (hBY2.mono HBY.out.size)).mono hszj)
              have HFB := Lib.hid hfb
              clear hfb hBY2 b2 b3
              go_wp2_with fail
              exact ⟨⟨j + 1, by omega, by go_num, HFB.out⟩, by simp [intOf]; omega⟩
            · obtain rfl : j = 4 := by omega
              have hfb := HBZ.out.trans (HBJ.out.mono HBZ.out.size)
              have HFB := Lib.hid hfb
              clear hfb
              go_wp2_with fail
              exact ⟨⟨i + 1, by omega, by go_num, HFB.out⟩, by simp [intOf]; omega⟩
      · obtain rfl : i = 2 := by omega
        have hfin := Lib.hid (K7.out.go HBR.out).st.ok.b
        go_wp2_with fail
        go_ret
        exact ⟨rfl, hfin.out⟩
end Go.Proofs.YtffoklhopmhjaaaDoor

/- The frame of a row that lists no variable. -/
set_option linter.unusedSimpArgs false
set_option linter.unusedVariables false
namespace Go.Proofs.YtffoklhopmhjaaaDoor
open Go Go.ChangeShapes Go.WideShapes Go.ChangeAt Go.RowKit

/-- 'post' of a call that leaves all blocks that were there as they were -/
theorem post_of_below {H : Type} {enc : TypeId × Value → H} {P : Program} {f : Func} {s : ChangeSpec} {apart fresh handsOn again : Bool} {W W' : World} {args : Array Value} {v : Value} {ds gs : List (DataW H)} {before pa pv : List MemPlace}
    (hW : DataW.Whole enc P f.params.toList s.vars apart W args.toList ds gs before)
    (hres : ∀ (b : Nat) (sp : Nat → Bool) (hd : Bool), DataW.TrodAll enc P W' b sp hd f.resultTypes.toList (v.resultList f.resultTypes.size) (s.fn H (ds ++ gs)).results [])
    (hargs : ∀ sp : Nat → Bool, (∀ p ∈ before, sp p.block = true) → DataW.TrodAll enc P W' 0 sp true f.params.toList args.toList (s.fn H (ds ++ gs)).args pa)
    (hvars : ∀ sp : Nat → Bool, (∀ p ∈ before, sp p.block = true) → DataW.TrodVars enc P W' sp s.vars (s.fn H (ds ++ gs)).vars pv)
    (hps : before = pa ++ pv) (hb : Below W.heap.size W W')
    (hok : ∀ (j : Nat) (t : TypeId) (r : Value), f.resultTypes[j]? = some t → (v.resultList f.resultTypes.size)[j]? = some r → Value.okWide P W' .any 0 t r) :
    s.post enc P f apart fresh handsOn again W args v W' := by
  have hold : ∀ p ∈ before, (fun b => decide (b < W.heap.size)) p.block = true := fun p hp => by simpa using hW.lt p hp
  refine ⟨ds, gs, before, [], pa, pv, hW, hres _ _ _, hargs _ hold, hvars _ hold, hb.frame _, fun _ => ?_⟩
  have hlt : ∀ p ∈ before, p.block < W.heap.size := fun p hp => by simpa using hW.lt p hp
  obtain ⟨_, _, _, _, _, hz, hn⟩ := hW
  refine ⟨hok, _, _, ([] ++ pa) ++ pv, ⟨[] ++ pa, pv, trodAll_append (hargs _ (fun _ _ => rfl)) (hres _ _ _), hvars _ (fun _ _ => rfl), rfl, ?_, ?_⟩, ?_⟩
  · intro b off hp
    have hp' : MemPlace.cell b off ∈ before := by rw [hps]; simpa using hp
    rw [hb.frozen (p := ⟨b, off, none⟩) (hlt _ hp')]
    exact hz b off hp'
  · intro ha
    have := hn ha
    rw [hps] at this
    simpa using this
  · intro p hp _
    rw [hps]
    simpa using hp

theorem own : ownKnob Tryd.prog.godebug = none := by kernel_rfl
noncomputable def plainWorld (os : Os) : World := World.holding Tryd.prog os ⟨#[], #[], []⟩
theorem laid_none (P : Program) (w : World) : laidMet P [] w := laidMet_nil _ _
end Go.Proofs.YtffoklhopmhjaaaDoor

/- The frame of a row: whatever a call leaves, its arguments read as before; and slices, opened. -/
set_option linter.unusedSimpArgs false
set_option linter.unusedVariables false
namespace Go.Proofs.YtffoklhopmhjaaaDoor
open Go Go.ChangeShapes Go.WideShapes Go.ChangeAt Go.RowKit

theorem trodAll_stays {H : Type} {enc : TypeId × Value → H} {P : Program} (hl : laidOutB P = true) {W W' : World} {sp : Nat → Bool} (hb : Below W.heap.size W W') :
    ∀ (ts : List TypeId) (vs : List Value) (ds : List (DataW H)) (ps : List MemPlace), ts.all (fun t => P.readableRec t && decide (t < P.types.size)) = true → (∀ x ∈ ps, x.block < W.heap.size) → (∀ x ∈ ps, sp x.block = true) →
      DataW.TrodAll enc P W 0 (fun _ => true) true ts vs ds ps → DataW.TrodAll enc P W' 0 sp true ts vs ds ps
  | [], [], [], _, _, _, _, h => h
  | t :: ts, v :: vs, d :: ds, ps, hr, hlt, hsp, h => by
    obtain ⟨p, q, h0, h1, rfl⟩ := h
    simp only [List.all_cons, Bool.and_eq_true, decide_eq_true_eq] at hr
    exact ⟨p, q, WideElems.Trod_stays hl hr.1.1 hr.1.2 h0 (fun x hx => hb.same (hlt x (List.mem_append_left _ hx))) (fun x hx => hsp x (List.mem_append_left _ hx)),
      trodAll_stays hl hb ts vs ds q hr.2 (fun x hx => hlt x (List.mem_append_right _ hx)) (fun x hx => hsp x (List.mem_append_right _ hx)) h1, rfl⟩
  | [], [], _ :: _, _, _, _, _, h => h.elim
  | [], _ :: _, _, _, _, _, _, h => h.elim
  | _ :: _, [], _, _, _, _, _, h => h.elim
  | _ :: _, _ :: _, [], _, _, _, _, h => h.elim

/-- 'post' of a law that answers true and leaves all blocks that were there as they were -/
theorem true_post {H : Type} {enc : TypeId × Value → H} {P : Program} {f : Func} {s : ChangeSpec} {tb : TypeId} {W W' : World} {args : Array Value} {ds gs : List (DataW H)} {before : List MemPlace}
    (hl : laidOutB P = true) (hr : f.params.toList.all (fun t => P.readableRec t && decide (t < P.types.size)) = true) (hres : f.resultTypes = #[tb]) (htb : P.underlying tb = some .bool) (hv : s.vars = [])
    (hf1 : (s.fn H (ds ++ gs)).results = [.lit (.bool true)]) (hf2 : (s.fn H (ds ++ gs)).args = ds) (hf3 : (s.fn H (ds ++ gs)).vars = [])
    (hW : DataW.Whole enc P f.params.toList s.vars false W args.toList ds gs before) (hb : Below W.heap.size W W') :
    s.post enc P f false true false false W args (.bool true) W' := by
  have hW' := hW
  obtain ⟨p, q, hA0, hV, rfl, hfz, hnd⟩ := hW
  rw [hv] at hV
  obtain ⟨rfl, rfl⟩ := trodVars_none hV
  refine post_of_below (pa := p) (pv := []) hW' (fun _ _ _ => ?_) (fun sp hsp => ?_) (fun _ _ => ?_) (by simp) hb (ok_one hres rfl (okWide_bool_mk htb _))
  · rw [hf1, hres]
    exact trodAll_cons_mk (shut_bool htb _) trodAll_mk0
  · rw [hf2]
    exact trodAll_stays hl hb _ _ _ _ hr (fun x hx => by simpa using hW'.lt x (by simpa using hx)) (fun x hx => hsp x (by simpa using hx)) hA0
  · rw [hf3, hv]
    rfl

theorem add_plain (b o j : Nat) : (⟨b, o, none⟩ : Addr).add j = ⟨b, o + j, none⟩ := by
  unfold Addr.add
  split
  · next h => rw [h]; rfl
  · rfl

/-- A slice opened: its elements are of a kind that is known by its cells. -/
theorem open_lies {α : Type} {H : Type} {enc : TypeId × Value → H} {P : Program} {W : World} {sp : Nat → Bool} {t e : TypeId} {v : Value} {d : DataW H} {ps : List MemPlace} (size : Nat) (cells : α → List Value) (good : α → Prop)
    (ht : P.underlying t = some (.slice e)) (hs : P.cellsOf e = size) (hpos : 0 < size)
    (hel : ∀ (n : Nat) (cs : List Value) (x : DataW H × List MemPlace), cs.length = size → DataW.trod enc P W 0 sp true n e cs = some x → ∃ a, cs = cells a ∧ good a)
    (hone : ∃ c, v.cells = #[c] ∧ v = c) (h : DataW.Trod enc P W 0 sp true t v d ps) (hlt : ∀ x ∈ ps, x.block < W.heap.size) :
    ∃ (p : Option Addr) (n c : Nat) (xs : List α), v = .slice p n c ∧ xs.length = n ∧ n ≤ c ∧ c ≤ maxLen ∧ Lies W v n size (xs.flatMap cells) ∧ (∀ a ∈ xs, good a) ∧ (∀ a ∈ xs, (cells a).length = size) := by
  obtain ⟨fuel, hf⟩ := h
  obtain ⟨c, hc, rfl⟩ := hone
  rw [hc] at hf
  rcases Deep.open_slice ht hf with ⟨hcs, hx⟩ | ⟨a, len, cap, m, n, D, Pl, hcs, hba, hl, hm, hmm, hx, hall⟩
  · simp at hcs
    subst hcs
    exact ⟨none, 0, 0, [], rfl, rfl, Nat.le_refl _, by unfold maxLen; omega, ⟨by simp, .inl ⟨rfl, none, 0, rfl⟩⟩, by simp, by simp⟩
  · simp at hcs
    subst hcs
    rw [hs] at hall hx
    have hlm : len ≤ m := by rw [hmm]; split <;> omega
    have hch : ∀ i, i < len → ∃ x : α, W.cells? 0 (a.add (i * size)) size = some (cells x) ∧ good x ∧ (cells x).length = size := fun i hi => by
      obtain ⟨cs', h1, h2⟩ := hall i (by omega)
      obtain ⟨_, hlen, _⟩ := World.cells?_some h1
      obtain ⟨x, rfl, hg⟩ := hel n cs' _ hlen h2
      exact ⟨x, h1, hg, hlen⟩
    rcases Nat.eq_zero_or_pos len with rfl | hlpos
    · exact ⟨some a, 0, cap, [], rfl, rfl, hl, hm, ⟨by simp, .inl ⟨rfl, some a, cap, rfl⟩⟩, by simp, by simp⟩
    have hxs : ∃ xs : List α, xs.length = len ∧ ∀ (i : Nat) (hi : i < xs.length), W.cells? 0 (a.add (i * size)) size = some (cells xs[i]) ∧ good xs[i] ∧ (cells xs[i]).length = size := by
      clear hx hall hl hlm hlpos hf hc hmm
      induction len with
      | zero => exact ⟨[], rfl, fun i hi => absurd hi (by simp)⟩
      | succ k ih =>
        obtain ⟨xs, hx1, hx2⟩ := ih (fun i hi => hch i (by omega))
        obtain ⟨x, hx⟩ := hch k (by omega)
        refine ⟨xs ++ [x], by simp [hx1], fun i hi => ?_⟩
        by_cases hik : i < xs.length
        · rw [List.getElem_append_left hik]; exact hx2 i hik
        · have : i = k := by simp at hi; omega
          subst this
          rw [List.getElem_append_right (by omega)]
          simp [hx1]
          exact hx
    obtain ⟨xs, hx1, hx2⟩ := hxs
    have hlen : ∀ x ∈ xs, (cells x).length = size := fun x hx => by
      obtain ⟨i, hi, rfl⟩ := List.mem_iff_getElem.1 hx
      exact (hx2 i hi).2.2
    have hgood : ∀ x ∈ xs, good x := fun x hx => by
      obtain ⟨i, hi, rfl⟩ := List.mem_iff_getElem.1 hx
      exact (hx2 i hi).2.1
    have hspot : a = ⟨a.block, a.off, none⟩ := by
      obtain ⟨_, hl0, h0⟩ := World.cells?_some (hx2 0 (by omega)).1
      have h00 := h0 0 hpos
      have hz : (a.add (0 * size)).add 0 = a := by unfold Addr.add; simp
      rw [hz] at h00
      have hsome : ∃ u, (cells xs[0])[0]? = some u := by
        rw [List.getElem?_eq_getElem (by rw [hl0]; exact hpos)]; exact ⟨_, rfl⟩
      obtain ⟨u, hu⟩ := hsome
      rw [hu] at h00
      have := World.cell?_spot h00
      cases a; simp_all
    have hblk : a.block < W.heap.size := by
      simp only [Prod.mk.injEq] at hx
      have hmem : (MemPlace.row a (m * size))[0]? ≠ none := by
        have hmp : 0 < m * size := Nat.mul_pos (by omega) hpos
        simp [MemPlace.row]
        omega
      obtain ⟨y, hy⟩ := Option.ne_none_iff_exists'.1 hmem
      have hyb : y.block = a.block := by
        have hmp : 0 < m * size := Nat.mul_pos (by omega) hpos
        rw [MemPlace.row] at hy
        simp [hmp] at hy
        rw [← hy]; simp [MemPlace.block, Addr.add]
      rw [← hyb]
      apply hlt
      rw [hx.2]
      exact List.mem_append_left _ (List.mem_of_getElem? hy)
    refine ⟨some a, len, cap, xs, rfl, hx1, hl, hm, ⟨?_, .inr ⟨a.block, a.off, cap, by rw [← hspot], hblk, ?_⟩⟩, hgood, hlen⟩
    · rw [List.length_flatMap, ← hx1]
      clear hx1 hx2 hgood
      induction xs with
      | nil => simp
      | cons x r ih =>
        simp only [List.map_cons, List.sum_cons, List.length_cons]
        rw [ih (fun y hy => hlen y (List.mem_cons_of_mem _ hy)), hlen x List.mem_cons_self, Nat.succ_mul, Nat.add_comm]
    · intro j u hu
      have key : ∀ (ys : List α) (o : Nat), (∀ y ∈ ys, (cells y).length = size) → (∀ (i : Nat) (hi : i < ys.length), W.cells? 0 (a.add ((o + i) * size)) size = some (cells ys[i])) → ∀ j u, (ys.flatMap cells)[j]? = some u → W.cell? (a.add (o * size + j)) = some u := by
        intro ys
        induction ys with
        | nil => intro o _ _ j u hu; simp at hu
        | cons y r ih =>
          intro o hl' hc' j u hu
          rw [List.flatMap_cons] at hu
          have hly := hl' y List.mem_cons_self
          by_cases hj : j < size
          · rw [List.getElem?_append_left (by omega)] at hu
            obtain ⟨_, _, h0⟩ := World.cells?_some (hc' 0 (by simp))
            have := h0 j hj
            rw [Deep.add_add] at this
            simp only [Nat.add_zero, List.getElem_cons_zero] at this
            rw [this, hu]
          · rw [List.getElem?_append_right (by omega), hly] at hu
            have := ih (o + 1) (fun z hz => hl' z (List.mem_cons_of_mem _ hz)) (fun i hi => by
              have := hc' (i + 1) (by simp; omega)
              rw [show o + 1 + i = o + (i + 1) from by omega]
              simpa using this) (j - size) u hu
            rw [show (o + 1) * size + (j - size) = o * size + j from by rw [Nat.succ_mul]; omega] at this
            exact this
      have := key xs 0 hlen (fun i hi => by rw [Nat.zero_add]; exact (hx2 i hi).1) j u hu
      rw [Nat.zero_mul, Nat.zero_add, hspot, add_plain] at this
      exact this
end Go.Proofs.YtffoklhopmhjaaaDoor

/- What a row's list of variables gives a walk over values: the two tables of utf8, and wire's error; a world in which they lie. -/
set_option linter.unusedSimpArgs false
set_option linter.unusedVariables false
namespace Go.Proofs.YtffoklhopmhjaaaDoor
open Go Go.ChangeShapes Go.WideShapes Go.ChangeAt Go.RowKit

theorem gNone : Tryd.prog.globalNamed "moraine/wire.errNone" = some 0 := by kernel_rfl
theorem gNoneType : (Tryd.prog.globals[0]?).map (·.type) = some 71 := by kernel_rfl
theorem starES : "*" ++ "errors.errorString" = "*errors.errorString" := by decide
theorem rowES (u : TypeId) (h : Tryd.prog.typeName? 3 u = some "*errors.errorString") : u = 142 :=
  typeName_ptr_named (nm := "errors.errorString") (by rw [starES]; kernel_rfl) (by kernel_rfl) (by decide) u (by rw [starES]; exact h)
theorem cellsES : Tryd.prog.cellsOf 165 = 1 := by kernel_rfl
theorem cellsStr : Tryd.prog.cellsOf 9 = 1 := by kernel_rfl

/-- wire's error lies as start-up laid it, wherever it stands in the list -/
theorem errLies_of {r : List (String × DataW Unit)} {W : World} (h : laidMet Tryd.prog (("moraine/wire.errNone", Rows.laid_moraine_wire_errNone) :: r) W) : ∃ ea, errLies ea W := by
  obtain ⟨a, s, hv, _⟩ := laid_sentinel (P := Tryd.prog) (r := r) h gNone gNoneType Tryd.underlying71 rowES Tryd.underlying142 Tryd.underlying165 rfl rfl Tryd.underlying9 cellsES cellsStr
  exact ⟨a, by simpa [errLies] using World.var?_cell gNone hv 0⟩
/-- the tables of utf8 lie -/
theorem tabs_of {l : List (String × DataW Unit)} {W : World} (h : laidMet Tryd.prog l W) (h1 : ("unicode/utf8.first", Rows.laid_unicode_utf8_first) ∈ l) (h2 : ("unicode/utf8.acceptRanges", Rows.laid_unicode_utf8_acceptRanges) ∈ l) : Tabs W :=
  Go.Proofs.utf8Tabs_of_readsT (U8Types.of196 Tryd.laysValid) ⟨by kernel_rfl, by kernel_rfl, by kernel_rfl, by kernel_rfl, by kernel_rfl, by kernel_rfl, by kernel_rfl⟩
    (by have := Lib.laidMet.reads h h1; unfold Rows.laid_unicode_utf8_first at this; rwa [Pinned.utf8First_eq] at this) (Lib.laidMet.reads h h2)

theorem laidOut : laidOutB Tryd.prog = true := by kernel_rfl
end Go.Proofs.YtffoklhopmhjaaaDoor

/- The arguments of the class rows, opened: raw numbers of classes. -/
set_option linter.unusedSimpArgs false
set_option linter.unusedVariables false
namespace Go.Proofs.YtffoklhopmhjaaaDoor
open Go Go.ChangeShapes Go.WideShapes Go.ChangeAt Go.RowKit Go.ChangeMaps
theorem maxLen_le {n : Nat} (h : n ≤ maxLen) : n ≤ 9223372036854775807 := by unfold maxLen at h; omega
section
variable {H : Type} {enc : TypeId × Value → H} {W : World} {base : Nat} {v : Value} {d : DataW H} {p : List MemPlace}

set_option maxRecDepth 100000 in
theorem frawOne_of_trod {n : Nat} {cs : List Value} {x : DataW H × List MemPlace} (hl : cs.length = 4) (hx : DataW.trod enc Tryd.prog W 0 (fun _ => true) true n 63 cs = some x) :
    ∃ r : FRaw, cs = r.cells ∧ r.fine := by
  obtain ⟨y0, y1, y2, y3, m, rfl, _, t0, t1, t2, t3⟩ := Joins.trod_struct4 Tryd.underlying63 hx
  match cs, hl with
  | [c0, c1, c2, c3], _ =>
    obtain ⟨k0, h0, _, b0⟩ := DataW.trod_int Tryd.underlying3 t0
    obtain ⟨k1, h1, _, b1⟩ := DataW.trod_int Tryd.underlying3 t1
    obtain ⟨k2, h2, _, b2⟩ := DataW.trod_int Tryd.underlying3 t2
    obtain ⟨k3, h3, _⟩ := DataW.trod_bool Tryd.underlying4 t3
    have q1 : Tryd.prog.cellsOf 3 = 1 := by kernel_rfl
    have q2 : Tryd.prog.cellsOf 4 = 1 := by kernel_rfl
    simp only [q1, q2, List.drop, List.take] at h0 h1 h2 h3
    simp only [List.cons.injEq, and_true] at h0 h1 h2 h3
    subst h0 h1 h2 h3
    exact ⟨⟨k0, k1, k2, k3⟩, rfl, bounds_i64 b0, bounds_i64 b1, bounds_i64 b2⟩
theorem fraw_cells (l : List FRaw) : frawCells l = l.flatMap FRaw.cells := by
  induction l with
  | nil => rfl
  | cons r l ih => show r.cells ++ frawCells l = _; rw [ih]; rfl

set_option maxRecDepth 100000 in
theorem openCRaw (hv : Value.okWide Tryd.prog W .any base 24 v) (h : DataW.Trod enc Tryd.prog W 0 (fun _ => true) true 24 v d p) (hlt : ∀ x ∈ p, x.block < W.heap.size) :
    ∃ (x : CRaw) (b : Option Addr) (c : Nat), v = crawV x b c ∧ x.fine ∧ Lies W (.slice b x.l.length c) x.l.length 4 (frawCells x.l) := by
  obtain ⟨v0, v1, y0, y1, n, rfl, _, rfl, t0, t1⟩ := Joins.open_agg2 Tryd.underlying24 (by kernel_rfl) (by kernel_rfl) hv h
  obtain ⟨k, h0, _, b0⟩ := DataW.trod_int Tryd.underlying3 t0
  simp only [List.cons.injEq, and_true] at h0
  subst h0
  have hs3 : ∃ a len cap, v1 = .slice a len cap := by
    rcases Deep.open_slice Tryd.underlying22 t1 with ⟨hcs, _⟩ | ⟨a, len, cap, _, _, _, _, hcs, _⟩
    · simp at hcs; exact ⟨_, _, _, hcs⟩
    · simp at hcs; exact ⟨_, _, _, hcs⟩
  obtain ⟨a, len, cap, rfl⟩ := hs3
  obtain ⟨b, n', c, xs, e1, e2, e3, e4, e5, e6, _⟩ := open_lies (α := FRaw) 4 FRaw.cells FRaw.fine Tryd.underlying22 (by kernel_rfl) (by decide)
    (fun n cs x hl hx => frawOne_of_trod hl hx) ⟨_, rfl, rfl⟩ (⟨n, t1⟩ : DataW.Trod enc Tryd.prog W 0 (fun _ => true) true 22 (.slice a len cap) y1.1 y1.2) (fun x hx => hlt x (by simp [hx]))
  injection e1 with f1 f2 f3
  subst f1 f2 f3
  subst e2
  rw [← fraw_cells] at e5
  exact ⟨⟨k, xs⟩, a, cap, rfl, ⟨bounds_i64 b0, maxLen_le (Nat.le_trans e3 e4), e6⟩, e5⟩
end
end Go.Proofs.YtffoklhopmhjaaaDoor

/- The arguments of the class rows, opened: numbers. -/
set_option linter.unusedSimpArgs false
set_option linter.unusedVariables false
namespace Go.Proofs.YtffoklhopmhjaaaDoor
open Go Go.ChangeShapes Go.WideShapes Go.ChangeAt Go.RowKit Go.ChangeMaps
section
variable {H : Type} {enc : TypeId × Value → H} {W : World} {base : Nat} {v : Value} {d : DataW H} {p : List MemPlace}
set_option maxRecDepth 100000 in
theorem openInts4 (hv : Value.okWide Tryd.prog W .any base 28 v) (h : DataW.Trod enc Tryd.prog W 0 (fun _ => true) true 28 v d p) (hlt : ∀ x ∈ p, x.block < W.heap.size) :
    ∃ (b : Option Addr) (n c : Nat) (xs : List Int), v = .slice b n c ∧ xs.length = n ∧ n ≤ c ∧ c ≤ maxLen ∧ Lies W (.slice b n c) n 1 (xs.map (Value.int .i64)) ∧ ∀ x ∈ xs, -9223372036854775808 ≤ x ∧ x ≤ 9223372036854775807 := by
  obtain ⟨pa, len, cap, rfl⟩ := okWide_slice Tryd.underlying28 hv
  obtain ⟨b, n, c, xs, h1, h2, h3, h4, h5, h6, _⟩ := open_lies (α := Int) 1 (fun s => [.int .i64 s]) (fun x => -9223372036854775808 ≤ x ∧ x ≤ 9223372036854775807) Tryd.underlying28 (by kernel_rfl) (by decide)
    (fun n cs x _ hx => by obtain ⟨s, rfl, _, hs⟩ := DataW.trod_int Tryd.underlying3 hx; exact ⟨s, rfl, bounds_i64 hs⟩) ⟨_, rfl, rfl⟩ h hlt
  refine ⟨b, n, c, xs, h1, h2, h3, h4, ?_, h6⟩
  rw [← h1, List.map_eq_flatMap]; exact h5
end
end Go.Proofs.YtffoklhopmhjaaaDoor

/- The arguments of the class rows, opened: classes, values. -/
set_option linter.unusedSimpArgs false
set_option linter.unusedVariables false
namespace Go.Proofs.YtffoklhopmhjaaaDoor
open Go Go.ChangeShapes Go.WideShapes Go.ChangeAt Go.RowKit Go.ChangeMaps
section
variable {H : Type} {enc : TypeId × Value → H} {W : World} {base : Nat} {v : Value} {d : DataW H} {p : List MemPlace}

set_option maxRecDepth 100000 in
theorem fldOne_of_trod {n : Nat} {cs : List Value} {x : DataW H × List MemPlace} (hl : cs.length = 4) (hx : DataW.trod enc Tryd.prog W 0 (fun _ => true) true n 53 cs = some x) :
    ∃ f : Fl, cs = f.cells ∧ f.fine := by
  obtain ⟨y0, y1, y2, m, rfl, _, t0, t1, t2⟩ := Deep.trod_struct3 Tryd.underlying53 hx
  have q1 : Tryd.prog.cellsOf 3 = 1 := by kernel_rfl
  have q2 : Tryd.prog.cellsOf 4 = 1 := by kernel_rfl
  have q3 : Tryd.prog.cellsOf 9 = 1 := by kernel_rfl
  have q4 : Tryd.prog.cellsOf 51 = 2 := by kernel_rfl
  match cs, hl with
  | [c0, c1, c2, c3], _ =>
    simp only [q1, q2, q3, q4, List.drop, List.take] at t0 t1 t2
    obtain ⟨z0, z1, m', rfl, _, u0, u1⟩ := trod_struct2 Tryd.underlying51 t1
    simp only [q1, q2, q3, q4, List.drop, List.take] at u0 u1
    obtain ⟨s, h0, _, b0⟩ := DataW.trod_string Tryd.underlying9 t0
    obtain ⟨k1, h1, _, b1⟩ := DataW.trod_int Tryd.underlying3 u0
    obtain ⟨k2, h2, _, b2⟩ := DataW.trod_int Tryd.underlying3 u1
    obtain ⟨k3, h3, _⟩ := DataW.trod_bool Tryd.underlying4 t2
    simp only [List.cons.injEq, and_true] at h0 h1 h2 h3
    subst h0 h1 h2 h3
    exact ⟨⟨s, k1, k2, k3⟩, rfl, maxLen_le b0, bounds_i64 b1, bounds_i64 b2⟩
theorem fl_cells (l : List Fl) : flCells l = l.flatMap Fl.cells := by
  induction l with
  | nil => rfl
  | cons r l ih => show r.cells ++ flCells l = _; rw [ih]; rfl

set_option maxRecDepth 100000 in
theorem openCls (hv : Value.okWide Tryd.prog W .any base 27 v) (h : DataW.Trod enc Tryd.prog W 0 (fun _ => true) true 27 v d p) (hlt : ∀ x ∈ p, x.block < W.heap.size) :
    ∃ (nm : ByteArray) (fs : List Fl) (b : Option Addr) (c : Nat), v = clV nm b fs.length c ∧ nm.size ≤ 9223372036854775807 ∧ (∀ f ∈ fs, f.fine) ∧ fs.length ≤ c ∧ c ≤ 9223372036854775807 ∧ FLies W b fs.length c fs := by
  obtain ⟨v0, v1, y0, y1, n, rfl, _, rfl, t0, t1⟩ := Joins.open_agg2 Tryd.underlying27 (by kernel_rfl) (by kernel_rfl) hv h
  obtain ⟨s, h0, _, b0⟩ := DataW.trod_string Tryd.underlying9 t0
  simp only [List.cons.injEq, and_true] at h0
  subst h0
  have hs3 : ∃ a len cap, v1 = .slice a len cap := by
    rcases Deep.open_slice Tryd.underlying25 t1 with ⟨hcs, _⟩ | ⟨a, len, cap, _, _, _, _, hcs, _⟩
    · simp at hcs; exact ⟨_, _, _, hcs⟩
    · simp at hcs; exact ⟨_, _, _, hcs⟩
  obtain ⟨a, len, cap, rfl⟩ := hs3
  obtain ⟨b, n', c, xs, e1, e2, e3, e4, e5, e6, _⟩ := open_lies (α := Fl) 4 Fl.cells Fl.fine Tryd.underlying25 (by kernel_rfl) (by decide)
    (fun n cs x hl hx => fldOne_of_trod hl hx) ⟨_, rfl, rfl⟩ (⟨n, t1⟩ : DataW.Trod enc Tryd.prog W 0 (fun _ => true) true 25 (.slice a len cap) y1.1 y1.2) (fun x hx => hlt x (by simp [hx]))
  injection e1 with f1 f2 f3
  subst f1 f2 f3
  subst e2
  rw [← fl_cells] at e5
  exact ⟨s, xs, a, cap, rfl, maxLen_le b0, e6, e3, maxLen_le e4, rfl, e5⟩

set_option maxRecDepth 100000 in
theorem openVal (hv : Value.okWide Tryd.prog W .any base 31 v) (h : DataW.Trod enc Tryd.prog W 0 (fun _ => true) true 31 v d p) :
    ∃ (k n : Int) (s : ByteArray) (a : Option Addr) (m c : Nat), v = valV k n s (.slice a m c) ∧ (-9223372036854775808 ≤ k ∧ k ≤ 9223372036854775807) ∧ (-9223372036854775808 ≤ n ∧ n ≤ 9223372036854775807) ∧ s.size ≤ 9223372036854775807 := by
  obtain ⟨v0, v1, v2, v3, y0, y1, y2, y3, n, rfl, _, rfl, t0, t1, t2, t3⟩ := Joins.open_agg4 Tryd.underlying31 (by kernel_rfl) (by kernel_rfl) hv h
  obtain ⟨k, h0, _, b0⟩ := DataW.trod_int Tryd.underlying3 t0
  obtain ⟨m, h1, _, b1⟩ := DataW.trod_int Tryd.underlying3 t1
  obtain ⟨s, h2, _, b2⟩ := DataW.trod_string Tryd.underlying9 t2
  simp only [List.cons.injEq, and_true] at h0 h1 h2
  subst h0 h1 h2
  have hs3 : ∃ a len cap, v3 = .slice a len cap := by
    rcases Deep.open_slice Tryd.underlying29 t3 with ⟨hcs, _⟩ | ⟨a, len, cap, _, _, _, _, hcs, _⟩
    · simp at hcs; exact ⟨_, _, _, hcs⟩
    · simp at hcs; exact ⟨_, _, _, hcs⟩
  obtain ⟨a, len, cap, rfl⟩ := hs3
  exact ⟨k, m, s, a, len, cap, rfl, bounds_i64 b0, bounds_i64 b1, maxLen_le b2⟩
end
end Go.Proofs.YtffoklhopmhjaaaDoor

/- For every input ClassChecks returns true and leaves its arguments as they were; the condition: before the call the listed variables read as start-up lays them, which is tied to the program's text. -/
set_option linter.unusedSimpArgs false
set_option linter.unusedVariables false
namespace Go.Proofs.YtffoklhopmhjaaaDoor.classChecks
open Go Go.ChangeShapes Go.WideShapes Go.ChangeAt Go.RowKit Go.ChangeMaps

set_option maxRecDepth 100000 in
theorem contract (H : Type) (enc : TypeId × Value → H) (W : World) (base : Nat) (args : Array Value) (ds gs : List (DataW H)) (before : List MemPlace)
    (hval : ∀ (j : Nat) t v, Tryd.f3.params[j]? = some t → args[j]? = some v → Value.okWide Tryd.prog W .any base t v)
    (hW : DataW.Whole enc Tryd.prog Tryd.f3.params.toList Rows.classChecksSpec.vars false W args.toList ds gs before) (hL : laidMetH Tryd.prog Rows.classChecksRow.laid W) :
    Calls Tryd.prog 3 args W fun e W' => ∃ v, e = .returned v ∧ Rows.classChecksSpec.post enc Tryd.prog Tryd.f3 false true false false W args v W' := by
  have hW' := hW
  obtain ⟨p, q, hA0, hV, rfl, hfz, hnd⟩ := hW
  have hA : DataW.TrodAll enc Tryd.prog W 0 (fun _ => true) true Tryd.f3.params.toList args.toList ds p := hA0
  rw [Tryd.params3] at hA hval
  obtain ⟨v0, vs0, d0, ds0, p0, q0, hargs, rfl, rfl, h0, r0⟩ := trodAll_cons hA
  obtain ⟨v1, vs1, d1, ds1, p1, q1, rfl, rfl, rfl, h1, r1⟩ := trodAll_cons r0
  obtain ⟨v2, vs2, d2, ds2, p2, q2, rfl, rfl, rfl, h2, r2⟩ := trodAll_cons r1
  obtain ⟨v3, vs3, d3, ds3, p3, q3, rfl, rfl, rfl, h3, r3⟩ := trodAll_cons r2
  obtain ⟨v4, vs4, d4, ds4, p4, q4, rfl, rfl, rfl, h4, r4⟩ := trodAll_cons r3
  obtain ⟨rfl, rfl, rfl⟩ := trodAll_nil r4
  obtain rfl : args = #[v0, v1, v2, v3, v4] := by cases args; simp_all
  obtain ⟨rfl, rfl⟩ := trodVars_none hV
  have hlt : ∀ x ∈ p0 ++ p1 ++ p2 ++ p3 ++ p4, x.block < W.heap.size := fun x hx => by simpa using hW'.lt x (by simpa using hx)
  clear hA0
  rw [MakeChecks.laidMetH_plain _ _ _ (by kernel_rfl)] at hL
  obtain ⟨ea, hE⟩ := errLies_of (hL.tail)
  have hT := tabs_of hL (by simp [Rows.classChecksRow]) (by simp [Rows.classChecksRow])
  obtain ⟨x0, b0, c0, rfl, hx0, hl0⟩ := openCRaw (hval 0 24 v0 rfl rfl) h0 (fun x hx => hlt x (by simp [hx]))
  obtain ⟨n1, f1, b1, c1, rfl, hs1, hf1, hc1, hd1, hl1⟩ := openCls (hval 1 27 v1 rfl rfl) h1 (fun x hx => hlt x (by simp [hx]))
  obtain ⟨b2, n2, c2, l2, rfl, rfl, hc2, hd2, hl2, hr2⟩ := openInts4 (hval 2 28 v2 rfl rfl) h2 (fun x hx => hlt x (by simp [hx]))
  obtain ⟨a3, rfl, rfl, rfl, w3⟩ := open_int Tryd.underlying3 (hval 3 3 v3 rfl rfl) h3
  obtain ⟨k4, n4, s4, b4, m4, c4, rfl, hk4, hn4, hs4⟩ := openVal (hval 4 31 v4 rfl rfl) h4
  refine (classChecks_walk x0 hx0 b0 c0 n1 hs1 f1 hf1 b1 c1 hc1 hd1 l2 b2 c2 (maxLen_le (Nat.le_trans hc2 hd2)) a3 (bounds_i64 w3).1 (bounds_i64 w3).2 k4 n4 s4 hk4 hn4 hs4 b4 m4 c4 ea W hT hE hl0 hl1 ⟨hl2, hr2⟩).mono fun e W' ⟨he, hb⟩ => ?_
  subst he
  exact ⟨_, rfl, true_post laidOut (by kernel_rfl) (by kernel_rfl) Tryd.underlying4 rfl rfl rfl rfl hW' hb⟩

noncomputable abbrev wit (os : Os) : World := World.laidAll Tryd.prog os Rows.classChecksRow.laid
theorem reads (os : Os) {H : Type} (enc : TypeId × Value → H) : ∃ places, DataW.whole enc Tryd.prog ((wit os).forCall (fun _ _ => 0) ⟨#[], #[Value.agg #[.int .i64 0, .slice none 0 0], .agg #[.string ⟨#[]⟩, .slice none 0 0], .slice none 0 0, .int .i64 0, .agg #[.int .i64 0, .int .i64 0, .string ⟨#[]⟩, .slice none 0 0]], []⟩).memory Tryd.f3.params.toList Rows.classChecksSpec.vars false #[Value.agg #[.int .i64 0, .slice none 0 0], .agg #[.string ⟨#[]⟩, .slice none 0 0], .slice none 0 0, .int .i64 0, .agg #[.int .i64 0, .int .i64 0, .string ⟨#[]⟩, .slice none 0 0]].toList 8 = some ([.agg [.lit (.int .i64 0), .nil], .agg [.lit (.string []), .nil], .nil, .lit (.int .i64 0), .agg [.lit (.int .i64 0), .lit (.int .i64 0), .lit (.string []), .nil]], [], places) :=
  ⟨[], by kernel_rfl⟩

set_option maxRecDepth 100000 in
theorem lifted (os : Os) (started : os.Started) (H : Type) (enc : TypeId × Value → H) (F : Stop.Interp) :
    ReturnsInHanded {} Tryd.checked os 3 .any ((OpenSpec.ofChange Rows.classChecksSpec).preRow enc Tryd.prog Tryd.f3 Rows.classChecksRow.domain false Rows.classChecksRow.laid) (((OpenSpec.ofChange Rows.classChecksSpec).at F).post enc Tryd.prog Tryd.f3 false true false false) := by
  obtain ⟨places, hx⟩ := reads os enc
  refine returnsInHanded_of_row (C := Tryd.checked) (s := OpenSpec.ofChange Rows.classChecksSpec) own started (by kernel_rfl) Tryd.func3
    (witness_row_atRef (enc := enc) (C := Tryd.checked) false (wit os) #[Value.agg #[.int .i64 0, .slice none 0 0], .agg #[.string ⟨#[]⟩, .slice none 0 0], .slice none 0 0, .int .i64 0, .agg #[.int .i64 0, .int .i64 0, .string ⟨#[]⟩, .slice none 0 0]] (World.laidAll_os _ _ _) (by kernel_rfl) (by kernel_rfl) (by kernel_rfl)
      (OpenSpec.preRow_of_cond 8 hx (by kernel_rfl) (fun k hk => by cases hk) (by kernel_rfl) (laidMet_laidAll _ (by kernel_rfl) (by kernel_rfl)))) ?_
  intro W base args ds gs before hval hW _ _ _ hL _ _
  exact contract H enc W base args ds gs before hval hW hL

theorem said : Rows.ClassChecksSaid :=
  OpenClaim.holds_of_cond 3 Tryd.f3 rfl rfl rfl rfl rfl rfl rfl ⟨rfl, rfl, rfl, rfl, rfl⟩ rfl rfl rfl rfl rfl (by kernel_rfl) Tryd.func3 (by kernel_rfl)
    (of_decide_eq_true (by kernel_rfl)) (by unfold Func.isWrapper; first | (rw [if_pos (by decide +kernel)]; kernel_rfl) | (rw [if_neg (by decide +kernel)]; exact ⟨rfl, rfl⟩))
    (fun os started H enc _ F => by rw [OpenClaim.pre_eq_preRow]; exact lifted os started H enc F)

theorem plain (f : FuncId) (fn : Func) (hf : Tryd.pinned.checked.prog.funcNamed "moraine/morainelaw04.ClassChecks" = some f) (hfn : Tryd.pinned.checked.prog.funcs[f]? = some fn) :
    true = Tryd.pinned.checked.prog.looks [] ∧ ∀ (j : Nat) t, fn.params[j]? = some t → Tryd.pinned.checked.prog.wantsStandIn t = false := by
  obtain rfl : f = 3 := Option.some.inj ((show Tryd.prog.funcNamed "moraine/morainelaw04.ClassChecks" = some 3 by kernel_rfl).symm.trans hf) |>.symm
  obtain rfl : fn = Tryd.f3 := (Option.some.inj (Tryd.func3.symm.trans hfn)).symm
  refine ⟨by kernel_rfl, fun j t ht => ?_⟩
  have h := Array.mem_of_getElem? ht
  rw [Tryd.params3] at h
  show Tryd.prog.wantsStandIn t = false
  have hall : (#[24, 27, 28, 3, 31] : Array TypeId).all (fun t => Tryd.prog.wantsStandIn t == false) = true := by kernel_rfl
  rw [Array.all_eq_true'] at hall
  exact by simpa using hall t h

/-- the card -/
theorem card : Rows.ClassChecksCardSaid :=
  Claim7.holds_tied_plain_at .later [] _ _ _ _ said (fun _ h => by cases h) (by kernel_rfl) (fun _ h => by cases h) classChecks_row_tie rfl ⟨rfl, rfl⟩ (by kernel_rfl) rfl plain (by kernel_rfl)
end Go.Proofs.YtffoklhopmhjaaaDoor.classChecks
