/- The walk of ValTells. -/
import Derived.Deep.RegionHeld3
import Derived.Deep.CutBlock
import Derived.Deep.CutRange
import Derived.Test.YtmijlcilnaeppaaGreatDoorValOrderLawZ
import Derived.Test.YtmijlcilnaeppaaGreatDoorOddSZ
import Derived.Test.YtmijlcilnaeppaaGreatDoorBun17
import Derived.Test.YtmijlcilnaeppaaGreatDoorRefNbsZ
import Derived.Test.YtmijlcilnaeppaaGreatDoorBun18
import Derived.Test.YtmijlcilnaeppaaGreatDoorFitRawZ
set_option linter.unusedSimpArgs false
set_option linter.unusedVariables false
namespace Go.Proofs.YtmijlcilnaeppaaGreatDoor
open Go Go.RowKit Go.Shelf

/-- what lies all along: the type, the first two values -/
structure TSt (ea : Addr) (w : World) (k o : Int) (ba : Nat) (a : V) (A : It) (bb : Nat) (b : V) (B : It) (W : World) : Prop where
  ok : Ok ea w W
  pw : Pow W
  ty : TBox W (w.heap.size + 1 + 1) k o
  va : V2Box W ba a A
  vb : V2Box W bb b B
theorem TSt.below {ea : Addr} {w : World} {k o : Int} {ba : Nat} {a : V} {A : It} {bb : Nat} {b : V} {B : It} {W W' : World} (h : TSt ea w k o ba a A bb b B W) (hb : Below W.heap.size W W') : TSt ea w k o ba a A bb b B W' :=
  ⟨h.ok.below hb, h.pw.below hb, h.ty.below hb, h.va.below hb, h.vb.below hb⟩
/-- and the row of three values -/
structure RSt (ea : Addr) (w : World) (k o : Int) (ba : Nat) (a : V) (A : It) (bb : Nat) (b : V) (B : It) (g : Nat) (u : V) (C : It) (W : World) : Prop where
  t : TSt ea w k o ba a A bb b B W
  u : VAt 2 W u C
  row : Lies W (.slice (some ⟨g, 0, none⟩) 3 3) 3 4 (itsCells [A, B, C])
theorem RSt.below {ea : Addr} {w : World} {k o : Int} {ba : Nat} {a : V} {A : It} {bb : Nat} {b : V} {B : It} {g : Nat} {u : V} {C : It} {W W' : World} (h : RSt ea w k o ba a A bb b B g u C W) (hb : Below W.heap.size W W') : RSt ea w k o ba a A bb b B g u C W' :=
  ⟨h.t.below hb, h.u.below hb, h.row.below hb⟩
/-- one of the three -/
theorem RSt.at {ea : Addr} {w : World} {k o : Int} {ba : Nat} {a : V} {A : It} {bb : Nat} {b : V} {B : It} {g : Nat} {u : V} {C : It} {W : World} (h : RSt ea w k o ba a A bb b B g u C W) (ha : a.short) (hb : b.short) (hu : u.short) (i : Nat) (hi : i < 3) :
    ∃ (v : V) (X : It), VAt 2 W v X ∧ v.short ∧ g < W.heap.size ∧ W.cell? ⟨g, i * 4, none⟩ = some (.int .i64 X.k) ∧ W.cell? ⟨g, i * 4 + 1, none⟩ = some (.int .i64 X.n) ∧ W.cell? ⟨g, i * 4 + 2, none⟩ = some (.string X.s) ∧ W.cell? ⟨g, i * 4 + 3, none⟩ = some (.slice X.p X.m X.c) := by
  obtain ⟨b', off, hv, hb', hc⟩ := h.row.at (by decide)
  injection Option.some.inj hv with e1 e2 _
  subst e1 e2
  have hcell : ∀ (X : It), [A, B, C][i]? = some X → W.cell? ⟨g, i * 4, none⟩ = some (.int .i64 X.k) ∧ W.cell? ⟨g, i * 4 + 1, none⟩ = some (.int .i64 X.n) ∧ W.cell? ⟨g, i * 4 + 2, none⟩ = some (.string X.s) ∧ W.cell? ⟨g, i * 4 + 3, none⟩ = some (.slice X.p X.m X.c) := fun X hX => by
    obtain ⟨hlt, rfl⟩ := List.getElem?_eq_some_iff.1 hX
    have h4 := cell_four (W := W) (b := g) (off := 0) (k := i) (x := [A, B, C][i]) (fun j v hj => by rw [Nat.add_assoc]; exact hc _ _ (itsCells_at [A, B, C] i hlt j v hj))
    simp only [Nat.zero_add] at h4
    exact h4
  match i, hi with
  | 0, _ => exact ⟨a, A, h.t.va.at', ha, hb', hcell A rfl⟩
  | 1, _ => exact ⟨b, B, h.t.vb.at', hb, hb', hcell B rfl⟩
  | 2, _ => exact ⟨u, C, h.u, hu, hb', hcell C rfl⟩
/-- and one of them in a box -/
structure LSt (ea : Addr) (w : World) (k o : Int) (ba : Nat) (a : V) (A : It) (bb : Nat) (b : V) (B : It) (g : Nat) (u : V) (C : It) (bq : Nat) (v : V) (X : It) (W : World) : Prop where
  r : RSt ea w k o ba a A bb b B g u C W
  v : V2Box W bq v X
theorem LSt.below {ea : Addr} {w : World} {k o : Int} {ba : Nat} {a : V} {A : It} {bb : Nat} {b : V} {B : It} {g : Nat} {u : V} {C : It} {bq : Nat} {v : V} {X : It} {W W' : World} (h : LSt ea w k o ba a A bb b B g u C bq v X W) (hb : Below W.heap.size W W') : LSt ea w k o ba a A bb b B g u C bq v X W' :=
  ⟨h.r.below hb, h.v.below hb⟩
theorem ok_short {v : V} (h : v.ok = true) : v.short := by
  by_cases h5 : v.k = 5
  · obtain ⟨e, hl, hu⟩ := ok_list h h5
    refine ⟨?_, fun u hh => ?_⟩
    · rw [e]; show (⟨#[]⟩ : ByteArray).size ≤ 100; decide
    · have := (flatOk_parts (okIn_parts (hu u hh)).2).2.1; omega
  · have := flatOk_parts (ok_flat h h5)
    refine ⟨by omega, fun u hh => ?_⟩
    have e : v.l = [] := List.eq_nil_of_length_eq_zero this.2.2.1
    rw [e] at hh; cases hh
theorem vtext_both {d : Nat} (v : V) (x : It) (w : World) (hx : VAt d w v x) (hP : Pow w) (hT : Tabs w) :
    Calls Tryz.prog 9 #[x.v] w fun e w' => e = .returned (.tuple #[.string ⟨(if v.ok then v.text else []).toArray⟩, .int .i64 (if v.ok then 0 else 30)]) ∧ Below w.heap.size w w' := by
  cases h : v.ok with
  | true => exact vtext_any v h x w hx hP hT
  | false => exact vtext_bad v h x w hx hT
theorem numsOf_len (kind : Int) (v : V) : (numsOf kind v).length ≤ 1000 := by
  unfold numsOf
  split
  · rename_i h
    have h1 := len_of_ok h
    unfold pickK
    rw [List.length_map]
    have := List.length_filter_le (fun u : V => u.k == kind) (v :: v.l)
    rw [List.length_cons] at this
    omega
  · simp
/-- the two types' least values are the same -/
theorem zero_same (k o : Int) (hk : -9223372036854775808 ≤ k ∧ k ≤ 9223372036854775807) (w : World) :
    Calls Tryz.prog 21 #[valV (zeroK k o) 0 ⟨#[]⟩ (.slice none 0 0), valV (zeroK k o) 0 ⟨#[]⟩ (.slice none 0 0)] w fun e w' => e = .returned (.bool true) ∧ Below w.heap.size w w' := by
  have hb : -9223372036854775808 ≤ zeroK k o ∧ zeroK k o ≤ 9223372036854775807 := by unfold zeroK; split <;> omega
  have h := (flat_bare (k := zeroK k o) (n := 0) hb ⟨by decide, by decide⟩).at 0 w
  have := refSame_any 0 _ _ _ _ w h h
  rw [cmpV_self] at this
  exact this

/-- a type's two cells, three in a row -/
def typCells : List (Int × Int) → List Value
  | [] => []
  | t :: ts => .int .i64 t.1 :: .int .i64 t.2 :: typCells ts

set_option maxHeartbeats 8000000 in
set_option maxRecDepth 100000 in
theorem valTells_walk (x : Raw) (hx : x.fine) (p : Option Addr) (c : Nat) (y : Raw) (hy : y.fine) (p' : Option Addr) (c' : Nat)
    (which : Int) (hw1 : -9223372036854775808 ≤ which) (hw2 : which ≤ 9223372036854775807) (N : Int) (hn1 : -9223372036854775808 ≤ N) (hn2 : N ≤ 9223372036854775807) (s : ByteArray) (hs : s.size ≤ maxLen)
    (k o : Int) (hk1 : -9223372036854775808 ≤ k) (hk2 : k ≤ 9223372036854775807) (ho1 : -9223372036854775808 ≤ o) (ho2 : o ≤ 9223372036854775807)
    (a0 : Int) (ha1 : -9223372036854775808 ≤ a0) (ha2 : a0 ≤ 9223372036854775807) (b0 : Int) (hb1 : -9223372036854775808 ≤ b0) (hb2 : b0 ≤ 9223372036854775807) (ea : Addr) (w : World) (hT : Tabs w) (hE : errLies ea w) (hPw : Pow w)
    (hL : Lies w (.slice p x.l.length c) x.l.length 3 (rawsCells x.l)) (hL' : Lies w (.slice p' y.l.length c') y.l.length 3 (rawsCells y.l)) :
    Calls Tryz.prog 3 #[rawV x p c, rawV y p' c', .int .i64 which, .int .i64 N, .string s, .agg #[.int .i64 k, .int .i64 o], .int .i64 a0, .int .i64 b0] w fun e w' => e = .returned (.bool true) ∧ Below w.heap.size w w' := by
  have b1 : Below w.heap.size w (w.alloc (.cells (rawA x p c) 24)) := (Below.refl _ _).alloc (Nat.le_refl _) _
  have b2 : Below w.heap.size w ((w.alloc (.cells (rawA x p c) 24)).alloc (.cells (rawA y p' c') 24)) := b1.alloc b1.size _
  have b3 := b2.alloc b2.size (.cells #[.int .i64 k, .int .i64 o] 26)
  have O0 := ((Ok.alloc (Ok.alloc (ea := ea) (w := w) ⟨hT, hE, Below.refl _ _⟩ (.cells (rawA x p c) 24)) (.cells (rawA y p' c') 24))).alloc (.cells #[.int .i64 k, .int .i64 o] 26)
  have P0 := hPw.below b3
  have R0 := ((RawBox.new w hx hL).alloc (.cells (rawA y p' c') 24)).alloc (.cells #[.int .i64 k, .int .i64 o] 26)
  have Q0 := (RawBox.new (w.alloc (.cells (rawA x p c) 24)) hy (hL'.below b1)).alloc (.cells #[.int .i64 k, .int .i64 o] 26)
  have T0 := TBox.new ((w.alloc (.cells (rawA x p c) 24)).alloc (.cells (rawA y p' c') 24)) k o
  rw [World.size_alloc] at Q0
  rw [World.size_alloc, World.size_alloc] at T0
  have hofa := fun W => valOf_any x hx p c W
  have hofb := fun W => valOf_any y hy p' c' W
  have hla := len_of_ok (valOf_ok x)
  have hsa := ok_short (valOf_ok x)
  have hsb := ok_short (valOf_ok y)
  unfold valOfPost at hofa hofb
  generalize valOf x = a at hofa hla hsa
  generalize valOf y = b at hofb hsb
  obtain ⟨m, hm1, hm2, hm3, hm4⟩ := min_cut70 s
  have hodd : ∀ (W : World) (v : It), VAt 1 W a v → Calls Tryz.prog 6 #[v.v, .int .i64 which, .int .i64 N, .string (s.extract 0 m)] W (oddPostS v.p W) := fun W v h => oddS_any a v which N hw1 hw2 hn1 hn2 (s.extract 0 m) (by rw [ByteArray.size_extract]; omega) W h hla hsa (by rw [ByteArray.size_extract]; omega)
  have hvt := fun W => valType_any a0 b0 ha1 ha2 hb1 hb2 W
  have htk : -9223372036854775808 ≤ tyK a0 ∧ tyK a0 ≤ 9223372036854775807 := by have := typeK_bd a0; unfold tyK; split <;> omega
  have hto : -9223372036854775808 ≤ typeO a0 b0 ∧ typeO a0 b0 ≤ 9223372036854775807 := by unfold typeO; have := pickI_bd b0 4 (by decide); split <;> omega
  generalize tyK a0 = tk at hvt htk
  generalize typeO a0 b0 = tq at hvt hto
  have HOFA := Lib.hid hofa
  have HOFB := Lib.hid hofb
  have HODD := Lib.hid hodd
  have HVT := Lib.hid hvt
  have HSA := Lib.hid hsa
  have HSB := Lib.hid hsb
  clear hofa hofb hodd hvt hsa hsb hT hE hPw hL hL' b1 b2 b3 hla hx hy hs
  have h01 : w.heap.size ≠ w.heap.size + 1 := by omega
  have h02 : w.heap.size ≠ w.heap.size + 1 + 1 := by omega
  go_enter Tryz.func3, Tryz.ntmps3
  go_wp2_with fail
  refine (awake_any ea _ O0.t O0.e).mono ?_
  rintro e W1 ⟨rfl, hB⟩
  have O1 := O0.below hB
  have P1 := P0.below hB
  have R1 := R0.below hB
  have Q1 := Lib.hid (Q0.below hB)
  have T1 := Lib.hid (T0.below hB)
  clear hB O0 P0 R0 Q0 T0
  obtain ⟨r0, r1, r2, r3⟩ := R1.facts
  have R1 := Lib.hid R1
  go_wp2_with fail
  refine (HOFA.out _ R1.out.lies).mono ?_
  rintro e W2 ⟨⟨ak, an, az, ap, am, ac⟩, rfl, hv, hB, _⟩
  have A2 := Lib.hid (V2Box.new hv.up)
  have a2 := Lib.hid (hv.below ((Below.refl _ _).alloc (Nat.le_refl _) (.cells #[.int .i64 ak, .int .i64 an, .string az, .slice ap am ac] 30)))
  have O2 := Lib.hid ((O1.below hB).alloc (.cells #[.int .i64 ak, .int .i64 an, .string az, .slice ap am ac] 30))
  have P2 := Lib.hid ((P1.below hB).below ((Below.refl _ _).alloc (Nat.le_refl _) (.cells #[.int .i64 ak, .int .i64 an, .string az, .slice ap am ac] 30)))
  have T2 := Lib.hid ((T1.out.below hB).alloc (.cells #[.int .i64 ak, .int .i64 an, .string az, .slice ap am ac] 30))
  have q2 := (Q1.out.below hB).alloc (.cells #[.int .i64 ak, .int .i64 an, .string az, .slice ap am ac] 30)
  clear hB O1 P1 R1 r0 r1 r2 r3 hv Q1 T1
  obtain ⟨r0, r1, r2, r3⟩ := q2.facts
  have Q2 := Lib.hid q2
  clear q2
  go_wp2_with fail
  generalize W2.alloc (.cells #[.int .i64 ak, .int .i64 an, .string az, .slice ap am ac] 30) = U2 at A2 a2 O2 P2 Q2 T2 r0 r1 r2 r3 ⊢
  generalize W2.heap.size = ba at A2 ⊢
  refine (HOFB.out _ Q2.out.lies).mono ?_
  rintro e W3 ⟨⟨bk, bn, bz, bp, bm, bc⟩, rfl, hv, hB, _⟩
  have hal : Below W3.heap.size W3 (W3.alloc (.cells #[.int .i64 bk, .int .i64 bn, .string bz, .slice bp bm bc] 30)) := (Below.refl _ _).alloc (Nat.le_refl _) _
  have S3 := Lib.hid (show TSt ea w k o ba a ⟨ak, an, az, ap, am, ac⟩ W3.heap.size b ⟨bk, bn, bz, bp, bm, bc⟩ (W3.alloc (.cells #[.int .i64 bk, .int .i64 bn, .string bz, .slice bp bm bc] 30)) from ⟨(O2.out.below hB).below hal, (P2.out.below hB).below hal, (T2.out.below hB).below hal, (A2.out.below hB).below hal, V2Box.new hv.up⟩)
  have a3 := Lib.hid ((a2.out.below hB).below hal)
  clear hB O2 P2 A2 a2 T2 r0 r1 r2 r3 hv Q2 hal
  go_wp2_with fail
  generalize W3.alloc (.cells #[.int .i64 bk, .int .i64 bn, .string bz, .slice bp bm bc] 30) = U3 at S3 a3 ⊢
  generalize W3.heap.size = bb at S3 ⊢
  go_cut [48, 49, 50] from 37 to 47 (fun v48 v49 v50 wx => ∃ (g : Nat) (u : V) (C : It), v48 = .slice (some ⟨g, 0, none⟩) 3 3 ∧ v49 = .int .i64 3 ∧ v50 = .int .i64 0 ∧ u.short ∧ RSt ea w k o ba a ⟨ak, an, az, ap, am, ac⟩ bb b ⟨bk, bn, bz, bp, bm, bc⟩ g u C wx)
  case first =>
    have hsw : ∀ W W' : World, (W.cell? ⟨ba, 0, none⟩ = some (.int .i64 ak) ∧ W.cell? ⟨ba, 1, none⟩ = some (.int .i64 an) ∧ W.cell? ⟨ba, 2, none⟩ = some (.string az) ∧ W.cell? ⟨ba, 3, none⟩ = some (.slice ap am ac) ∧ W.cell? ⟨bb, 0, none⟩ = some (.int .i64 bk) ∧ W.cell? ⟨bb, 1, none⟩ = some (.int .i64 bn) ∧ W.cell? ⟨bb, 2, none⟩ = some (.string bz) ∧ W.cell? ⟨bb, 3, none⟩ = some (.slice bp bm bc) ∧ (ba < W.heap.size ∧ bb < W.heap.size)) → Below W.heap.size W W' → (W'.cell? ⟨ba, 0, none⟩ = some (.int .i64 ak) ∧ W'.cell? ⟨ba, 1, none⟩ = some (.int .i64 an) ∧ W'.cell? ⟨ba, 2, none⟩ = some (.string az) ∧ W'.cell? ⟨ba, 3, none⟩ = some (.slice ap am ac) ∧ W'.cell? ⟨bb, 0, none⟩ = some (.int .i64 bk) ∧ W'.cell? ⟨bb, 1, none⟩ = some (.int .i64 bn) ∧ W'.cell? ⟨bb, 2, none⟩ = some (.string bz) ∧ W'.cell? ⟨bb, 3, none⟩ = some (.slice bp bm bc) ∧ (ba < W'.heap.size ∧ bb < W'.heap.size)) := by
      rintro W W' ⟨a0, a1, a2, a3, b0, b1, b2, b3, z0, z1⟩ hB
      have g : ∀ (q : Addr) (v : Value), q.block < W.heap.size → W.cell? q = some v → W'.cell? q = some v := fun q v hq hv => (hB.cell hq).trans hv
      have hs := hB.size
      exact ⟨g _ _ z0 a0, g _ _ z0 a1, g _ _ z0 a2, g _ _ z0 a3, g _ _ z1 b0, g _ _ z1 b1, g _ _ z1 b2, g _ _ z1 b3, by omega, by omega⟩
    have hS0 : (U3.cell? ⟨ba, 0, none⟩ = some (.int .i64 ak) ∧ U3.cell? ⟨ba, 1, none⟩ = some (.int .i64 an) ∧ U3.cell? ⟨ba, 2, none⟩ = some (.string az) ∧ U3.cell? ⟨ba, 3, none⟩ = some (.slice ap am ac) ∧ U3.cell? ⟨bb, 0, none⟩ = some (.int .i64 bk) ∧ U3.cell? ⟨bb, 1, none⟩ = some (.int .i64 bn) ∧ U3.cell? ⟨bb, 2, none⟩ = some (.string bz) ∧ U3.cell? ⟨bb, 3, none⟩ = some (.slice bp bm bc) ∧ (ba < U3.heap.size ∧ bb < U3.heap.size)) := by
      obtain ⟨⟨x0, x1, x2, x3⟩, _⟩ := S3.out.va.box.facts
      obtain ⟨⟨y0, y1, y2, y3⟩, _⟩ := S3.out.vb.box.facts
      exact ⟨x0, x1, x2, x3, y0, y1, y2, y3, S3.out.va.box.lt, S3.out.vb.box.lt⟩
    have hS1 := hsw U3 U3.drew hS0 (Below.refl _ _).drew
    have hA1 : ∀ W, Below U3.heap.size U3 W → VAt 1 W a ⟨ak, an, az, ap, am, ac⟩ := fun W h => a3.out.below h
    have HA1 := Lib.hid hA1
    have HSW := Lib.hid hsw
    clear hsw hS0 hA1
    go_wp2_with fail
    go_region_held3 (fun W : World => (W.cell? ⟨ba, 0, none⟩ = some (.int .i64 ak) ∧ W.cell? ⟨ba, 1, none⟩ = some (.int .i64 an) ∧ W.cell? ⟨ba, 2, none⟩ = some (.string az) ∧ W.cell? ⟨ba, 3, none⟩ = some (.slice ap am ac) ∧ W.cell? ⟨bb, 0, none⟩ = some (.int .i64 bk) ∧ W.cell? ⟨bb, 1, none⟩ = some (.int .i64 bn) ∧ W.cell? ⟨bb, 2, none⟩ = some (.string bz) ∧ W.cell? ⟨bb, 3, none⟩ = some (.slice bp bm bc) ∧ (ba < W.heap.size ∧ bb < W.heap.size)))
      (first | assumption | (refine HSW.out _ _ (by assumption) ((Below.refl _ _).alloc (Nat.le_refl _) _)))
      (first
        | (go_at_call 6; (refine (HODD.out _ ⟨ak, an, az, ap, am, ac⟩ (HA1.out _ (Below.refl _ _).drew)).mono ?_); rintro e Y1 ⟨u, ⟨ck, cn, cz, cp, cm, cc⟩, rfl, hu, hY1, _, hus1, hus2⟩; have hS2 := HSW.out _ _ hS1 hY1))
    all_goals
      have hBa : Below U3.heap.size U3 Y1 := (show Below U3.heap.size U3 U3.drew from (Below.refl _ _).drew).trans hY1
      have hN := Bx.new Y1 30 #[.int .i64 ak, .int .i64 an, .string az, .slice ap am ac, .int .i64 bk, .int .i64 bn, .string bz, .slice bp bm bc, .int .i64 ck, .int .i64 cn, .string cz, .slice cp cm cc]
      have hal : Below Y1.heap.size Y1 (Y1.alloc (.cells #[.int .i64 ak, .int .i64 an, .string az, .slice ap am ac, .int .i64 bk, .int .i64 bn, .string bz, .slice bp bm bc, .int .i64 ck, .int .i64 cn, .string cz, .slice cp cm cc] 30)) := (Below.refl _ _).alloc (Nat.le_refl _) _
      have hR : RSt ea w k o ba a ⟨ak, an, az, ap, am, ac⟩ bb b ⟨bk, bn, bz, bp, bm, bc⟩ Y1.heap.size u ⟨ck, cn, cz, cp, cm, cc⟩ (Y1.alloc (.cells #[.int .i64 ak, .int .i64 an, .string az, .slice ap am ac, .int .i64 bk, .int .i64 bn, .string bz, .slice bp bm bc, .int .i64 ck, .int .i64 cn, .string cz, .slice cp cm cc] 30)) := ⟨(S3.out.below hBa).below hal, hu.below hal, hN.lies (n := 3) (c := 3) (size := 4) rfl rfl⟩
      have HR := Lib.hid hR
      have HUS := Lib.hid (show u.short from ⟨hus1, hus2⟩)
      clear hR hus1 hus2 hu hN hal
      go_wp2_with fail
      go_meet
      exact ⟨Y1.heap.size, u, ⟨ck, cn, cz, cp, cm, cc⟩, rfl, rfl, rfl, HUS.out, HR.out⟩
  case rest =>
    obtain ⟨g, u, C, rfl, rfl, rfl, hsu, hR⟩ := hcut
    have HSU := Lib.hid hsu
    have R4 := Lib.hid hR
    clear hsu hR S3 a3 HODD HOFA HOFB
    go_wp2_with fail
    go_loopw [50] (fun v50 wr => ∃ i : Nat, i ≤ 3 ∧ v50 = .int .i64 (i : Int) ∧ RSt ea w k o ba a ⟨ak, an, az, ap, am, ac⟩ bb b ⟨bk, bn, bz, bp, bm, bc⟩ g u C wr) (fun v50 _ => 3 - (intOf v50).toNat)
    case atStart => exact ⟨0, by decide, rfl, R4.out⟩
    case round =>
      obtain ⟨i, hi, rfl, hR⟩ := hrel
      clear R4
      by_cases hlt : i < 3
      · have d1 : decide ((i : Int) < 3) = true := decide_eq_true (by omega)
        have d1' : (i : Int) < 3 := by omega
        have d0 : (0 : Int) ≤ (i : Int) := by omega
        obtain ⟨v, X, hv, hvs, hgl, z0, z1, z2, z3⟩ := hR.at HSA.out HSB.out HSU.out i hlt
        have hxk : -9223372036854775808 ≤ X.k ∧ X.k ≤ 9223372036854775807 := by rw [hv.top.2.1]; exact hv.top.1.k
        obtain ⟨xk, xn, xs, xp, xm, xc⟩ := X
        simp only at z0 z1 z2 z3 hxk
        have hal : Below wr.heap.size wr (wr.alloc (.cells #[.int .i64 xk, .int .i64 xn, .string xs, .slice xp xm xc] 30)) := (Below.refl _ _).alloc (Nat.le_refl _) _
        have L0 := Lib.hid (show LSt ea w k o ba a ⟨ak, an, az, ap, am, ac⟩ bb b ⟨bk, bn, bz, bp, bm, bc⟩ g u C wr.heap.size v ⟨xk, xn, xs, xp, xm, xc⟩ (wr.alloc (.cells #[.int .i64 xk, .int .i64 xn, .string xs, .slice xp xm xc] 30)) from ⟨hR.below hal, V2Box.new hv⟩)
        have HVS := Lib.hid hvs
        clear hR hv hvs hal
        have cEnc := fun W (h : VAt 2 W v ⟨xk, xn, xs, xp, xm, xc⟩) (hT : Tabs W) => encode_V 2 v ⟨xk, xn, xs, xp, xm, xc⟩ W h hT
        have cREnc := fun W (h : VAt 2 W v ⟨xk, xn, xs, xp, xm, xc⟩) => rencode_any 2 v ⟨xk, xn, xs, xp, xm, xc⟩ W h HVS.out
        have cTxt := fun W (h : VAt 2 W v ⟨xk, xn, xs, xp, xm, xc⟩) (hP : Pow W) (hT : Tabs W) => vtext_both v ⟨xk, xn, xs, xp, xm, xc⟩ W h hP hT
        have cRTxt := fun W (h : VAt 2 W v ⟨xk, xn, xs, xp, xm, xc⟩) => rvtext_any v ⟨xk, xn, xs, xp, xm, xc⟩ W h HVS.out
        have cRight := fun W (h : VAt 2 W v ⟨xk, xn, xs, xp, xm, xc⟩) (hT : Tabs W) => right_V 2 v ⟨xk, xn, xs, xp, xm, xc⟩ W h hT
        have cRRight := fun W (h : VAt 2 W v ⟨xk, xn, xs, xp, xm, xc⟩) => rright_V 2 v ⟨xk, xn, xs, xp, xm, xc⟩ W h HVS.out
        have cRefs := fun W (h : VAt 2 W v ⟨xk, xn, xs, xp, xm, xc⟩) (hT : Tabs W) => refs_any 2 v ⟨xk, xn, xs, xp, xm, xc⟩ W h hT
        have cRRefs := fun W (h : VAt 2 W v ⟨xk, xn, xs, xp, xm, xc⟩) => rrefs_any 2 v ⟨xk, xn, xs, xp, xm, xc⟩ W h HVS.out
        have cWeaks := fun W (h : VAt 2 W v ⟨xk, xn, xs, xp, xm, xc⟩) (hT : Tabs W) => weaks_any 2 v ⟨xk, xn, xs, xp, xm, xc⟩ W h hT
        have cRWeaks := fun W (h : VAt 2 W v ⟨xk, xn, xs, xp, xm, xc⟩) => rweaks_any 2 v ⟨xk, xn, xs, xp, xm, xc⟩ W h HVS.out
        have cCmp := fun W (h : VAt 2 W v ⟨xk, xn, xs, xp, xm, xc⟩) (h' : VAt 2 W b ⟨bk, bn, bz, bp, bm, bc⟩) => compare_any 2 v b ⟨xk, xn, xs, xp, xm, xc⟩ ⟨bk, bn, bz, bp, bm, bc⟩ W h h'
        have cRCmp := fun W (h : VAt 2 W v ⟨xk, xn, xs, xp, xm, xc⟩) (h' : VAt 2 W b ⟨bk, bn, bz, bp, bm, bc⟩) => refCompare_any 2 v b ⟨xk, xn, xs, xp, xm, xc⟩ ⟨bk, bn, bz, bp, bm, bc⟩ W h h'
        have cCmq := fun W (h : VAt 2 W v ⟨xk, xn, xs, xp, xm, xc⟩) (h' : VAt 2 W b ⟨bk, bn, bz, bp, bm, bc⟩) => compare_any 2 b v ⟨bk, bn, bz, bp, bm, bc⟩ ⟨xk, xn, xs, xp, xm, xc⟩ W h' h
        have cRCmq := fun W (h : VAt 2 W v ⟨xk, xn, xs, xp, xm, xc⟩) (h' : VAt 2 W b ⟨bk, bn, bz, bp, bm, bc⟩) => refCompare_any 2 b v ⟨bk, bn, bz, bp, bm, bc⟩ ⟨xk, xn, xs, xp, xm, xc⟩ W h' h
        have cSame := fun W (h : VAt 2 W v ⟨xk, xn, xs, xp, xm, xc⟩) (h' : VAt 2 W a ⟨ak, an, az, ap, am, ac⟩) => same_any 2 v a ⟨xk, xn, xs, xp, xm, xc⟩ ⟨ak, an, az, ap, am, ac⟩ W h h'
        have cRSame := fun W (h : VAt 2 W v ⟨xk, xn, xs, xp, xm, xc⟩) (h' : VAt 2 W a ⟨ak, an, az, ap, am, ac⟩) => refSame_any 2 v a ⟨xk, xn, xs, xp, xm, xc⟩ ⟨ak, an, az, ap, am, ac⟩ W h h'
        have cFits := fun (q t : Int) W (h : VAt 2 W v ⟨xk, xn, xs, xp, xm, xc⟩) (hT : Tabs W) => fits_V 2 v ⟨xk, xn, xs, xp, xm, xc⟩ q t W h hT
        have cRFits := fun (q t : Int) W (h : VAt 2 W v ⟨xk, xn, xs, xp, xm, xc⟩) => rfits_V 2 v ⟨xk, xn, xs, xp, xm, xc⟩ q t W h HVS.out
        have lRefs := numsOf_len 3 v
        have lWeaks := numsOf_len 4 v
        unfold encPost at cEnc cREnc
        generalize (⟨(if v.ok then v.bytes else []).toArray⟩ : ByteArray) = SE at cEnc cREnc
        generalize (⟨(if v.ok then v.text else []).toArray⟩ : ByteArray) = ST at cTxt cRTxt
        generalize (if v.ok then (0 : Int) else 30) = er at cEnc cREnc cTxt cRTxt
        generalize v.ok = ok at cRight cRRight
        generalize cmpV 2 v b = q1 at cCmp cRCmp
        generalize cmpV 2 b v = q2 at cCmq cRCmq
        generalize (cmpV 2 v a == 0) = q3 at cSame cRSame
        generalize fitsB v = fb at cFits cRFits
        unfold intsPost at cRefs cRRefs cWeaks cRWeaks
        generalize numsOf 3 v = nr at cRefs cRRefs lRefs
        generalize numsOf 4 v = nw at cWeaks cRWeaks lWeaks
        have cEnc := Lib.hid cEnc
        have cREnc := Lib.hid cREnc
        have cTxt := Lib.hid cTxt
        have cRTxt := Lib.hid cRTxt
        have cRight := Lib.hid cRight
        have cRRight := Lib.hid cRRight
        have cRefs := Lib.hid cRefs
        have cRRefs := Lib.hid cRRefs
        have cWeaks := Lib.hid cWeaks
        have cRWeaks := Lib.hid cRWeaks
        have cCmp := Lib.hid cCmp
        have cRCmp := Lib.hid cRCmp
        have cCmq := Lib.hid cCmq
        have cRCmq := Lib.hid cRCmq
        have cSame := Lib.hid cSame
        have cRSame := Lib.hid cRSame
        have cFits := Lib.hid cFits
        have cRFits := Lib.hid cRFits
        go_wp2_with fail
        generalize wr.alloc (.cells #[.int .i64 xk, .int .i64 xn, .string xs, .slice xp xm xc] 30) = U4 at L0 ⊢
        generalize wr.heap.size = bq at L0 ⊢
        clear z0 z1 z2 z3
        obtain ⟨⟨f0, f1, f2, f3⟩, _⟩ := L0.out.v.box.facts
        go_wp2_with fail
        refine (cEnc.out _ (L0.out.v.at') (L0.out.r.t.ok.t)).mono ?_
        rintro e X1 ⟨rfl, hB⟩
        have L1 := Lib.hid (L0.out.below hB)
        clear hB L0 f0 f1 f2 f3
        obtain ⟨⟨f0, f1, f2, f3⟩, _⟩ := L1.out.v.box.facts
        go_wp2_with fail
        refine (cREnc.out _ (L1.out.v.at')).mono ?_
        rintro e X2 ⟨rfl, hB⟩
        have L2 := Lib.hid (L1.out.below hB)
        clear hB L1 f0 f1 f2 f3
        obtain ⟨⟨f0, f1, f2, f3⟩, _⟩ := L2.out.v.box.facts
        go_wp2_with fail
        refine (cTxt.out _ (L2.out.v.at') (L2.out.r.t.pw) (L2.out.r.t.ok.t)).mono ?_
        rintro e X3 ⟨rfl, hB⟩
        have L3 := Lib.hid (L2.out.below hB)
        clear hB L2 f0 f1 f2 f3
        obtain ⟨⟨f0, f1, f2, f3⟩, _⟩ := L3.out.v.box.facts
        go_wp2_with fail
        refine (cRTxt.out _ (L3.out.v.at')).mono ?_
        rintro e X4 ⟨rfl, hB⟩
        have L4 := Lib.hid (L3.out.below hB)
        clear hB L3 f0 f1 f2 f3
        have hsw : ∀ W W' : World, (W.cell? ⟨bq, 0, none⟩ = some (.int .i64 xk) ∧ W.cell? ⟨bq, 1, none⟩ = some (.int .i64 xn) ∧ W.cell? ⟨bq, 2, none⟩ = some (.string xs) ∧ W.cell? ⟨bq, 3, none⟩ = some (.slice xp xm xc) ∧ W.cell? ⟨bb, 0, none⟩ = some (.int .i64 bk) ∧ W.cell? ⟨bb, 1, none⟩ = some (.int .i64 bn) ∧ W.cell? ⟨bb, 2, none⟩ = some (.string bz) ∧ W.cell? ⟨bb, 3, none⟩ = some (.slice bp bm bc) ∧ W.cell? ⟨ba, 0, none⟩ = some (.int .i64 ak) ∧ W.cell? ⟨ba, 1, none⟩ = some (.int .i64 an) ∧ W.cell? ⟨ba, 2, none⟩ = some (.string az) ∧ W.cell? ⟨ba, 3, none⟩ = some (.slice ap am ac) ∧ bq < W.heap.size ∧ bb < W.heap.size ∧ ba < W.heap.size) → Below W.heap.size W W' → (W'.cell? ⟨bq, 0, none⟩ = some (.int .i64 xk) ∧ W'.cell? ⟨bq, 1, none⟩ = some (.int .i64 xn) ∧ W'.cell? ⟨bq, 2, none⟩ = some (.string xs) ∧ W'.cell? ⟨bq, 3, none⟩ = some (.slice xp xm xc) ∧ W'.cell? ⟨bb, 0, none⟩ = some (.int .i64 bk) ∧ W'.cell? ⟨bb, 1, none⟩ = some (.int .i64 bn) ∧ W'.cell? ⟨bb, 2, none⟩ = some (.string bz) ∧ W'.cell? ⟨bb, 3, none⟩ = some (.slice bp bm bc) ∧ W'.cell? ⟨ba, 0, none⟩ = some (.int .i64 ak) ∧ W'.cell? ⟨ba, 1, none⟩ = some (.int .i64 an) ∧ W'.cell? ⟨ba, 2, none⟩ = some (.string az) ∧ W'.cell? ⟨ba, 3, none⟩ = some (.slice ap am ac) ∧ bq < W'.heap.size ∧ bb < W'.heap.size ∧ ba < W'.heap.size) := by
          rintro W W' ⟨f0, f1, f2, f3, g0, g1, g2, g3, h0, h1, h2, h3, z0, z1, z2⟩ hB
          have g : ∀ (q : Addr) (v : Value), q.block < W.heap.size → W.cell? q = some v → W'.cell? q = some v := fun q v hq hv => (hB.cell hq).trans hv
          have hs := hB.size
          exact ⟨g _ _ z0 f0, g _ _ z0 f1, g _ _ z0 f2, g _ _ z0 f3, g _ _ z1 g0, g _ _ z1 g1, g _ _ z1 g2, g _ _ z1 g3, g _ _ z2 h0, g _ _ z2 h1, g _ _ z2 h2, g _ _ z2 h3, by omega, by omega, by omega⟩
        have hS0 : (X4.cell? ⟨bq, 0, none⟩ = some (.int .i64 xk) ∧ X4.cell? ⟨bq, 1, none⟩ = some (.int .i64 xn) ∧ X4.cell? ⟨bq, 2, none⟩ = some (.string xs) ∧ X4.cell? ⟨bq, 3, none⟩ = some (.slice xp xm xc) ∧ X4.cell? ⟨bb, 0, none⟩ = some (.int .i64 bk) ∧ X4.cell? ⟨bb, 1, none⟩ = some (.int .i64 bn) ∧ X4.cell? ⟨bb, 2, none⟩ = some (.string bz) ∧ X4.cell? ⟨bb, 3, none⟩ = some (.slice bp bm bc) ∧ X4.cell? ⟨ba, 0, none⟩ = some (.int .i64 ak) ∧ X4.cell? ⟨ba, 1, none⟩ = some (.int .i64 an) ∧ X4.cell? ⟨ba, 2, none⟩ = some (.string az) ∧ X4.cell? ⟨ba, 3, none⟩ = some (.slice ap am ac) ∧ bq < X4.heap.size ∧ bb < X4.heap.size ∧ ba < X4.heap.size) := by
          obtain ⟨⟨f0, f1, f2, f3⟩, _⟩ := L4.out.v.box.facts
          obtain ⟨⟨g0, g1, g2, g3⟩, _⟩ := L4.out.r.t.vb.box.facts
          obtain ⟨⟨h0, h1, h2, h3⟩, _⟩ := L4.out.r.t.va.box.facts
          exact ⟨f0, f1, f2, f3, g0, g1, g2, g3, h0, h1, h2, h3, L4.out.v.box.lt, L4.out.r.t.vb.box.lt, L4.out.r.t.va.box.lt⟩
        have hS1 := hsw X4 X4.drew hS0 (Below.refl _ _).drew
        have hLS : ∀ W, Below X4.drew.heap.size X4.drew W → LSt ea w k o ba a ⟨ak, an, az, ap, am, ac⟩ bb b ⟨bk, bn, bz, bp, bm, bc⟩ g u C bq v ⟨xk, xn, xs, xp, xm, xc⟩ W := fun W h => (L4.out.below (Below.refl _ _).drew).below h
        have HSW := Lib.hid hsw
        have HLS := Lib.hid hLS
        clear hsw hS0 hLS L4
        go_upto_region 11 with fail
        go_cut [50, 141] from 50 to 171 (fun v50 v141 wx => v50 = .int .i64 (i : Int) ∧ v141 = .bool false ∧ LSt ea w k o ba a ⟨ak, an, az, ap, am, ac⟩ bb b ⟨bk, bn, bz, bp, bm, bc⟩ g u C bq v ⟨xk, xn, xs, xp, xm, xc⟩ wx)
        case first =>
          go_wp2_with fail
          dsimp only [List.append]
          go_region_held3 (fun W : World => (W.cell? ⟨bq, 0, none⟩ = some (.int .i64 xk) ∧ W.cell? ⟨bq, 1, none⟩ = some (.int .i64 xn) ∧ W.cell? ⟨bq, 2, none⟩ = some (.string xs) ∧ W.cell? ⟨bq, 3, none⟩ = some (.slice xp xm xc) ∧ W.cell? ⟨bb, 0, none⟩ = some (.int .i64 bk) ∧ W.cell? ⟨bb, 1, none⟩ = some (.int .i64 bn) ∧ W.cell? ⟨bb, 2, none⟩ = some (.string bz) ∧ W.cell? ⟨bb, 3, none⟩ = some (.slice bp bm bc) ∧ W.cell? ⟨ba, 0, none⟩ = some (.int .i64 ak) ∧ W.cell? ⟨ba, 1, none⟩ = some (.int .i64 an) ∧ W.cell? ⟨ba, 2, none⟩ = some (.string az) ∧ W.cell? ⟨ba, 3, none⟩ = some (.slice ap am ac) ∧ bq < W.heap.size ∧ bb < W.heap.size ∧ ba < W.heap.size))
            (first | assumption | (refine HSW.out _ _ (by assumption) ((Below.refl _ _).alloc (Nat.le_refl _) _)))
            (first
              | (go_at_call 11; (with_reducible refine (cRight.out _ ((HLS.out _ (Below.refl _ _)).v.at') ((HLS.out _ (Below.refl _ _)).r.t.ok.t)).mono ?_); rintro e Y1 ⟨rfl, hB1⟩; have hY1 := hB1; have hS2 := HSW.out _ _ hS1 hB1)
              | (go_at_call 12; (with_reducible refine (cRRight.out _ ((HLS.out _ hY1).v.at')).mono ?_); rintro e Y2 ⟨rfl, hB2⟩; have hY2 := hY1.trans (hB2.mono hY1.size); have hS3 := HSW.out _ _ hS2 hB2)
              | (go_at_call 14; (with_reducible refine (cRefs.out _ ((HLS.out _ hY2).v.at') ((HLS.out _ hY2).r.t.ok.t)).mono ?_); rintro e Y3 ⟨p1, c1, rfl, hl1, hB3⟩; have hY3 := hY2.trans (hB3.mono hY2.size); have hS4 := HSW.out _ _ hS3 hB3)
              | (go_at_call 15; (with_reducible refine (cRRefs.out _ ((HLS.out _ hY3).v.at')).mono ?_); rintro e Y4 ⟨p2, c2, rfl, hl2, hB4⟩; have hY4 := hY3.trans (hB4.mono hY3.size); have hS5 := HSW.out _ _ hS4 hB4; have hm1 := hl1.below hB4)
              | (go_at_call 13; (with_reducible refine (nums_same nr lRefs p1 c1 p2 c2 _ hm1 hl2).mono ?_); rintro e Y5 ⟨rfl, hB5⟩; have hY5 := hY4.trans (hB5.mono hY4.size); have hS6 := HSW.out _ _ hS5 hB5)
              | (go_at_call 16; (with_reducible refine (cWeaks.out _ ((HLS.out _ hY5).v.at') ((HLS.out _ hY5).r.t.ok.t)).mono ?_); rintro e Y6 ⟨p3, c3, rfl, hl3, hB6⟩; have hY6 := hY5.trans (hB6.mono hY5.size); have hS7 := HSW.out _ _ hS6 hB6)
              | (go_at_call 17; (with_reducible refine (cRWeaks.out _ ((HLS.out _ hY6).v.at')).mono ?_); rintro e Y7 ⟨p4, c4, rfl, hl4, hB7⟩; have hY7 := hY6.trans (hB7.mono hY6.size); have hS8 := HSW.out _ _ hS7 hB7; have hm3 := hl3.below hB7)
              | (go_at_call 13; (with_reducible refine (nums_same nw lWeaks p3 c3 p4 c4 _ hm3 hl4).mono ?_); rintro e Y8 ⟨rfl, hB8⟩; have hY8 := hY7.trans (hB8.mono hY7.size); have hS9 := HSW.out _ _ hS8 hB8)
              | (go_at_call 18; (with_reducible refine (cCmp.out _ ((HLS.out _ hY8).v.at') ((HLS.out _ hY8).r.t.vb.at')).mono ?_); rintro e Y9 ⟨rfl, hB9⟩; have hY9 := hY8.trans (hB9.mono hY8.size); have hS10 := HSW.out _ _ hS9 hB9)
              | (go_at_call 19; (with_reducible refine (cRCmp.out _ ((HLS.out _ hY9).v.at') ((HLS.out _ hY9).r.t.vb.at')).mono ?_); rintro e Y10 ⟨rfl, hB10⟩; have hY10 := hY9.trans (hB10.mono hY9.size); have hS11 := HSW.out _ _ hS10 hB10)
              | (go_at_call 18; (with_reducible refine (cCmq.out _ ((HLS.out _ hY10).v.at') ((HLS.out _ hY10).r.t.vb.at')).mono ?_); rintro e Y11 ⟨rfl, hB11⟩; have hY11 := hY10.trans (hB11.mono hY10.size); have hS12 := HSW.out _ _ hS11 hB11)
              | (go_at_call 19; (with_reducible refine (cRCmq.out _ ((HLS.out _ hY11).v.at') ((HLS.out _ hY11).r.t.vb.at')).mono ?_); rintro e Y12 ⟨rfl, hB12⟩; have hY12 := hY11.trans (hB12.mono hY11.size); have hS13 := HSW.out _ _ hS12 hB12)
              | (go_at_call 20; (with_reducible refine (cSame.out _ ((HLS.out _ hY12).v.at') ((HLS.out _ hY12).r.t.va.at')).mono ?_); rintro e Y13 ⟨rfl, hB13⟩; have hY13 := hY12.trans (hB13.mono hY12.size); have hS14 := HSW.out _ _ hS13 hB13)
              | (go_at_call 21; (with_reducible refine (cRSame.out _ ((HLS.out _ hY13).v.at') ((HLS.out _ hY13).r.t.va.at')).mono ?_); rintro e Y14 ⟨rfl, hB14⟩; have hY14 := hY13.trans (hB14.mono hY13.size); have hS15 := HSW.out _ _ hS14 hB14))
          all_goals
            have hF := Lib.hid (HLS.out _ hY14)
            go_wp2_with fail
            go_meet
            exact ⟨rfl, rfl, hF.out⟩
        case rest =>
          obtain ⟨rfl, rfl, hL⟩ := hcut
          clear HSW HLS hS1
          have L4 := Lib.hid hL
          clear hL
          have hB13 : True := trivial
          clear hB13
          clear cEnc cREnc cTxt cRTxt cRight cRRight cRefs cRRefs cWeaks cRWeaks cCmp cRCmp cCmq cRCmq cSame cRSame
          go_upto_region 13 with fail
          go_cut [50, 149, 150, 151] from 50 to 171 (fun v50 v149 v150 v151 wx => ∃ g2 : Nat, v50 = .int .i64 (i : Int) ∧ v149 = .slice (some ⟨g2, 0, none⟩) 3 3 ∧ v150 = .int .i64 3 ∧ v151 = .int .i64 0 ∧ Lies wx (.slice (some ⟨g2, 0, none⟩) 3 3) 3 2 (typCells [(k, o), (tk, tq), (xk, 0)]) ∧ LSt ea w k o ba a ⟨ak, an, az, ap, am, ac⟩ bb b ⟨bk, bn, bz, bp, bm, bc⟩ g u C bq v ⟨xk, xn, xs, xp, xm, xc⟩ wx)
          case first =>
            have hsw : ∀ W W' : World, (W.cell? ⟨w.heap.size + 1 + 1, 0, none⟩ = some (.int .i64 k) ∧ W.cell? ⟨w.heap.size + 1 + 1, 1, none⟩ = some (.int .i64 o) ∧ W.cell? ⟨bq, 0, none⟩ = some (.int .i64 xk) ∧ w.heap.size + 1 + 1 < W.heap.size ∧ bq < W.heap.size) → Below W.heap.size W W' → (W'.cell? ⟨w.heap.size + 1 + 1, 0, none⟩ = some (.int .i64 k) ∧ W'.cell? ⟨w.heap.size + 1 + 1, 1, none⟩ = some (.int .i64 o) ∧ W'.cell? ⟨bq, 0, none⟩ = some (.int .i64 xk) ∧ w.heap.size + 1 + 1 < W'.heap.size ∧ bq < W'.heap.size) := by
              rintro W W' ⟨t0, t1, f0, z0, z1⟩ hB
              have g : ∀ (q : Addr) (v : Value), q.block < W.heap.size → W.cell? q = some v → W'.cell? q = some v := fun q v hq hv => (hB.cell hq).trans hv
              have hs := hB.size
              exact ⟨g _ _ z0 t0, g _ _ z0 t1, g _ _ z1 f0, by omega, by omega⟩
            have hS0 : (wc.cell? ⟨w.heap.size + 1 + 1, 0, none⟩ = some (.int .i64 k) ∧ wc.cell? ⟨w.heap.size + 1 + 1, 1, none⟩ = some (.int .i64 o) ∧ wc.cell? ⟨bq, 0, none⟩ = some (.int .i64 xk) ∧ w.heap.size + 1 + 1 < wc.heap.size ∧ bq < wc.heap.size) := by
              obtain ⟨⟨x0, x1, x2, x3⟩, _⟩ := L4.out.v.box.facts
              obtain ⟨t0, t1⟩ := L4.out.r.t.ty.facts
              exact ⟨t0, t1, x0, L4.out.r.t.ty.lt, L4.out.v.box.lt⟩
            have hS1 := hsw wc wc.drew hS0 (Below.refl _ _).drew
            have HSW := Lib.hid hsw
            clear hsw hS0
            go_wp2_with fail
            go_region_held3 (fun W : World => (W.cell? ⟨w.heap.size + 1 + 1, 0, none⟩ = some (.int .i64 k) ∧ W.cell? ⟨w.heap.size + 1 + 1, 1, none⟩ = some (.int .i64 o) ∧ W.cell? ⟨bq, 0, none⟩ = some (.int .i64 xk) ∧ w.heap.size + 1 + 1 < W.heap.size ∧ bq < W.heap.size))
              (first | assumption | (refine HSW.out _ _ (by assumption) ((Below.refl _ _).alloc (Nat.le_refl _) _)))
              (first
                | (go_at_call 22; (refine (HVT.out _).mono ?_); rintro e Y1 ⟨rfl, hY1⟩; have hS2 := HSW.out _ _ hS1 hY1))
            all_goals
              have hBa : Below wc.heap.size wc Y1 := (show Below wc.heap.size wc wc.drew from (Below.refl _ _).drew).trans hY1
              have hN := Bx.new Y1 26 #[.int .i64 k, .int .i64 o, .int .i64 tk, .int .i64 tq, .int .i64 xk, .int .i64 0]
              have hal : Below Y1.heap.size Y1 (Y1.alloc (.cells #[.int .i64 k, .int .i64 o, .int .i64 tk, .int .i64 tq, .int .i64 xk, .int .i64 0] 26)) := (Below.refl _ _).alloc (Nat.le_refl _) _
              have hR := (L4.out.below hBa).below hal
              have hl := hN.lies (n := 3) (c := 3) (size := 2) rfl rfl
              have HR := Lib.hid hR
              have HL := Lib.hid hl
              clear hR hl hN hal
              go_wp2_with fail
              go_meet
              exact ⟨Y1.heap.size, rfl, rfl, rfl, rfl, HL.out, HR.out⟩
          case rest =>
            obtain ⟨g2, rfl, rfl, rfl, rfl, hl2, hL⟩ := hcut
            clear L4
            have H2 := Lib.hid hl2
            have K0 := Lib.hid hL
            clear hl2 hL
            go_wp2_with fail
            go_loopw [151] (fun v151 wr => ∃ j : Nat, j ≤ 3 ∧ v151 = .int .i64 (j : Int) ∧ Lies wr (.slice (some ⟨g2, 0, none⟩) 3 3) 3 2 (typCells [(k, o), (tk, tq), (xk, 0)]) ∧ LSt ea w k o ba a ⟨ak, an, az, ap, am, ac⟩ bb b ⟨bk, bn, bz, bp, bm, bc⟩ g u C bq v ⟨xk, xn, xs, xp, xm, xc⟩ wr) (fun v151 _ => 3 - (intOf v151).toNat)
            case atStart => exact ⟨0, by decide, rfl, H2.out, K0.out⟩
            case round =>
              obtain ⟨j, hj, rfl, hl2, hL⟩ := hrel
              clear H2 K0
              by_cases hjt : j < 3
              · have e1 : decide ((j : Int) < 3) = true := decide_eq_true (by omega)
                have e1' : (j : Int) < 3 := by omega
                have e0 : (0 : Int) ≤ (j : Int) := by omega
                obtain ⟨zk, zo, hzb, hg2, y0, y1⟩ : ∃ zk zo : Int, (-9223372036854775808 ≤ zk ∧ zk ≤ 9223372036854775807) ∧ g2 < wr.heap.size ∧ wr.cell? ⟨g2, j * 2, none⟩ = some (.int .i64 zk) ∧ wr.cell? ⟨g2, j * 2 + 1, none⟩ = some (.int .i64 zo) := by
                  obtain ⟨b', off, hv, hb', hc⟩ := hl2.at (by decide)
                  injection Option.some.inj hv with e1 e2 _
                  subst e1 e2
                  match j, hjt with
                  | 0, _ => exact ⟨k, o, ⟨hk1, hk2⟩, hb', hc 0 _ rfl, hc 1 _ rfl⟩
                  | 1, _ => exact ⟨tk, tq, htk, hb', hc 2 _ rfl, hc 3 _ rfl⟩
                  | 2, _ => exact ⟨xk, 0, hxk, hb', hc 4 _ rfl, hc 5 _ rfl⟩
                have hal : Below wr.heap.size wr (wr.alloc (.cells #[.int .i64 zk, .int .i64 zo] 26)) := (Below.refl _ _).alloc (Nat.le_refl _) _
                have hty := TBox.new wr zk zo
                have K1 := Lib.hid (hL.below hal)
                have H1 := Lib.hid (hl2.below hal)
                have Y1 := Lib.hid hty
                have cZero := fun W => zero_any zk zo W
                have cRZero := fun W => rzero_any zk zo W
                have cSm := fun W => zero_same zk zo hzb W
                generalize zeroK zk zo = zz at cZero cRZero cSm
                generalize fb zk zo = fq
                clear hL hl2 hal hty
                go_wp2_with fail
                generalize wr.alloc (.cells #[.int .i64 zk, .int .i64 zo] 26) = U5 at K1 H1 Y1 ⊢
                generalize wr.heap.size = bt at Y1 ⊢
                have cF := fun W (h : VAt 2 W v ⟨xk, xn, xs, xp, xm, xc⟩) (hT : Tabs W) => cFits.out zk zo W h hT
                have cRF := fun W (h : VAt 2 W v ⟨xk, xn, xs, xp, xm, xc⟩) => cRFits.out zk zo W h
                generalize fb zk zo = fq at cF cRF
                have hsw : ∀ W W' : World, (W.cell? ⟨bt, 0, none⟩ = some (.int .i64 zk) ∧ W.cell? ⟨bt, 1, none⟩ = some (.int .i64 zo) ∧ W.cell? ⟨bq, 0, none⟩ = some (.int .i64 xk) ∧ W.cell? ⟨bq, 1, none⟩ = some (.int .i64 xn) ∧ W.cell? ⟨bq, 2, none⟩ = some (.string xs) ∧ W.cell? ⟨bq, 3, none⟩ = some (.slice xp xm xc) ∧ bt < W.heap.size ∧ bq < W.heap.size) → Below W.heap.size W W' → (W'.cell? ⟨bt, 0, none⟩ = some (.int .i64 zk) ∧ W'.cell? ⟨bt, 1, none⟩ = some (.int .i64 zo) ∧ W'.cell? ⟨bq, 0, none⟩ = some (.int .i64 xk) ∧ W'.cell? ⟨bq, 1, none⟩ = some (.int .i64 xn) ∧ W'.cell? ⟨bq, 2, none⟩ = some (.string xs) ∧ W'.cell? ⟨bq, 3, none⟩ = some (.slice xp xm xc) ∧ bt < W'.heap.size ∧ bq < W'.heap.size) := by
                  rintro W W' ⟨t0, t1, f0, f1, f2, f3, z0, z1⟩ hB
                  have g : ∀ (q : Addr) (v : Value), q.block < W.heap.size → W.cell? q = some v → W'.cell? q = some v := fun q v hq hv => (hB.cell hq).trans hv
                  have hs := hB.size
                  exact ⟨g _ _ z0 t0, g _ _ z0 t1, g _ _ z1 f0, g _ _ z1 f1, g _ _ z1 f2, g _ _ z1 f3, by omega, by omega⟩
                have hS0 : (U5.cell? ⟨bt, 0, none⟩ = some (.int .i64 zk) ∧ U5.cell? ⟨bt, 1, none⟩ = some (.int .i64 zo) ∧ U5.cell? ⟨bq, 0, none⟩ = some (.int .i64 xk) ∧ U5.cell? ⟨bq, 1, none⟩ = some (.int .i64 xn) ∧ U5.cell? ⟨bq, 2, none⟩ = some (.string xs) ∧ U5.cell? ⟨bq, 3, none⟩ = some (.slice xp xm xc) ∧ bt < U5.heap.size ∧ bq < U5.heap.size) := by
                  obtain ⟨⟨x0, x1, x2, x3⟩, _⟩ := K1.out.v.box.facts
                  obtain ⟨t0, t1⟩ := Y1.out.facts
                  exact ⟨t0, t1, x0, x1, x2, x3, Y1.out.lt, K1.out.v.box.lt⟩
                have hS1 := hsw U5 U5.drew hS0 (Below.refl _ _).drew
                have hVV : ∀ W, Below U5.drew.heap.size U5.drew W → VAt 2 W v ⟨xk, xn, xs, xp, xm, xc⟩ := fun W h => (K1.out.v.at'.below (Below.refl _ _).drew).below h
                have hTT : ∀ W, Below U5.drew.heap.size U5.drew W → Tabs W := fun W h => (K1.out.r.t.ok.t.below (Below.refl _ _).drew).below h
                have hEnd : ∀ W, Below U5.drew.heap.size U5.drew W → Lies W (.slice (some ⟨g2, 0, none⟩) 3 3) 3 2 (typCells [(k, o), (tk, tq), (xk, 0)]) ∧ LSt ea w k o ba a ⟨ak, an, az, ap, am, ac⟩ bb b ⟨bk, bn, bz, bp, bm, bc⟩ g u C bq v ⟨xk, xn, xs, xp, xm, xc⟩ W := fun W h => ⟨(H1.out.below (Below.refl _ _).drew).below h, (K1.out.below (Below.refl _ _).drew).below h⟩
                have HSW := Lib.hid hsw
                have HVV := Lib.hid hVV
                have HTT := Lib.hid hTT
                have HEND := Lib.hid hEnd
                have cF := Lib.hid cF
                have cRF := Lib.hid cRF
                have cZero := Lib.hid cZero
                have cRZero := Lib.hid cRZero
                have cSm := Lib.hid cSm
                clear hsw hS0 hVV hTT hEnd K1 H1 Y1 y0 y1
                go_wp2_with fail
                go_region_held3 (fun W : World => (W.cell? ⟨bt, 0, none⟩ = some (.int .i64 zk) ∧ W.cell? ⟨bt, 1, none⟩ = some (.int .i64 zo) ∧ W.cell? ⟨bq, 0, none⟩ = some (.int .i64 xk) ∧ W.cell? ⟨bq, 1, none⟩ = some (.int .i64 xn) ∧ W.cell? ⟨bq, 2, none⟩ = some (.string xs) ∧ W.cell? ⟨bq, 3, none⟩ = some (.slice xp xm xc) ∧ bt < W.heap.size ∧ bq < W.heap.size))
                  (first | assumption | (refine HSW.out _ _ (by assumption) ((Below.refl _ _).alloc (Nat.le_refl _) _)))
                  (first
                    | (go_at_call 23; (refine (cF.out _ (HVV.out _ (Below.refl _ _)) (HTT.out _ (Below.refl _ _))).mono ?_); rintro e Z1 ⟨rfl, hZ1⟩; have hS2 := HSW.out _ _ hS1 hZ1)
                    | (go_at_call 24; (refine (cRF.out _ (HVV.out _ hZ1)).mono ?_); rintro e Z2 ⟨rfl, hZ2'⟩; have hZ2 := hZ1.trans (hZ2'.mono hZ1.size); have hS3 := HSW.out _ _ hS2 hZ2')
                    | (go_at_call 25; (refine (cZero.out _).mono ?_); rintro e Z3 ⟨rfl, hZ3'⟩; have hZ3 := hZ2.trans (hZ3'.mono hZ2.size); have hS4 := HSW.out _ _ hS3 hZ3')
                    | (go_at_call 26; (refine (cRZero.out _).mono ?_); rintro e Z4 ⟨rfl, hZ4'⟩; have hZ4 := hZ3.trans (hZ4'.mono hZ3.size); have hS5 := HSW.out _ _ hS4 hZ4')
                    | (go_at_call 21; (refine (cSm.out _).mono ?_); rintro e Z5 ⟨rfl, hZ5'⟩; have hZ5 := hZ4.trans (hZ5'.mono hZ4.size); have hS6 := HSW.out _ _ hS5 hZ5'))
                all_goals
                  have hF := HEND.out _ hZ5
                  have HF := Lib.hid hF
                  clear hF
                  go_wp2_with fail
                  exact ⟨⟨j + 1, by omega, by go_num, HF.out.1, HF.out.2⟩, by simp [intOf]; omega⟩
              · obtain rfl : j = 3 := by omega
                have e1 : decide ((3 : Int) < 3) = false := rfl
                have HL := Lib.hid hL
                clear hL hl2
                go_wp2_with fail
                exact ⟨⟨i + 1, by omega, by go_num, HL.out.r⟩, by simp [intOf]; omega⟩
      · obtain rfl : i = 3 := by omega
        have d1 : decide ((3 : Int) < 3) = false := rfl
        go_wp2_with fail
        go_ret
        exact ⟨rfl, hR.t.ok.b⟩
end Go.Proofs.YtmijlcilnaeppaaGreatDoor
