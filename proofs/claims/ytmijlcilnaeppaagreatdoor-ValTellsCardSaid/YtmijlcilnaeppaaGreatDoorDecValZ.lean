/- (val.reader).value: a value that is no list. -/
import Derived.Test.YtmijlcilnaeppaaGreatDoorBun8
import Derived.Test.YtmijlcilnaeppaaGreatDoorBun6
set_option linter.unusedSimpArgs false
set_option linter.unusedVariables false
namespace Go.Proofs.YtmijlcilnaeppaaGreatDoor
open Go Go.RowKit Go.Shelf Go.Sort

theorem vat_nil (d : Nat) (W : World) {u : V} (hf : u.fine) (hl : u.l = []) : VAt d W u ⟨u.k, u.n, u.s, none, 0, 0⟩ := by
  have ht : ∀ J, VTop W u ⟨u.k, u.n, u.s, none, 0, 0⟩ J := fun J => ⟨hf, rfl, rfl, rfl, [], by rw [hl]; rfl, ⟨rfl, .inl ⟨rfl, none, 0, rfl⟩⟩, fun i h => absurd h (by simp)⟩
  cases d with
  | zero => exact ht _
  | succ d => exact ht _

abbrev numFn (Sb Ab : Nat) : Value := .func (.func 52) #[] #[.pointer (some ⟨Sb, 0, none⟩), .pointer (some ⟨Ab, 0, none⟩)]
abbrev textFn (Sb Ab : Nat) : Value := .func (.func 54) #[] #[.pointer (some ⟨Sb, 0, none⟩), .pointer (some ⟨Ab, 0, none⟩)]
abbrev rdr (Sb Ab : Nat) : Value := .agg #[numFn Sb Ab, textFn Sb Ab]

/-- what value answers -/
def valPost (r : Except Int (V × Nat)) (w0 : World) (ea : Addr) (s : ByteArray) (Sb Ab p : Nat) (W : World) (e : Ending) (W' : World) : Prop :=
  Kept Ab W W' ∧ match r with
    | .error n => e = .returned (.tuple #[valV 0 0 ⟨#[]⟩ (.slice none 0 0), .int .i64 n]) ∧ ∃ q, Rd w0 ea s Sb Ab q W'
    | .ok (u, n) => Rd w0 ea s Sb Ab (p + n) W' ∧ ∃ x : It, e = .returned (.tuple #[x.v, .int .i64 0]) ∧ VAt 1 W' u x

/-- the reader's box and the result's, behind a call -/
structure Two (W0 : World) (Sb Ab : Nat) (W : World) : Prop where
  hA : Ab < W0.heap.size
  rd : W.heap[W0.heap.size]? = some (.cells #[numFn Sb Ab, textFn Sb Ab] 77 (0, 0))
  out : VBox W (W0.heap.size + 1) 0 0 ⟨#[]⟩ (.slice none 0 0)
  kept : Kept Ab W0 W
theorem Two.new {W0 : World} {Sb Ab : Nat} (hA : Ab < W0.heap.size) : Two W0 Sb Ab ((W0.alloc (.cells #[numFn Sb Ab, textFn Sb Ab] 77)).alloc (.cells #[.int .i64 0, .int .i64 0, .string ⟨#[]⟩, .slice none 0 0] 30)) := by
  refine ⟨hA, heap_alloc2_old W0 _ _, ?_, grownBy_of_below (below_two _ _) _⟩
  have := World.alloc_heap_new (W0.alloc (.cells #[numFn Sb Ab, textFn Sb Ab] 77)) (.cells #[.int .i64 0, .int .i64 0, .string ⟨#[]⟩, .slice none 0 0] 30)
  rwa [show (W0.alloc (.cells #[numFn Sb Ab, textFn Sb Ab] 77)).heap.size = W0.heap.size + 1 from by simp] at this
theorem Two.go {W0 : World} {Sb Ab : Nat} {W W' : World} (h : Two W0 Sb Ab W) (hk : Kept Ab W W') : Two W0 Sb Ab W' := by
  have hA := h.hA
  have hlt := (Array.getElem?_eq_some_iff.1 h.rd).1
  exact ⟨hA, (hk.block _ hlt (fun e => by have := Option.some.inj e; omega)).trans h.rd, h.out.kept hk (by omega), h.kept.trans hk⟩
theorem Two.below {W0 : World} {Sb Ab : Nat} {W W' : World} (h : Two W0 Sb Ab W) (hb : Below W.heap.size W W') : Two W0 Sb Ab W' := h.go (grownBy_of_below hb _)
theorem Two.past {W0 : World} {Sb Ab : Nat} {W : World} (h : Two W0 Sb Ab W) (a : Addr) (ha : W0.heap.size + 2 ≤ a.block) (u : Value) : Two W0 Sb Ab (W.setCell a u) :=
  ⟨h.hA, (Below.heap_setCell W a u _ (by omega)).trans h.rd, h.out.past a (by omega) u, grown_set h.kept (b := a.block) (by omega) a rfl u⟩
theorem Two.cells {W0 : World} {Sb Ab : Nat} {W : World} (h : Two W0 Sb Ab W) : W.cell? ⟨W0.heap.size, 0, none⟩ = some (numFn Sb Ab) ∧ W.cell? ⟨W0.heap.size, 1, none⟩ = some (textFn Sb Ab) := by
  constructor <;> (rw [Lib.cell_of_heap h.rd]; rfl)
theorem Rd.past {w0 : World} {ea : Addr} {s : ByteArray} {Sb Ab p : Nat} {W : World} (h : Rd w0 ea s Sb Ab p W) (a : Addr) (h1 : Sb ≠ a.block) (h2 : Ab ≠ a.block) (h3 : w0.heap.size ≤ a.block) (u : Value) : Rd w0 ea s Sb Ab p (W.setCell a u) :=
  ⟨h.hs, h.t0, h.e0, h.b0.setCell h3 u, h.ls, h.la, h.ne, (Below.heap_setCell W a u Sb h1).trans h.sb, (Below.heap_setCell W a u Ab h2).trans h.ab, h.hp⟩
theorem Rd.put {w0 : World} {ea : Addr} {s : ByteArray} {Sb Ab p : Nat} {W : World} (h : Rd w0 ea s Sb Ab p W) (b : Nat) (h1 : Sb ≠ b) (h2 : Ab ≠ b) (h3 : w0.heap.size ≤ b) (k n : Int) (t : ByteArray) (l : Value) : Rd w0 ea s Sb Ab p (putBox W b k n t l) :=
  (((h.past ⟨b, 0, none⟩ h1 h2 h3 _).past ⟨b, 1, none⟩ h1 h2 h3 _).past ⟨b, 2, none⟩ h1 h2 h3 _).past ⟨b, 3, none⟩ h1 h2 h3 _
/-- the result's box, written at the end -/
theorem Two.fin {W0 : World} {Sb Ab : Nat} {W : World} (h : Two W0 Sb Ab W) (k n : Int) (t : ByteArray) (l : Value) : VBox (putBox W (W0.heap.size + 1) k n t l) (W0.heap.size + 1) k n t l ∧ Kept Ab W0 (putBox W (W0.heap.size + 1) k n t l) :=
  ⟨h.out.put k n t l, grown_putBox h.kept (by omega) k n t l⟩
theorem Rd.fin {w0 W0 : World} {ea : Addr} {s : ByteArray} {Sb Ab p q : Nat} {W : World} (h : Rd w0 ea s Sb Ab p W) (h0 : Rd w0 ea s Sb Ab q W0) (k n : Int) (t : ByteArray) (l : Value) : Rd w0 ea s Sb Ab p (putBox W (W0.heap.size + 1) k n t l) :=
  h.put _ (by have := h0.lts; omega) (by have := h0.lt; omega) (by have := h0.b0.size; omega) k n t l

-- WALKS
set_option maxHeartbeats 4000000 in
set_option maxRecDepth 100000 in
theorem value_none (b : Bool) (w0 : World) (ea : Addr) (s : ByteArray) (Sb Ab p : Nat) (W : World) (h : Rd w0 ea s Sb Ab p W) (hn : numL (s.data.toList.drop p) = none) :
    Calls Tryz.prog 56 #[rdr Sb Ab, .bool b] W (valPost (.error 10) w0 ea s Sb Ab p W) := by
  have hlt := h.lt
  have h2 := Two.new (W0 := W) (Sb := Sb) (Ab := Ab) hlt
  have hc := decNum w0 ea s Sb Ab p _ (h.below (below_two (.cells #[numFn Sb Ab, textFn Sb Ab] 77) (.cells #[.int .i64 0, .int .i64 0, .string ⟨#[]⟩, .slice none 0 0] 30)))
  unfold decNumPost at hc
  rw [hn] at hc
  have H := Lib.hid h
  have H2 := Lib.hid h2
  clear h h2 hn
  go_enter Tryz.func56, Tryz.ntmps56
  go_wp2_with fail
  refine hc.mono ?_
  rintro e W1 ⟨hk1, rfl, hR1⟩
  have hT := H2.out.go hk1
  have z1 : W.heap.size + 2 ≤ W1.heap.size := by have := hT.out.lt; omega
  obtain ⟨⟨c0, c1, c2, c3⟩, f0, f1, f2, f3⟩ := hT.out.facts
  have HT := Lib.hid hT
  have HR1 := Lib.hid hR1
  clear hT hk1 hR1 hc
  go_wp2_with fail
  obtain ⟨hV, hK⟩ := HT.out.fin 0 0 ⟨#[]⟩ (.slice none 0 0)
  have hR := HR1.out.fin H.out 0 0 ⟨#[]⟩ (.slice none 0 0)
  unfold putBox at hV hK hR
  generalize ((((W1.setCell ⟨W.heap.size + 1, 0, none⟩ (.int .i64 0)).setCell ⟨W.heap.size + 1, 1, none⟩ (.int .i64 0)).setCell ⟨W.heap.size + 1, 2, none⟩ (.string ⟨#[]⟩)).setCell ⟨W.heap.size + 1, 3, none⟩ (.slice none 0 0)) = W9 at hV hK hR ⊢
  obtain ⟨⟨e0, e1, e2, e3⟩, _⟩ := hV.facts
  exact bodyPost_ret (v := .tuple #[valV 0 0 ⟨#[]⟩ (.slice none 0 0), .int .i64 10]) (by simp [results, Tryz.results56, go_sem, e0, e1, e2, e3]) rfl ⟨hK, rfl, 0, hR⟩

set_option maxHeartbeats 4000000 in
set_option maxRecDepth 100000 in
theorem value_other (b : Bool) (w0 : World) (ea : Addr) (s : ByteArray) (Sb Ab p : Nat) (W : World) (h : Rd w0 ea s Sb Ab p W) (k : Int) (hn : numL (s.data.toList.drop p) = some k) (hk : k ≠ 0 ∧ k ≠ 1 ∧ k ≠ 2 ∧ k ≠ 3 ∧ k ≠ 4) (hb : k ≠ 5 ∨ b = false) :
    Calls Tryz.prog 56 #[rdr Sb Ab, .bool b] W (valPost (.error 30) w0 ea s Sb Ab p W) := by
  obtain ⟨k0, k1, k2, k3, k4⟩ := hk
  have d0 : (k == 0) = false := by rw [beq_eq_false_iff_ne]; omega
  have d1 : (k == 1) = false := by rw [beq_eq_false_iff_ne]; omega
  have d2 : (k == 2) = false := by rw [beq_eq_false_iff_ne]; omega
  have d3 : (k == 3) = false := by rw [beq_eq_false_iff_ne]; omega
  have d4 : (k == 4) = false := by rw [beq_eq_false_iff_ne]; omega
  clear k1 k2 k3 k4
  have hlt := h.lt
  have h2 := Two.new (W0 := W) (Sb := Sb) (Ab := Ab) hlt
  have hc := decNum w0 ea s Sb Ab p _ (h.below (below_two (.cells #[numFn Sb Ab, textFn Sb Ab] 77) (.cells #[.int .i64 0, .int .i64 0, .string ⟨#[]⟩, .slice none 0 0] 30)))
  unfold decNumPost at hc
  rw [hn] at hc
  have H := Lib.hid h
  have H2 := Lib.hid h2
  clear h h2 hn
  go_enter Tryz.func56, Tryz.ntmps56
  go_wp2_with fail
  refine hc.mono ?_
  rintro e W1 ⟨hk1, rfl, hR1⟩
  have hT := H2.out.go hk1
  have z1 : W.heap.size + 2 ≤ W1.heap.size := by have := hT.out.lt; omega
  have hV0 : VBox (W1.alloc (.cells #[.int .i64 k, .int .i64 0, .string ⟨#[]⟩, .slice none 0 0] 30)) W1.heap.size k 0 ⟨#[]⟩ (.slice none 0 0) := VBox.new W1 _ _ _ _
  have hB0 : Below W1.heap.size W1 (W1.alloc (.cells #[.int .i64 k, .int .i64 0, .string ⟨#[]⟩, .slice none 0 0] 30)) := (Below.refl _ _).alloc (Nat.le_refl _) _
  have hT0 := hT.below hB0
  have hR0 := hR1.below hB0
  obtain ⟨⟨c0, c1, c2, c3⟩, f0, f1, f2, f3⟩ := hT0.out.facts
  have HT := Lib.hid hT0
  have HR1 := Lib.hid hR0
  clear hT hk1 hR1 hc hT0 hR0 hB0 hV0
  by_cases h5 : k = 5
  · have d5 : (k == 5) = true := by rw [beq_iff_eq]; exact h5
    obtain rfl : b = false := hb.resolve_left (fun x => x h5)
    have H5 := Lib.hid h5
    clear h5 hb
    go_wp2_with fail
    obtain ⟨hV, hK⟩ := HT.out.fin 0 0 ⟨#[]⟩ (.slice none 0 0)
    have hR := HR1.out.fin H.out 0 0 ⟨#[]⟩ (.slice none 0 0)
    unfold putBox at hV hK hR
    generalize (((((W1.alloc (.cells #[.int .i64 k, .int .i64 0, .string ⟨#[]⟩, .slice none 0 0] 30)).setCell ⟨W.heap.size + 1, 0, none⟩ (.int .i64 0)).setCell ⟨W.heap.size + 1, 1, none⟩ (.int .i64 0)).setCell ⟨W.heap.size + 1, 2, none⟩ (.string ⟨#[]⟩)).setCell ⟨W.heap.size + 1, 3, none⟩ (.slice none 0 0)) = W9 at hV hK hR ⊢
    obtain ⟨⟨e0, e1, e2, e3⟩, _⟩ := hV.facts
    exact bodyPost_ret (v := .tuple #[valV 0 0 ⟨#[]⟩ (.slice none 0 0), .int .i64 30]) (by simp [results, Tryz.results56, go_sem, e0, e1, e2, e3]) rfl ⟨hK, rfl, _, hR⟩
  · have d5 : (k == 5) = false := by rw [beq_eq_false_iff_ne]; exact h5
    clear hb
    go_wp2_with fail
    obtain ⟨hV, hK⟩ := HT.out.fin 0 0 ⟨#[]⟩ (.slice none 0 0)
    have hR := HR1.out.fin H.out 0 0 ⟨#[]⟩ (.slice none 0 0)
    unfold putBox at hV hK hR
    generalize (((((W1.alloc (.cells #[.int .i64 k, .int .i64 0, .string ⟨#[]⟩, .slice none 0 0] 30)).setCell ⟨W.heap.size + 1, 0, none⟩ (.int .i64 0)).setCell ⟨W.heap.size + 1, 1, none⟩ (.int .i64 0)).setCell ⟨W.heap.size + 1, 2, none⟩ (.string ⟨#[]⟩)).setCell ⟨W.heap.size + 1, 3, none⟩ (.slice none 0 0)) = W9 at hV hK hR ⊢
    obtain ⟨⟨e0, e1, e2, e3⟩, _⟩ := hV.facts
    exact bodyPost_ret (v := .tuple #[valV 0 0 ⟨#[]⟩ (.slice none 0 0), .int .i64 30]) (by simp [results, Tryz.results56, go_sem, e0, e1, e2, e3]) rfl ⟨hK, rfl, _, hR⟩

set_option maxHeartbeats 4000000 in
set_option maxRecDepth 100000 in
theorem value_nil (b : Bool) (w0 : World) (ea : Addr) (s : ByteArray) (Sb Ab p : Nat) (W : World) (h : Rd w0 ea s Sb Ab p W) (hn : numL (s.data.toList.drop p) = some 0) :
    Calls Tryz.prog 56 #[rdr Sb Ab, .bool b] W (valPost (.ok (.mk 0 0 ⟨#[]⟩ [], (Wire.num 0).length)) w0 ea s Sb Ab p W) := by
  have hlt := h.lt
  have h2 := Two.new (W0 := W) (Sb := Sb) (Ab := Ab) hlt
  have hc := decNum w0 ea s Sb Ab p _ (h.below (below_two (.cells #[numFn Sb Ab, textFn Sb Ab] 77) (.cells #[.int .i64 0, .int .i64 0, .string ⟨#[]⟩, .slice none 0 0] 30)))
  unfold decNumPost at hc
  rw [hn] at hc
  have H := Lib.hid h
  have H2 := Lib.hid h2
  clear h h2 hn
  go_enter Tryz.func56, Tryz.ntmps56
  go_wp2_with fail
  refine hc.mono ?_
  rintro e W1 ⟨hk1, rfl, hR1⟩
  have hT := H2.out.go hk1
  have z1 : W.heap.size + 2 ≤ W1.heap.size := by have := hT.out.lt; omega
  have hV0 : VBox (W1.alloc (.cells #[.int .i64 0, .int .i64 0, .string ⟨#[]⟩, .slice none 0 0] 30)) W1.heap.size 0 0 ⟨#[]⟩ (.slice none 0 0) := VBox.new W1 _ _ _ _
  have hB0 : Below W1.heap.size W1 (W1.alloc (.cells #[.int .i64 0, .int .i64 0, .string ⟨#[]⟩, .slice none 0 0] 30)) := (Below.refl _ _).alloc (Nat.le_refl _) _
  have hT0 := hT.below hB0
  have hR0 := hR1.below hB0
  obtain ⟨⟨c0, c1, c2, c3⟩, f0, f1, f2, f3⟩ := hT0.out.facts
  obtain ⟨⟨v0, v1, v2, v3⟩, g0, g1, g2, g3⟩ := hV0.facts
  have hr := right_flat 0 0 (by decide) ⟨#[]⟩ (by decide) none 0 0 _ hR0.tabs
  have HT := Lib.hid hT0
  have HV := Lib.hid hV0
  have HR1 := Lib.hid hR0
  clear hT hk1 hR1 hc hT0 hR0 hB0 hV0
  go_wp2_with fail
  refine hr.mono ?_
  rintro e W2 ⟨rfl, hB2⟩
  have hT2 := HT.out.below hB2
  have hR2 := HR1.out.below hB2
  have hV2 := HV.out.below hB2
  clear c0 c1 c2 c3 f0 f1 f2 f3 v0 v1 v2 v3 g0 g1 g2 g3
  obtain ⟨⟨c0, c1, c2, c3⟩, f0, f1, f2, f3⟩ := hT2.out.facts
  obtain ⟨⟨v0, v1, v2, v3⟩, g0, g1, g2, g3⟩ := hV2.facts
  have hq : flatOk 0 0 ⟨#[]⟩ 0 = true := rfl
  rw [hq]
  clear HT HR1 hr
  have HT := Lib.hid hT2
  have HR1 := Lib.hid hR2
  clear hT2 hR2 hV2 hB2 hq
  go_wp2_with fail
  obtain ⟨hV, hK⟩ := HT.out.fin 0 0 ⟨#[]⟩ (.slice none 0 0)
  have hR := HR1.out.fin H.out 0 0 ⟨#[]⟩ (.slice none 0 0)
  unfold putBox at hV hK hR
  generalize ((((W2.setCell ⟨W.heap.size + 1, 0, none⟩ (.int .i64 0)).setCell ⟨W.heap.size + 1, 1, none⟩ (.int .i64 0)).setCell ⟨W.heap.size + 1, 2, none⟩ (.string ⟨#[]⟩)).setCell ⟨W.heap.size + 1, 3, none⟩ (.slice none 0 0)) = W9 at hV hK hR ⊢
  obtain ⟨⟨e0, e1, e2, e3⟩, _⟩ := hV.facts
  exact bodyPost_ret (v := .tuple #[valV 0 0 ⟨#[]⟩ (.slice none 0 0), .int .i64 0]) (by simp [results, Tryz.results56, go_sem, e0, e1, e2, e3]) rfl ⟨hK, hR, ⟨0, 0, ⟨#[]⟩, none, 0, 0⟩, rfl, vat_nil 1 _ (flat_fine rfl) rfl⟩

set_option maxHeartbeats 4000000 in
set_option maxRecDepth 100000 in
theorem value_num_none (b : Bool) (w0 : World) (ea : Addr) (s : ByteArray) (Sb Ab p : Nat) (W : World) (h : Rd w0 ea s Sb Ab p W) (hn : numL (s.data.toList.drop p) = some 1) (hn2 : numL (s.data.toList.drop (p + (Wire.num 1).length)) = none) :
    Calls Tryz.prog 56 #[rdr Sb Ab, .bool b] W (valPost (.error 10) w0 ea s Sb Ab p W) := by
  have hlt := h.lt
  have h2 := Two.new (W0 := W) (Sb := Sb) (Ab := Ab) hlt
  have hc := decNum w0 ea s Sb Ab p _ (h.below (below_two (.cells #[numFn Sb Ab, textFn Sb Ab] 77) (.cells #[.int .i64 0, .int .i64 0, .string ⟨#[]⟩, .slice none 0 0] 30)))
  unfold decNumPost at hc
  rw [hn] at hc
  have H := Lib.hid h
  have H2 := Lib.hid h2
  clear h h2 hn
  go_enter Tryz.func56, Tryz.ntmps56
  go_wp2_with fail
  refine hc.mono ?_
  rintro e W1 ⟨hk1, rfl, hR1⟩
  have hT := H2.out.go hk1
  have z1 : W.heap.size + 2 ≤ W1.heap.size := by have := hT.out.lt; omega
  have hV0 : VBox (W1.alloc (.cells #[.int .i64 1, .int .i64 0, .string ⟨#[]⟩, .slice none 0 0] 30)) W1.heap.size 1 0 ⟨#[]⟩ (.slice none 0 0) := VBox.new W1 _ _ _ _
  have hB0 : Below W1.heap.size W1 (W1.alloc (.cells #[.int .i64 1, .int .i64 0, .string ⟨#[]⟩, .slice none 0 0] 30)) := (Below.refl _ _).alloc (Nat.le_refl _) _
  have hT0 := hT.below hB0
  have hR0 := hR1.below hB0
  have hc2 := decNum w0 ea s Sb Ab (p + (Wire.num 1).length) _ hR0
  unfold decNumPost at hc2
  rw [hn2] at hc2
  obtain ⟨c0, c1⟩ := hT0.cells
  have HT0 := Lib.hid hT0
  have HV0 := Lib.hid hV0
  clear hT hk1 hR1 hc hT0 hR0 hB0 hV0 hn2
  go_wp2_with fail
  refine hc2.mono ?_
  rintro e W2 ⟨hk2, rfl, hR2⟩
  have hT2 := HT0.out.go hk2
  have hV2 := HV0.out.kept hk2 (by have := H2.out.hA; omega)
  have z2 := hV2.lt
  clear c0 c1 hk2 hc2
  obtain ⟨⟨v0, v1, v2, v3⟩, g0, g1, g2, g3⟩ := hV2.facts
  have hT3 := hT2.past ⟨W1.heap.size, 1, none⟩ z1 (.int .i64 0)
  have hR3 := hR2.past ⟨W1.heap.size, 1, none⟩ (by have := H.out.lts; show Sb ≠ W1.heap.size; omega) (by have := H.out.lt; show Ab ≠ W1.heap.size; omega) (by have := H.out.b0.size; show _ ≤ W1.heap.size; omega) (.int .i64 0)
  obtain ⟨⟨c0, c1, c2, c3⟩, f0, f1, f2, f3⟩ := hT3.out.facts
  have HT := Lib.hid hT3
  have HR1 := Lib.hid hR3
  clear hT2 hR2 hV2 hT3 hR3
  go_wp2_with fail
  obtain ⟨hV, hK⟩ := HT.out.fin 0 0 ⟨#[]⟩ (.slice none 0 0)
  have hR := HR1.out.fin H.out 0 0 ⟨#[]⟩ (.slice none 0 0)
  unfold putBox at hV hK hR
  generalize (((((W2.setCell ⟨W1.heap.size, 1, none⟩ (.int .i64 0)).setCell ⟨W.heap.size + 1, 0, none⟩ (.int .i64 0)).setCell ⟨W.heap.size + 1, 1, none⟩ (.int .i64 0)).setCell ⟨W.heap.size + 1, 2, none⟩ (.string ⟨#[]⟩)).setCell ⟨W.heap.size + 1, 3, none⟩ (.slice none 0 0)) = W9 at hV hK hR ⊢
  obtain ⟨⟨e0, e1, e2, e3⟩, _⟩ := hV.facts
  exact bodyPost_ret (v := .tuple #[valV 0 0 ⟨#[]⟩ (.slice none 0 0), .int .i64 10]) (by simp [results, Tryz.results56, go_sem, e0, e1, e2, e3]) rfl ⟨hK, rfl, _, hR⟩

set_option maxHeartbeats 4000000 in
set_option maxRecDepth 100000 in
theorem value_num_true (b : Bool) (w0 : World) (ea : Addr) (s : ByteArray) (Sb Ab p : Nat) (W : World) (h : Rd w0 ea s Sb Ab p W) (n : Int) (hn : numL (s.data.toList.drop p) = some 1) (hn2 : numL (s.data.toList.drop (p + (Wire.num 1).length)) = some n) (hf : flatOk 1 n ⟨#[]⟩ 0 = true) :
    Calls Tryz.prog 56 #[rdr Sb Ab, .bool b] W (valPost (.ok (.mk 1 n ⟨#[]⟩ [], (Wire.num 1).length + (Wire.num n).length)) w0 ea s Sb Ab p W) := by
  have HF := Lib.hid hf
  clear hf
  have hlt := h.lt
  have h2 := Two.new (W0 := W) (Sb := Sb) (Ab := Ab) hlt
  have hc := decNum w0 ea s Sb Ab p _ (h.below (below_two (.cells #[numFn Sb Ab, textFn Sb Ab] 77) (.cells #[.int .i64 0, .int .i64 0, .string ⟨#[]⟩, .slice none 0 0] 30)))
  unfold decNumPost at hc
  rw [hn] at hc
  have H := Lib.hid h
  have H2 := Lib.hid h2
  clear h h2 hn
  go_enter Tryz.func56, Tryz.ntmps56
  go_wp2_with fail
  refine hc.mono ?_
  rintro e W1 ⟨hk1, rfl, hR1⟩
  have hT := H2.out.go hk1
  have z1 : W.heap.size + 2 ≤ W1.heap.size := by have := hT.out.lt; omega
  have hV0 : VBox (W1.alloc (.cells #[.int .i64 1, .int .i64 0, .string ⟨#[]⟩, .slice none 0 0] 30)) W1.heap.size 1 0 ⟨#[]⟩ (.slice none 0 0) := VBox.new W1 _ _ _ _
  have hB0 : Below W1.heap.size W1 (W1.alloc (.cells #[.int .i64 1, .int .i64 0, .string ⟨#[]⟩, .slice none 0 0] 30)) := (Below.refl _ _).alloc (Nat.le_refl _) _
  have hT0 := hT.below hB0
  have hR0 := hR1.below hB0
  have hc2 := decNum w0 ea s Sb Ab (p + (Wire.num 1).length) _ hR0
  unfold decNumPost at hc2
  rw [hn2] at hc2
  obtain ⟨c0, c1⟩ := hT0.cells
  have HT0 := Lib.hid hT0
  have HV0 := Lib.hid hV0
  clear hT hk1 hR1 hc hT0 hR0 hB0 hV0 hn2
  go_wp2_with fail
  refine hc2.mono ?_
  rintro e W2 ⟨hk2, rfl, hR2⟩
  have hT2 := HT0.out.go hk2
  have hV2 := HV0.out.kept hk2 (by have := H2.out.hA; omega)
  have z2 := hV2.lt
  clear c0 c1 hk2 hc2
  obtain ⟨⟨v0, v1, v2, v3⟩, g0, g1, g2, g3⟩ := hV2.facts
  have hT3 := hT2.past ⟨W1.heap.size, 1, none⟩ z1 (.int .i64 n)
  have hR3 := hR2.past ⟨W1.heap.size, 1, none⟩ (by have := H.out.lts; show Sb ≠ W1.heap.size; omega) (by have := H.out.lt; show Ab ≠ W1.heap.size; omega) (by have := H.out.b0.size; show _ ≤ W1.heap.size; omega) (.int .i64 n)
  have hV3 := hV2.set1 n
  have hr := right_flat 1 n (by decide) ⟨#[]⟩ (by decide) none 0 0 _ hR3.tabs
  rw [HF.out] at hr
  have HT := Lib.hid hT3
  have HV := Lib.hid hV3
  have HR1 := Lib.hid hR3
  clear hT2 hR2 hV2 hT3 hR3 hV3
  go_wp2_with fail
  refine hr.mono ?_
  rintro e W3 ⟨rfl, hB3⟩
  have hT4 := HT.out.below hB3
  have hR4 := HR1.out.below hB3
  have hV4 := HV.out.below hB3
  clear v0 v1 v2 v3 g0 g1 g2 g3 HT HR1 HV
  obtain ⟨⟨c0, c1, c2, c3⟩, f0, f1, f2, f3⟩ := hT4.out.facts
  obtain ⟨⟨v0, v1, v2, v3⟩, g0, g1, g2, g3⟩ := hV4.facts
  rw [Nat.add_assoc] at hR4
  have HT := Lib.hid hT4
  have HR1 := Lib.hid hR4
  clear hT4 hR4 hV4 hB3 hr
  go_wp2_with fail
  obtain ⟨hV, hK⟩ := HT.out.fin 1 n ⟨#[]⟩ (.slice none 0 0)
  have hR := HR1.out.fin H.out 1 n ⟨#[]⟩ (.slice none 0 0)
  unfold putBox at hV hK hR
  generalize ((((W3.setCell ⟨W.heap.size + 1, 0, none⟩ (.int .i64 1)).setCell ⟨W.heap.size + 1, 1, none⟩ (.int .i64 n)).setCell ⟨W.heap.size + 1, 2, none⟩ (.string ⟨#[]⟩)).setCell ⟨W.heap.size + 1, 3, none⟩ (.slice none 0 0)) = W9 at hV hK hR ⊢
  obtain ⟨⟨e0, e1, e2, e3⟩, _⟩ := hV.facts
  exact bodyPost_ret (v := .tuple #[valV 1 n ⟨#[]⟩ (.slice none 0 0), .int .i64 0]) (by simp [results, Tryz.results56, go_sem, e0, e1, e2, e3]) rfl ⟨hK, hR, ⟨1, n, ⟨#[]⟩, none, 0, 0⟩, rfl, vat_nil 1 _ (flat_fine HF.out) rfl⟩

set_option maxHeartbeats 4000000 in
set_option maxRecDepth 100000 in
theorem value_num_false (b : Bool) (w0 : World) (ea : Addr) (s : ByteArray) (Sb Ab p : Nat) (W : World) (h : Rd w0 ea s Sb Ab p W) (n : Int) (hn : numL (s.data.toList.drop p) = some 1) (hn2 : numL (s.data.toList.drop (p + (Wire.num 1).length)) = some n) (hf : flatOk 1 n ⟨#[]⟩ 0 = false) :
    Calls Tryz.prog 56 #[rdr Sb Ab, .bool b] W (valPost (.error 30) w0 ea s Sb Ab p W) := by
  have HF := Lib.hid hf
  clear hf
  have hlt := h.lt
  have h2 := Two.new (W0 := W) (Sb := Sb) (Ab := Ab) hlt
  have hc := decNum w0 ea s Sb Ab p _ (h.below (below_two (.cells #[numFn Sb Ab, textFn Sb Ab] 77) (.cells #[.int .i64 0, .int .i64 0, .string ⟨#[]⟩, .slice none 0 0] 30)))
  unfold decNumPost at hc
  rw [hn] at hc
  have H := Lib.hid h
  have H2 := Lib.hid h2
  clear h h2 hn
  go_enter Tryz.func56, Tryz.ntmps56
  go_wp2_with fail
  refine hc.mono ?_
  rintro e W1 ⟨hk1, rfl, hR1⟩
  have hT := H2.out.go hk1
  have z1 : W.heap.size + 2 ≤ W1.heap.size := by have := hT.out.lt; omega
  have hV0 : VBox (W1.alloc (.cells #[.int .i64 1, .int .i64 0, .string ⟨#[]⟩, .slice none 0 0] 30)) W1.heap.size 1 0 ⟨#[]⟩ (.slice none 0 0) := VBox.new W1 _ _ _ _
  have hB0 : Below W1.heap.size W1 (W1.alloc (.cells #[.int .i64 1, .int .i64 0, .string ⟨#[]⟩, .slice none 0 0] 30)) := (Below.refl _ _).alloc (Nat.le_refl _) _
  have hT0 := hT.below hB0
  have hR0 := hR1.below hB0
  have hc2 := decNum w0 ea s Sb Ab (p + (Wire.num 1).length) _ hR0
  unfold decNumPost at hc2
  rw [hn2] at hc2
  obtain ⟨c0, c1⟩ := hT0.cells
  have HT0 := Lib.hid hT0
  have HV0 := Lib.hid hV0
  clear hT hk1 hR1 hc hT0 hR0 hB0 hV0 hn2
  go_wp2_with fail
  refine hc2.mono ?_
  rintro e W2 ⟨hk2, rfl, hR2⟩
  have hT2 := HT0.out.go hk2
  have hV2 := HV0.out.kept hk2 (by have := H2.out.hA; omega)
  have z2 := hV2.lt
  clear c0 c1 hk2 hc2
  obtain ⟨⟨v0, v1, v2, v3⟩, g0, g1, g2, g3⟩ := hV2.facts
  have hT3 := hT2.past ⟨W1.heap.size, 1, none⟩ z1 (.int .i64 n)
  have hR3 := hR2.past ⟨W1.heap.size, 1, none⟩ (by have := H.out.lts; show Sb ≠ W1.heap.size; omega) (by have := H.out.lt; show Ab ≠ W1.heap.size; omega) (by have := H.out.b0.size; show _ ≤ W1.heap.size; omega) (.int .i64 n)
  have hV3 := hV2.set1 n
  have hr := right_flat 1 n (by decide) ⟨#[]⟩ (by decide) none 0 0 _ hR3.tabs
  rw [HF.out] at hr
  have HT := Lib.hid hT3
  have HV := Lib.hid hV3
  have HR1 := Lib.hid hR3
  clear hT2 hR2 hV2 hT3 hR3 hV3
  go_wp2_with fail
  refine hr.mono ?_
  rintro e W3 ⟨rfl, hB3⟩
  have hT4 := HT.out.below hB3
  have hR4 := HR1.out.below hB3
  have hV4 := HV.out.below hB3
  clear v0 v1 v2 v3 g0 g1 g2 g3 HT HR1 HV
  obtain ⟨⟨c0, c1, c2, c3⟩, f0, f1, f2, f3⟩ := hT4.out.facts
  obtain ⟨⟨v0, v1, v2, v3⟩, g0, g1, g2, g3⟩ := hV4.facts
  rw [Nat.add_assoc] at hR4
  have HT := Lib.hid hT4
  have HR1 := Lib.hid hR4
  clear hT4 hR4 hV4 hB3 hr
  go_wp2_with fail
  obtain ⟨hV, hK⟩ := HT.out.fin 0 0 ⟨#[]⟩ (.slice none 0 0)
  have hR := HR1.out.fin H.out 0 0 ⟨#[]⟩ (.slice none 0 0)
  unfold putBox at hV hK hR
  generalize ((((W3.setCell ⟨W.heap.size + 1, 0, none⟩ (.int .i64 0)).setCell ⟨W.heap.size + 1, 1, none⟩ (.int .i64 0)).setCell ⟨W.heap.size + 1, 2, none⟩ (.string ⟨#[]⟩)).setCell ⟨W.heap.size + 1, 3, none⟩ (.slice none 0 0)) = W9 at hV hK hR ⊢
  obtain ⟨⟨e0, e1, e2, e3⟩, _⟩ := hV.facts
  exact bodyPost_ret (v := .tuple #[valV 0 0 ⟨#[]⟩ (.slice none 0 0), .int .i64 30]) (by simp [results, Tryz.results56, go_sem, e0, e1, e2, e3]) rfl ⟨hK, rfl, _, hR⟩

set_option maxHeartbeats 4000000 in
set_option maxRecDepth 100000 in
theorem value_ref_none (b : Bool) (w0 : World) (ea : Addr) (s : ByteArray) (Sb Ab p : Nat) (W : World) (h : Rd w0 ea s Sb Ab p W) (hn : numL (s.data.toList.drop p) = some 3) (hn2 : numL (s.data.toList.drop (p + (Wire.num 3).length)) = none) :
    Calls Tryz.prog 56 #[rdr Sb Ab, .bool b] W (valPost (.error 10) w0 ea s Sb Ab p W) := by
  have hlt := h.lt
  have h2 := Two.new (W0 := W) (Sb := Sb) (Ab := Ab) hlt
  have hc := decNum w0 ea s Sb Ab p _ (h.below (below_two (.cells #[numFn Sb Ab, textFn Sb Ab] 77) (.cells #[.int .i64 0, .int .i64 0, .string ⟨#[]⟩, .slice none 0 0] 30)))
  unfold decNumPost at hc
  rw [hn] at hc
  have H := Lib.hid h
  have H2 := Lib.hid h2
  clear h h2 hn
  go_enter Tryz.func56, Tryz.ntmps56
  go_wp2_with fail
  refine hc.mono ?_
  rintro e W1 ⟨hk1, rfl, hR1⟩
  have hT := H2.out.go hk1
  have z1 : W.heap.size + 2 ≤ W1.heap.size := by have := hT.out.lt; omega
  have hV0 : VBox (W1.alloc (.cells #[.int .i64 3, .int .i64 0, .string ⟨#[]⟩, .slice none 0 0] 30)) W1.heap.size 3 0 ⟨#[]⟩ (.slice none 0 0) := VBox.new W1 _ _ _ _
  have hB0 : Below W1.heap.size W1 (W1.alloc (.cells #[.int .i64 3, .int .i64 0, .string ⟨#[]⟩, .slice none 0 0] 30)) := (Below.refl _ _).alloc (Nat.le_refl _) _
  have hT0 := hT.below hB0
  have hR0 := hR1.below hB0
  have hc2 := decNum w0 ea s Sb Ab (p + (Wire.num 3).length) _ hR0
  unfold decNumPost at hc2
  rw [hn2] at hc2
  obtain ⟨c0, c1⟩ := hT0.cells
  have HT0 := Lib.hid hT0
  have HV0 := Lib.hid hV0
  clear hT hk1 hR1 hc hT0 hR0 hB0 hV0 hn2
  go_wp2_with fail
  refine hc2.mono ?_
  rintro e W2 ⟨hk2, rfl, hR2⟩
  have hT2 := HT0.out.go hk2
  have hV2 := HV0.out.kept hk2 (by have := H2.out.hA; omega)
  have z2 := hV2.lt
  clear c0 c1 hk2 hc2
  obtain ⟨⟨v0, v1, v2, v3⟩, g0, g1, g2, g3⟩ := hV2.facts
  have hT3 := hT2.past ⟨W1.heap.size, 1, none⟩ z1 (.int .i64 0)
  have hR3 := hR2.past ⟨W1.heap.size, 1, none⟩ (by have := H.out.lts; show Sb ≠ W1.heap.size; omega) (by have := H.out.lt; show Ab ≠ W1.heap.size; omega) (by have := H.out.b0.size; show _ ≤ W1.heap.size; omega) (.int .i64 0)
  obtain ⟨⟨c0, c1, c2, c3⟩, f0, f1, f2, f3⟩ := hT3.out.facts
  have HT := Lib.hid hT3
  have HR1 := Lib.hid hR3
  clear hT2 hR2 hV2 hT3 hR3
  go_wp2_with fail
  obtain ⟨hV, hK⟩ := HT.out.fin 0 0 ⟨#[]⟩ (.slice none 0 0)
  have hR := HR1.out.fin H.out 0 0 ⟨#[]⟩ (.slice none 0 0)
  unfold putBox at hV hK hR
  generalize (((((W2.setCell ⟨W1.heap.size, 1, none⟩ (.int .i64 0)).setCell ⟨W.heap.size + 1, 0, none⟩ (.int .i64 0)).setCell ⟨W.heap.size + 1, 1, none⟩ (.int .i64 0)).setCell ⟨W.heap.size + 1, 2, none⟩ (.string ⟨#[]⟩)).setCell ⟨W.heap.size + 1, 3, none⟩ (.slice none 0 0)) = W9 at hV hK hR ⊢
  obtain ⟨⟨e0, e1, e2, e3⟩, _⟩ := hV.facts
  exact bodyPost_ret (v := .tuple #[valV 0 0 ⟨#[]⟩ (.slice none 0 0), .int .i64 10]) (by simp [results, Tryz.results56, go_sem, e0, e1, e2, e3]) rfl ⟨hK, rfl, _, hR⟩

set_option maxHeartbeats 4000000 in
set_option maxRecDepth 100000 in
theorem value_ref_true (b : Bool) (w0 : World) (ea : Addr) (s : ByteArray) (Sb Ab p : Nat) (W : World) (h : Rd w0 ea s Sb Ab p W) (n : Int) (hn : numL (s.data.toList.drop p) = some 3) (hn2 : numL (s.data.toList.drop (p + (Wire.num 3).length)) = some n) (hf : flatOk 3 n ⟨#[]⟩ 0 = true) :
    Calls Tryz.prog 56 #[rdr Sb Ab, .bool b] W (valPost (.ok (.mk 3 n ⟨#[]⟩ [], (Wire.num 3).length + (Wire.num n).length)) w0 ea s Sb Ab p W) := by
  have HF := Lib.hid hf
  clear hf
  have hlt := h.lt
  have h2 := Two.new (W0 := W) (Sb := Sb) (Ab := Ab) hlt
  have hc := decNum w0 ea s Sb Ab p _ (h.below (below_two (.cells #[numFn Sb Ab, textFn Sb Ab] 77) (.cells #[.int .i64 0, .int .i64 0, .string ⟨#[]⟩, .slice none 0 0] 30)))
  unfold decNumPost at hc
  rw [hn] at hc
  have H := Lib.hid h
  have H2 := Lib.hid h2
  clear h h2 hn
  go_enter Tryz.func56, Tryz.ntmps56
  go_wp2_with fail
  refine hc.mono ?_
  rintro e W1 ⟨hk1, rfl, hR1⟩
  have hT := H2.out.go hk1
  have z1 : W.heap.size + 2 ≤ W1.heap.size := by have := hT.out.lt; omega
  have hV0 : VBox (W1.alloc (.cells #[.int .i64 3, .int .i64 0, .string ⟨#[]⟩, .slice none 0 0] 30)) W1.heap.size 3 0 ⟨#[]⟩ (.slice none 0 0) := VBox.new W1 _ _ _ _
  have hB0 : Below W1.heap.size W1 (W1.alloc (.cells #[.int .i64 3, .int .i64 0, .string ⟨#[]⟩, .slice none 0 0] 30)) := (Below.refl _ _).alloc (Nat.le_refl _) _
  have hT0 := hT.below hB0
  have hR0 := hR1.below hB0
  have hc2 := decNum w0 ea s Sb Ab (p + (Wire.num 3).length) _ hR0
  unfold decNumPost at hc2
  rw [hn2] at hc2
  obtain ⟨c0, c1⟩ := hT0.cells
  have HT0 := Lib.hid hT0
  have HV0 := Lib.hid hV0
  clear hT hk1 hR1 hc hT0 hR0 hB0 hV0 hn2
  go_wp2_with fail
  refine hc2.mono ?_
  rintro e W2 ⟨hk2, rfl, hR2⟩
  have hT2 := HT0.out.go hk2
  have hV2 := HV0.out.kept hk2 (by have := H2.out.hA; omega)
  have z2 := hV2.lt
  clear c0 c1 hk2 hc2
  obtain ⟨⟨v0, v1, v2, v3⟩, g0, g1, g2, g3⟩ := hV2.facts
  have hT3 := hT2.past ⟨W1.heap.size, 1, none⟩ z1 (.int .i64 n)
  have hR3 := hR2.past ⟨W1.heap.size, 1, none⟩ (by have := H.out.lts; show Sb ≠ W1.heap.size; omega) (by have := H.out.lt; show Ab ≠ W1.heap.size; omega) (by have := H.out.b0.size; show _ ≤ W1.heap.size; omega) (.int .i64 n)
  have hV3 := hV2.set1 n
  have hr := right_flat 3 n (by decide) ⟨#[]⟩ (by decide) none 0 0 _ hR3.tabs
  rw [HF.out] at hr
  have HT := Lib.hid hT3
  have HV := Lib.hid hV3
  have HR1 := Lib.hid hR3
  clear hT2 hR2 hV2 hT3 hR3 hV3
  go_wp2_with fail
  refine hr.mono ?_
  rintro e W3 ⟨rfl, hB3⟩
  have hT4 := HT.out.below hB3
  have hR4 := HR1.out.below hB3
  have hV4 := HV.out.below hB3
  clear v0 v1 v2 v3 g0 g1 g2 g3 HT HR1 HV
  obtain ⟨⟨c0, c1, c2, c3⟩, f0, f1, f2, f3⟩ := hT4.out.facts
  obtain ⟨⟨v0, v1, v2, v3⟩, g0, g1, g2, g3⟩ := hV4.facts
  rw [Nat.add_assoc] at hR4
  have HT := Lib.hid hT4
  have HR1 := Lib.hid hR4
  clear hT4 hR4 hV4 hB3 hr
  go_wp2_with fail
  obtain ⟨hV, hK⟩ := HT.out.fin 3 n ⟨#[]⟩ (.slice none 0 0)
  have hR := HR1.out.fin H.out 3 n ⟨#[]⟩ (.slice none 0 0)
  unfold putBox at hV hK hR
  generalize ((((W3.setCell ⟨W.heap.size + 1, 0, none⟩ (.int .i64 3)).setCell ⟨W.heap.size + 1, 1, none⟩ (.int .i64 n)).setCell ⟨W.heap.size + 1, 2, none⟩ (.string ⟨#[]⟩)).setCell ⟨W.heap.size + 1, 3, none⟩ (.slice none 0 0)) = W9 at hV hK hR ⊢
  obtain ⟨⟨e0, e1, e2, e3⟩, _⟩ := hV.facts
  exact bodyPost_ret (v := .tuple #[valV 3 n ⟨#[]⟩ (.slice none 0 0), .int .i64 0]) (by simp [results, Tryz.results56, go_sem, e0, e1, e2, e3]) rfl ⟨hK, hR, ⟨3, n, ⟨#[]⟩, none, 0, 0⟩, rfl, vat_nil 1 _ (flat_fine HF.out) rfl⟩

set_option maxHeartbeats 4000000 in
set_option maxRecDepth 100000 in
theorem value_ref_false (b : Bool) (w0 : World) (ea : Addr) (s : ByteArray) (Sb Ab p : Nat) (W : World) (h : Rd w0 ea s Sb Ab p W) (n : Int) (hn : numL (s.data.toList.drop p) = some 3) (hn2 : numL (s.data.toList.drop (p + (Wire.num 3).length)) = some n) (hf : flatOk 3 n ⟨#[]⟩ 0 = false) :
    Calls Tryz.prog 56 #[rdr Sb Ab, .bool b] W (valPost (.error 30) w0 ea s Sb Ab p W) := by
  have HF := Lib.hid hf
  clear hf
  have hlt := h.lt
  have h2 := Two.new (W0 := W) (Sb := Sb) (Ab := Ab) hlt
  have hc := decNum w0 ea s Sb Ab p _ (h.below (below_two (.cells #[numFn Sb Ab, textFn Sb Ab] 77) (.cells #[.int .i64 0, .int .i64 0, .string ⟨#[]⟩, .slice none 0 0] 30)))
  unfold decNumPost at hc
  rw [hn] at hc
  have H := Lib.hid h
  have H2 := Lib.hid h2
  clear h h2 hn
  go_enter Tryz.func56, Tryz.ntmps56
  go_wp2_with fail
  refine hc.mono ?_
  rintro e W1 ⟨hk1, rfl, hR1⟩
  have hT := H2.out.go hk1
  have z1 : W.heap.size + 2 ≤ W1.heap.size := by have := hT.out.lt; omega
  have hV0 : VBox (W1.alloc (.cells #[.int .i64 3, .int .i64 0, .string ⟨#[]⟩, .slice none 0 0] 30)) W1.heap.size 3 0 ⟨#[]⟩ (.slice none 0 0) := VBox.new W1 _ _ _ _
  have hB0 : Below W1.heap.size W1 (W1.alloc (.cells #[.int .i64 3, .int .i64 0, .string ⟨#[]⟩, .slice none 0 0] 30)) := (Below.refl _ _).alloc (Nat.le_refl _) _
  have hT0 := hT.below hB0
  have hR0 := hR1.below hB0
  have hc2 := decNum w0 ea s Sb Ab (p + (Wire.num 3).length) _ hR0
  unfold decNumPost at hc2
  rw [hn2] at hc2
  obtain ⟨c0, c1⟩ := hT0.cells
  have HT0 := Lib.hid hT0
  have HV0 := Lib.hid hV0
  clear hT hk1 hR1 hc hT0 hR0 hB0 hV0 hn2
  go_wp2_with fail
  refine hc2.mono ?_
  rintro e W2 ⟨hk2, rfl, hR2⟩
  have hT2 := HT0.out.go hk2
  have hV2 := HV0.out.kept hk2 (by have := H2.out.hA; omega)
  have z2 := hV2.lt
  clear c0 c1 hk2 hc2
  obtain ⟨⟨v0, v1, v2, v3⟩, g0, g1, g2, g3⟩ := hV2.facts
  have hT3 := hT2.past ⟨W1.heap.size, 1, none⟩ z1 (.int .i64 n)
  have hR3 := hR2.past ⟨W1.heap.size, 1, none⟩ (by have := H.out.lts; show Sb ≠ W1.heap.size; omega) (by have := H.out.lt; show Ab ≠ W1.heap.size; omega) (by have := H.out.b0.size; show _ ≤ W1.heap.size; omega) (.int .i64 n)
  have hV3 := hV2.set1 n
  have hr := right_flat 3 n (by decide) ⟨#[]⟩ (by decide) none 0 0 _ hR3.tabs
  rw [HF.out] at hr
  have HT := Lib.hid hT3
  have HV := Lib.hid hV3
  have HR1 := Lib.hid hR3
  clear hT2 hR2 hV2 hT3 hR3 hV3
  go_wp2_with fail
  refine hr.mono ?_
  rintro e W3 ⟨rfl, hB3⟩
  have hT4 := HT.out.below hB3
  have hR4 := HR1.out.below hB3
  have hV4 := HV.out.below hB3
  clear v0 v1 v2 v3 g0 g1 g2 g3 HT HR1 HV
  obtain ⟨⟨c0, c1, c2, c3⟩, f0, f1, f2, f3⟩ := hT4.out.facts
  obtain ⟨⟨v0, v1, v2, v3⟩, g0, g1, g2, g3⟩ := hV4.facts
  rw [Nat.add_assoc] at hR4
  have HT := Lib.hid hT4
  have HR1 := Lib.hid hR4
  clear hT4 hR4 hV4 hB3 hr
  go_wp2_with fail
  obtain ⟨hV, hK⟩ := HT.out.fin 0 0 ⟨#[]⟩ (.slice none 0 0)
  have hR := HR1.out.fin H.out 0 0 ⟨#[]⟩ (.slice none 0 0)
  unfold putBox at hV hK hR
  generalize ((((W3.setCell ⟨W.heap.size + 1, 0, none⟩ (.int .i64 0)).setCell ⟨W.heap.size + 1, 1, none⟩ (.int .i64 0)).setCell ⟨W.heap.size + 1, 2, none⟩ (.string ⟨#[]⟩)).setCell ⟨W.heap.size + 1, 3, none⟩ (.slice none 0 0)) = W9 at hV hK hR ⊢
  obtain ⟨⟨e0, e1, e2, e3⟩, _⟩ := hV.facts
  exact bodyPost_ret (v := .tuple #[valV 0 0 ⟨#[]⟩ (.slice none 0 0), .int .i64 30]) (by simp [results, Tryz.results56, go_sem, e0, e1, e2, e3]) rfl ⟨hK, rfl, _, hR⟩

set_option maxHeartbeats 4000000 in
set_option maxRecDepth 100000 in
theorem value_weak_none (b : Bool) (w0 : World) (ea : Addr) (s : ByteArray) (Sb Ab p : Nat) (W : World) (h : Rd w0 ea s Sb Ab p W) (hn : numL (s.data.toList.drop p) = some 4) (hn2 : numL (s.data.toList.drop (p + (Wire.num 4).length)) = none) :
    Calls Tryz.prog 56 #[rdr Sb Ab, .bool b] W (valPost (.error 10) w0 ea s Sb Ab p W) := by
  have hlt := h.lt
  have h2 := Two.new (W0 := W) (Sb := Sb) (Ab := Ab) hlt
  have hc := decNum w0 ea s Sb Ab p _ (h.below (below_two (.cells #[numFn Sb Ab, textFn Sb Ab] 77) (.cells #[.int .i64 0, .int .i64 0, .string ⟨#[]⟩, .slice none 0 0] 30)))
  unfold decNumPost at hc
  rw [hn] at hc
  have H := Lib.hid h
  have H2 := Lib.hid h2
  clear h h2 hn
  go_enter Tryz.func56, Tryz.ntmps56
  go_wp2_with fail
  refine hc.mono ?_
  rintro e W1 ⟨hk1, rfl, hR1⟩
  have hT := H2.out.go hk1
  have z1 : W.heap.size + 2 ≤ W1.heap.size := by have := hT.out.lt; omega
  have hV0 : VBox (W1.alloc (.cells #[.int .i64 4, .int .i64 0, .string ⟨#[]⟩, .slice none 0 0] 30)) W1.heap.size 4 0 ⟨#[]⟩ (.slice none 0 0) := VBox.new W1 _ _ _ _
  have hB0 : Below W1.heap.size W1 (W1.alloc (.cells #[.int .i64 4, .int .i64 0, .string ⟨#[]⟩, .slice none 0 0] 30)) := (Below.refl _ _).alloc (Nat.le_refl _) _
  have hT0 := hT.below hB0
  have hR0 := hR1.below hB0
  have hc2 := decNum w0 ea s Sb Ab (p + (Wire.num 4).length) _ hR0
  unfold decNumPost at hc2
  rw [hn2] at hc2
  obtain ⟨c0, c1⟩ := hT0.cells
  have HT0 := Lib.hid hT0
  have HV0 := Lib.hid hV0
  clear hT hk1 hR1 hc hT0 hR0 hB0 hV0 hn2
  go_wp2_with fail
  refine hc2.mono ?_
  rintro e W2 ⟨hk2, rfl, hR2⟩
  have hT2 := HT0.out.go hk2
  have hV2 := HV0.out.kept hk2 (by have := H2.out.hA; omega)
  have z2 := hV2.lt
  clear c0 c1 hk2 hc2
  obtain ⟨⟨v0, v1, v2, v3⟩, g0, g1, g2, g3⟩ := hV2.facts
  have hT3 := hT2.past ⟨W1.heap.size, 1, none⟩ z1 (.int .i64 0)
  have hR3 := hR2.past ⟨W1.heap.size, 1, none⟩ (by have := H.out.lts; show Sb ≠ W1.heap.size; omega) (by have := H.out.lt; show Ab ≠ W1.heap.size; omega) (by have := H.out.b0.size; show _ ≤ W1.heap.size; omega) (.int .i64 0)
  obtain ⟨⟨c0, c1, c2, c3⟩, f0, f1, f2, f3⟩ := hT3.out.facts
  have HT := Lib.hid hT3
  have HR1 := Lib.hid hR3
  clear hT2 hR2 hV2 hT3 hR3
  go_wp2_with fail
  obtain ⟨hV, hK⟩ := HT.out.fin 0 0 ⟨#[]⟩ (.slice none 0 0)
  have hR := HR1.out.fin H.out 0 0 ⟨#[]⟩ (.slice none 0 0)
  unfold putBox at hV hK hR
  generalize (((((W2.setCell ⟨W1.heap.size, 1, none⟩ (.int .i64 0)).setCell ⟨W.heap.size + 1, 0, none⟩ (.int .i64 0)).setCell ⟨W.heap.size + 1, 1, none⟩ (.int .i64 0)).setCell ⟨W.heap.size + 1, 2, none⟩ (.string ⟨#[]⟩)).setCell ⟨W.heap.size + 1, 3, none⟩ (.slice none 0 0)) = W9 at hV hK hR ⊢
  obtain ⟨⟨e0, e1, e2, e3⟩, _⟩ := hV.facts
  exact bodyPost_ret (v := .tuple #[valV 0 0 ⟨#[]⟩ (.slice none 0 0), .int .i64 10]) (by simp [results, Tryz.results56, go_sem, e0, e1, e2, e3]) rfl ⟨hK, rfl, _, hR⟩

set_option maxHeartbeats 4000000 in
set_option maxRecDepth 100000 in
theorem value_weak_true (b : Bool) (w0 : World) (ea : Addr) (s : ByteArray) (Sb Ab p : Nat) (W : World) (h : Rd w0 ea s Sb Ab p W) (n : Int) (hn : numL (s.data.toList.drop p) = some 4) (hn2 : numL (s.data.toList.drop (p + (Wire.num 4).length)) = some n) (hf : flatOk 4 n ⟨#[]⟩ 0 = true) :
    Calls Tryz.prog 56 #[rdr Sb Ab, .bool b] W (valPost (.ok (.mk 4 n ⟨#[]⟩ [], (Wire.num 4).length + (Wire.num n).length)) w0 ea s Sb Ab p W) := by
  have HF := Lib.hid hf
  clear hf
  have hlt := h.lt
  have h2 := Two.new (W0 := W) (Sb := Sb) (Ab := Ab) hlt
  have hc := decNum w0 ea s Sb Ab p _ (h.below (below_two (.cells #[numFn Sb Ab, textFn Sb Ab] 77) (.cells #[.int .i64 0, .int .i64 0, .string ⟨#[]⟩, .slice none 0 0] 30)))
  unfold decNumPost at hc
  rw [hn] at hc
  have H := Lib.hid h
  have H2 := Lib.hid h2
  clear h h2 hn
  go_enter Tryz.func56, Tryz.ntmps56
  go_wp2_with fail
  refine hc.mono ?_
  rintro e W1 ⟨hk1, rfl, hR1⟩
  have hT := H2.out.go hk1
  have z1 : W.heap.size + 2 ≤ W1.heap.size := by have := hT.out.lt; omega
  have hV0 : VBox (W1.alloc (.cells #[.int .i64 4, .int .i64 0, .string ⟨#[]⟩, .slice none 0 0] 30)) W1.heap.size 4 0 ⟨#[]⟩ (.slice none 0 0) := VBox.new W1 _ _ _ _
  have hB0 : Below W1.heap.size W1 (W1.alloc (.cells #[.int .i64 4, .int .i64 0, .string ⟨#[]⟩, .slice none 0 0] 30)) := (Below.refl _ _).alloc (Nat.le_refl _) _
  have hT0 := hT.below hB0
  have hR0 := hR1.below hB0
  have hc2 := decNum w0 ea s Sb Ab (p + (Wire.num 4).length) _ hR0
  unfold decNumPost at hc2
  rw [hn2] at hc2
  obtain ⟨c0, c1⟩ := hT0.cells
  have HT0 := Lib.hid hT0
  have HV0 := Lib.hid hV0
  clear hT hk1 hR1 hc hT0 hR0 hB0 hV0 hn2
  go_wp2_with fail
  refine hc2.mono ?_
  rintro e W2 ⟨hk2, rfl, hR2⟩
  have hT2 := HT0.out.go hk2
  have hV2 := HV0.out.kept hk2 (by have := H2.out.hA; omega)
  have z2 := hV2.lt
  clear c0 c1 hk2 hc2
  obtain ⟨⟨v0, v1, v2, v3⟩, g0, g1, g2, g3⟩ := hV2.facts
  have hT3 := hT2.past ⟨W1.heap.size, 1, none⟩ z1 (.int .i64 n)
  have hR3 := hR2.past ⟨W1.heap.size, 1, none⟩ (by have := H.out.lts; show Sb ≠ W1.heap.size; omega) (by have := H.out.lt; show Ab ≠ W1.heap.size; omega) (by have := H.out.b0.size; show _ ≤ W1.heap.size; omega) (.int .i64 n)
  have hV3 := hV2.set1 n
  have hr := right_flat 4 n (by decide) ⟨#[]⟩ (by decide) none 0 0 _ hR3.tabs
  rw [HF.out] at hr
  have HT := Lib.hid hT3
  have HV := Lib.hid hV3
  have HR1 := Lib.hid hR3
  clear hT2 hR2 hV2 hT3 hR3 hV3
  go_wp2_with fail
  refine hr.mono ?_
  rintro e W3 ⟨rfl, hB3⟩
  have hT4 := HT.out.below hB3
  have hR4 := HR1.out.below hB3
  have hV4 := HV.out.below hB3
  clear v0 v1 v2 v3 g0 g1 g2 g3 HT HR1 HV
  obtain ⟨⟨c0, c1, c2, c3⟩, f0, f1, f2, f3⟩ := hT4.out.facts
  obtain ⟨⟨v0, v1, v2, v3⟩, g0, g1, g2, g3⟩ := hV4.facts
  rw [Nat.add_assoc] at hR4
  have HT := Lib.hid hT4
  have HR1 := Lib.hid hR4
  clear hT4 hR4 hV4 hB3 hr
  go_wp2_with fail
  obtain ⟨hV, hK⟩ := HT.out.fin 4 n ⟨#[]⟩ (.slice none 0 0)
  have hR := HR1.out.fin H.out 4 n ⟨#[]⟩ (.slice none 0 0)
  unfold putBox at hV hK hR
  generalize ((((W3.setCell ⟨W.heap.size + 1, 0, none⟩ (.int .i64 4)).setCell ⟨W.heap.size + 1, 1, none⟩ (.int .i64 n)).setCell ⟨W.heap.size + 1, 2, none⟩ (.string ⟨#[]⟩)).setCell ⟨W.heap.size + 1, 3, none⟩ (.slice none 0 0)) = W9 at hV hK hR ⊢
  obtain ⟨⟨e0, e1, e2, e3⟩, _⟩ := hV.facts
  exact bodyPost_ret (v := .tuple #[valV 4 n ⟨#[]⟩ (.slice none 0 0), .int .i64 0]) (by simp [results, Tryz.results56, go_sem, e0, e1, e2, e3]) rfl ⟨hK, hR, ⟨4, n, ⟨#[]⟩, none, 0, 0⟩, rfl, vat_nil 1 _ (flat_fine HF.out) rfl⟩

set_option maxHeartbeats 4000000 in
set_option maxRecDepth 100000 in
theorem value_weak_false (b : Bool) (w0 : World) (ea : Addr) (s : ByteArray) (Sb Ab p : Nat) (W : World) (h : Rd w0 ea s Sb Ab p W) (n : Int) (hn : numL (s.data.toList.drop p) = some 4) (hn2 : numL (s.data.toList.drop (p + (Wire.num 4).length)) = some n) (hf : flatOk 4 n ⟨#[]⟩ 0 = false) :
    Calls Tryz.prog 56 #[rdr Sb Ab, .bool b] W (valPost (.error 30) w0 ea s Sb Ab p W) := by
  have HF := Lib.hid hf
  clear hf
  have hlt := h.lt
  have h2 := Two.new (W0 := W) (Sb := Sb) (Ab := Ab) hlt
  have hc := decNum w0 ea s Sb Ab p _ (h.below (below_two (.cells #[numFn Sb Ab, textFn Sb Ab] 77) (.cells #[.int .i64 0, .int .i64 0, .string ⟨#[]⟩, .slice none 0 0] 30)))
  unfold decNumPost at hc
  rw [hn] at hc
  have H := Lib.hid h
  have H2 := Lib.hid h2
  clear h h2 hn
  go_enter Tryz.func56, Tryz.ntmps56
  go_wp2_with fail
  refine hc.mono ?_
  rintro e W1 ⟨hk1, rfl, hR1⟩
  have hT := H2.out.go hk1
  have z1 : W.heap.size + 2 ≤ W1.heap.size := by have := hT.out.lt; omega
  have hV0 : VBox (W1.alloc (.cells #[.int .i64 4, .int .i64 0, .string ⟨#[]⟩, .slice none 0 0] 30)) W1.heap.size 4 0 ⟨#[]⟩ (.slice none 0 0) := VBox.new W1 _ _ _ _
  have hB0 : Below W1.heap.size W1 (W1.alloc (.cells #[.int .i64 4, .int .i64 0, .string ⟨#[]⟩, .slice none 0 0] 30)) := (Below.refl _ _).alloc (Nat.le_refl _) _
  have hT0 := hT.below hB0
  have hR0 := hR1.below hB0
  have hc2 := decNum w0 ea s Sb Ab (p + (Wire.num 4).length) _ hR0
  unfold decNumPost at hc2
  rw [hn2] at hc2
  obtain ⟨c0, c1⟩ := hT0.cells
  have HT0 := Lib.hid hT0
  have HV0 := Lib.hid hV0
  clear hT hk1 hR1 hc hT0 hR0 hB0 hV0 hn2
  go_wp2_with fail
  refine hc2.mono ?_
  rintro e W2 ⟨hk2, rfl, hR2⟩
  have hT2 := HT0.out.go hk2
  have hV2 := HV0.out.kept hk2 (by have := H2.out.hA; omega)
  have z2 := hV2.lt
  clear c0 c1 hk2 hc2
  obtain ⟨⟨v0, v1, v2, v3⟩, g0, g1, g2, g3⟩ := hV2.facts
  have hT3 := hT2.past ⟨W1.heap.size, 1, none⟩ z1 (.int .i64 n)
  have hR3 := hR2.past ⟨W1.heap.size, 1, none⟩ (by have := H.out.lts; show Sb ≠ W1.heap.size; omega) (by have := H.out.lt; show Ab ≠ W1.heap.size; omega) (by have := H.out.b0.size; show _ ≤ W1.heap.size; omega) (.int .i64 n)
  have hV3 := hV2.set1 n
  have hr := right_flat 4 n (by decide) ⟨#[]⟩ (by decide) none 0 0 _ hR3.tabs
  rw [HF.out] at hr
  have HT := Lib.hid hT3
  have HV := Lib.hid hV3
  have HR1 := Lib.hid hR3
  clear hT2 hR2 hV2 hT3 hR3 hV3
  go_wp2_with fail
  refine hr.mono ?_
  rintro e W3 ⟨rfl, hB3⟩
  have hT4 := HT.out.below hB3
  have hR4 := HR1.out.below hB3
  have hV4 := HV.out.below hB3
  clear v0 v1 v2 v3 g0 g1 g2 g3 HT HR1 HV
  obtain ⟨⟨c0, c1, c2, c3⟩, f0, f1, f2, f3⟩ := hT4.out.facts
  obtain ⟨⟨v0, v1, v2, v3⟩, g0, g1, g2, g3⟩ := hV4.facts
  rw [Nat.add_assoc] at hR4
  have HT := Lib.hid hT4
  have HR1 := Lib.hid hR4
  clear hT4 hR4 hV4 hB3 hr
  go_wp2_with fail
  obtain ⟨hV, hK⟩ := HT.out.fin 0 0 ⟨#[]⟩ (.slice none 0 0)
  have hR := HR1.out.fin H.out 0 0 ⟨#[]⟩ (.slice none 0 0)
  unfold putBox at hV hK hR
  generalize ((((W3.setCell ⟨W.heap.size + 1, 0, none⟩ (.int .i64 0)).setCell ⟨W.heap.size + 1, 1, none⟩ (.int .i64 0)).setCell ⟨W.heap.size + 1, 2, none⟩ (.string ⟨#[]⟩)).setCell ⟨W.heap.size + 1, 3, none⟩ (.slice none 0 0)) = W9 at hV hK hR ⊢
  obtain ⟨⟨e0, e1, e2, e3⟩, _⟩ := hV.facts
  exact bodyPost_ret (v := .tuple #[valV 0 0 ⟨#[]⟩ (.slice none 0 0), .int .i64 30]) (by simp [results, Tryz.results56, go_sem, e0, e1, e2, e3]) rfl ⟨hK, rfl, _, hR⟩

set_option maxHeartbeats 4000000 in
set_option maxRecDepth 100000 in
theorem value_text_none (b : Bool) (w0 : World) (ea : Addr) (s : ByteArray) (Sb Ab p : Nat) (W : World) (h : Rd w0 ea s Sb Ab p W) (hn : numL (s.data.toList.drop p) = some 2) (hn2 : textL (s.data.toList.drop (p + (Wire.num 2).length)) = none) :
    Calls Tryz.prog 56 #[rdr Sb Ab, .bool b] W (valPost (.error 10) w0 ea s Sb Ab p W) := by
  have hlt := h.lt
  have h2 := Two.new (W0 := W) (Sb := Sb) (Ab := Ab) hlt
  have hc := decNum w0 ea s Sb Ab p _ (h.below (below_two (.cells #[numFn Sb Ab, textFn Sb Ab] 77) (.cells #[.int .i64 0, .int .i64 0, .string ⟨#[]⟩, .slice none 0 0] 30)))
  unfold decNumPost at hc
  rw [hn] at hc
  have H := Lib.hid h
  have H2 := Lib.hid h2
  clear h h2 hn
  go_enter Tryz.func56, Tryz.ntmps56
  go_wp2_with fail
  refine hc.mono ?_
  rintro e W1 ⟨hk1, rfl, hR1⟩
  have hT := H2.out.go hk1
  have z1 : W.heap.size + 2 ≤ W1.heap.size := by have := hT.out.lt; omega
  have hV0 : VBox (W1.alloc (.cells #[.int .i64 2, .int .i64 0, .string ⟨#[]⟩, .slice none 0 0] 30)) W1.heap.size 2 0 ⟨#[]⟩ (.slice none 0 0) := VBox.new W1 _ _ _ _
  have hB0 : Below W1.heap.size W1 (W1.alloc (.cells #[.int .i64 2, .int .i64 0, .string ⟨#[]⟩, .slice none 0 0] 30)) := (Below.refl _ _).alloc (Nat.le_refl _) _
  have hT0 := hT.below hB0
  have hR0 := hR1.below hB0
  have hc2 := decText w0 ea s Sb Ab (p + (Wire.num 2).length) _ hR0
  unfold decTextPost at hc2
  rw [hn2] at hc2
  obtain ⟨c0, c1⟩ := hT0.cells
  have HT0 := Lib.hid hT0
  have HV0 := Lib.hid hV0
  clear hT hk1 hR1 hc hT0 hR0 hB0 hV0 hn2
  go_wp2_with fail
  refine hc2.mono ?_
  rintro e W2 ⟨hk2, rfl, hR2⟩
  have hT2 := HT0.out.go hk2
  have hV2 := HV0.out.kept hk2 (by have := H2.out.hA; omega)
  have z2 := hV2.lt
  clear c0 c1 hk2 hc2
  obtain ⟨⟨v0, v1, v2, v3⟩, g0, g1, g2, g3⟩ := hV2.facts
  have hT3 := hT2.past ⟨W1.heap.size, 2, none⟩ z1 (.string ⟨#[]⟩)
  have hR3 := hR2.past ⟨W1.heap.size, 2, none⟩ (by have := H.out.lts; show Sb ≠ W1.heap.size; omega) (by have := H.out.lt; show Ab ≠ W1.heap.size; omega) (by have := H.out.b0.size; show _ ≤ W1.heap.size; omega) (.string ⟨#[]⟩)
  obtain ⟨⟨c0, c1, c2, c3⟩, f0, f1, f2, f3⟩ := hT3.out.facts
  have HT := Lib.hid hT3
  have HR1 := Lib.hid hR3
  clear hT2 hR2 hV2 hT3 hR3
  go_wp2_with fail
  obtain ⟨hV, hK⟩ := HT.out.fin 0 0 ⟨#[]⟩ (.slice none 0 0)
  have hR := HR1.out.fin H.out 0 0 ⟨#[]⟩ (.slice none 0 0)
  unfold putBox at hV hK hR
  generalize (((((W2.setCell ⟨W1.heap.size, 2, none⟩ (.string ⟨#[]⟩)).setCell ⟨W.heap.size + 1, 0, none⟩ (.int .i64 0)).setCell ⟨W.heap.size + 1, 1, none⟩ (.int .i64 0)).setCell ⟨W.heap.size + 1, 2, none⟩ (.string ⟨#[]⟩)).setCell ⟨W.heap.size + 1, 3, none⟩ (.slice none 0 0)) = W9 at hV hK hR ⊢
  obtain ⟨⟨e0, e1, e2, e3⟩, _⟩ := hV.facts
  exact bodyPost_ret (v := .tuple #[valV 0 0 ⟨#[]⟩ (.slice none 0 0), .int .i64 10]) (by simp [results, Tryz.results56, go_sem, e0, e1, e2, e3]) rfl ⟨hK, rfl, _, hR⟩

set_option maxHeartbeats 4000000 in
set_option maxRecDepth 100000 in
theorem value_text_true (b : Bool) (w0 : World) (ea : Addr) (s : ByteArray) (Sb Ab p : Nat) (W : World) (h : Rd w0 ea s Sb Ab p W) (t : List UInt8) (hn : numL (s.data.toList.drop p) = some 2) (hn2 : textL (s.data.toList.drop (p + (Wire.num 2).length)) = some t) (hf : flatOk 2 0 ⟨t.toArray⟩ 0 = true) :
    Calls Tryz.prog 56 #[rdr Sb Ab, .bool b] W (valPost (.ok (.mk 2 0 ⟨t.toArray⟩ [], (Wire.num 2).length + ((Wire.num t.length).length + t.length))) w0 ea s Sb Ab p W) := by
  have HF := Lib.hid hf
  have hts : (⟨t.toArray⟩ : ByteArray).size ≤ 9223372036854775807 := by rw [ba_size]; have := (textL_some hn2).1; omega
  clear hf
  have hlt := h.lt
  have h2 := Two.new (W0 := W) (Sb := Sb) (Ab := Ab) hlt
  have hc := decNum w0 ea s Sb Ab p _ (h.below (below_two (.cells #[numFn Sb Ab, textFn Sb Ab] 77) (.cells #[.int .i64 0, .int .i64 0, .string ⟨#[]⟩, .slice none 0 0] 30)))
  unfold decNumPost at hc
  rw [hn] at hc
  have H := Lib.hid h
  have H2 := Lib.hid h2
  clear h h2 hn
  go_enter Tryz.func56, Tryz.ntmps56
  go_wp2_with fail
  refine hc.mono ?_
  rintro e W1 ⟨hk1, rfl, hR1⟩
  have hT := H2.out.go hk1
  have z1 : W.heap.size + 2 ≤ W1.heap.size := by have := hT.out.lt; omega
  have hV0 : VBox (W1.alloc (.cells #[.int .i64 2, .int .i64 0, .string ⟨#[]⟩, .slice none 0 0] 30)) W1.heap.size 2 0 ⟨#[]⟩ (.slice none 0 0) := VBox.new W1 _ _ _ _
  have hB0 : Below W1.heap.size W1 (W1.alloc (.cells #[.int .i64 2, .int .i64 0, .string ⟨#[]⟩, .slice none 0 0] 30)) := (Below.refl _ _).alloc (Nat.le_refl _) _
  have hT0 := hT.below hB0
  have hR0 := hR1.below hB0
  have hc2 := decText w0 ea s Sb Ab (p + (Wire.num 2).length) _ hR0
  unfold decTextPost at hc2
  rw [hn2] at hc2
  obtain ⟨c0, c1⟩ := hT0.cells
  have HT0 := Lib.hid hT0
  have HV0 := Lib.hid hV0
  clear hT hk1 hR1 hc hT0 hR0 hB0 hV0 hn2
  go_wp2_with fail
  refine hc2.mono ?_
  rintro e W2 ⟨hk2, rfl, hR2⟩
  have hT2 := HT0.out.go hk2
  have hV2 := HV0.out.kept hk2 (by have := H2.out.hA; omega)
  have z2 := hV2.lt
  clear c0 c1 hk2 hc2
  obtain ⟨⟨v0, v1, v2, v3⟩, g0, g1, g2, g3⟩ := hV2.facts
  have hT3 := hT2.past ⟨W1.heap.size, 2, none⟩ z1 (.string ⟨t.toArray⟩)
  have hR3 := hR2.past ⟨W1.heap.size, 2, none⟩ (by have := H.out.lts; show Sb ≠ W1.heap.size; omega) (by have := H.out.lt; show Ab ≠ W1.heap.size; omega) (by have := H.out.b0.size; show _ ≤ W1.heap.size; omega) (.string ⟨t.toArray⟩)
  have hV3 := hV2.set2 ⟨t.toArray⟩
  have hr := right_flat 2 0 (by decide) ⟨t.toArray⟩ hts none 0 0 _ hR3.tabs
  rw [HF.out] at hr
  have HT := Lib.hid hT3
  have HV := Lib.hid hV3
  have HR1 := Lib.hid hR3
  clear hT2 hR2 hV2 hT3 hR3 hV3
  go_wp2_with fail
  refine hr.mono ?_
  rintro e W3 ⟨rfl, hB3⟩
  have hT4 := HT.out.below hB3
  have hR4 := HR1.out.below hB3
  have hV4 := HV.out.below hB3
  clear v0 v1 v2 v3 g0 g1 g2 g3 HT HR1 HV
  obtain ⟨⟨c0, c1, c2, c3⟩, f0, f1, f2, f3⟩ := hT4.out.facts
  obtain ⟨⟨v0, v1, v2, v3⟩, g0, g1, g2, g3⟩ := hV4.facts
  rw [Nat.add_assoc] at hR4
  have HT := Lib.hid hT4
  have HR1 := Lib.hid hR4
  clear hT4 hR4 hV4 hB3 hr
  go_wp2_with fail
  obtain ⟨hV, hK⟩ := HT.out.fin 2 0 ⟨t.toArray⟩ (.slice none 0 0)
  have hR := HR1.out.fin H.out 2 0 ⟨t.toArray⟩ (.slice none 0 0)
  unfold putBox at hV hK hR
  generalize ((((W3.setCell ⟨W.heap.size + 1, 0, none⟩ (.int .i64 2)).setCell ⟨W.heap.size + 1, 1, none⟩ (.int .i64 0)).setCell ⟨W.heap.size + 1, 2, none⟩ (.string ⟨t.toArray⟩)).setCell ⟨W.heap.size + 1, 3, none⟩ (.slice none 0 0)) = W9 at hV hK hR ⊢
  obtain ⟨⟨e0, e1, e2, e3⟩, _⟩ := hV.facts
  exact bodyPost_ret (v := .tuple #[valV 2 0 ⟨t.toArray⟩ (.slice none 0 0), .int .i64 0]) (by simp [results, Tryz.results56, go_sem, e0, e1, e2, e3]) rfl ⟨hK, hR, ⟨2, 0, ⟨t.toArray⟩, none, 0, 0⟩, rfl, vat_nil 1 _ (flat_fine HF.out) rfl⟩

set_option maxHeartbeats 4000000 in
set_option maxRecDepth 100000 in
theorem value_text_false (b : Bool) (w0 : World) (ea : Addr) (s : ByteArray) (Sb Ab p : Nat) (W : World) (h : Rd w0 ea s Sb Ab p W) (t : List UInt8) (hn : numL (s.data.toList.drop p) = some 2) (hn2 : textL (s.data.toList.drop (p + (Wire.num 2).length)) = some t) (hf : flatOk 2 0 ⟨t.toArray⟩ 0 = false) :
    Calls Tryz.prog 56 #[rdr Sb Ab, .bool b] W (valPost (.error 30) w0 ea s Sb Ab p W) := by
  have HF := Lib.hid hf
  have hts : (⟨t.toArray⟩ : ByteArray).size ≤ 9223372036854775807 := by rw [ba_size]; have := (textL_some hn2).1; omega
  clear hf
  have hlt := h.lt
  have h2 := Two.new (W0 := W) (Sb := Sb) (Ab := Ab) hlt
  have hc := decNum w0 ea s Sb Ab p _ (h.below (below_two (.cells #[numFn Sb Ab, textFn Sb Ab] 77) (.cells #[.int .i64 0, .int .i64 0, .string ⟨#[]⟩, .slice none 0 0] 30)))
  unfold decNumPost at hc
  rw [hn] at hc
  have H := Lib.hid h
  have H2 := Lib.hid h2
  clear h h2 hn
  go_enter Tryz.func56, Tryz.ntmps56
  go_wp2_with fail
  refine hc.mono ?_
  rintro e W1 ⟨hk1, rfl, hR1⟩
  have hT := H2.out.go hk1
  have z1 : W.heap.size + 2 ≤ W1.heap.size := by have := hT.out.lt; omega
  have hV0 : VBox (W1.alloc (.cells #[.int .i64 2, .int .i64 0, .string ⟨#[]⟩, .slice none 0 0] 30)) W1.heap.size 2 0 ⟨#[]⟩ (.slice none 0 0) := VBox.new W1 _ _ _ _
  have hB0 : Below W1.heap.size W1 (W1.alloc (.cells #[.int .i64 2, .int .i64 0, .string ⟨#[]⟩, .slice none 0 0] 30)) := (Below.refl _ _).alloc (Nat.le_refl _) _
  have hT0 := hT.below hB0
  have hR0 := hR1.below hB0
  have hc2 := decText w0 ea s Sb Ab (p + (Wire.num 2).length) _ hR0
  unfold decTextPost at hc2
  rw [hn2] at hc2
  obtain ⟨c0, c1⟩ := hT0.cells
  have HT0 := Lib.hid hT0
  have HV0 := Lib.hid hV0
  clear hT hk1 hR1 hc hT0 hR0 hB0 hV0 hn2
  go_wp2_with fail
  refine hc2.mono ?_
  rintro e W2 ⟨hk2, rfl, hR2⟩
  have hT2 := HT0.out.go hk2
  have hV2 := HV0.out.kept hk2 (by have := H2.out.hA; omega)
  have z2 := hV2.lt
  clear c0 c1 hk2 hc2
  obtain ⟨⟨v0, v1, v2, v3⟩, g0, g1, g2, g3⟩ := hV2.facts
  have hT3 := hT2.past ⟨W1.heap.size, 2, none⟩ z1 (.string ⟨t.toArray⟩)
  have hR3 := hR2.past ⟨W1.heap.size, 2, none⟩ (by have := H.out.lts; show Sb ≠ W1.heap.size; omega) (by have := H.out.lt; show Ab ≠ W1.heap.size; omega) (by have := H.out.b0.size; show _ ≤ W1.heap.size; omega) (.string ⟨t.toArray⟩)
  have hV3 := hV2.set2 ⟨t.toArray⟩
  have hr := right_flat 2 0 (by decide) ⟨t.toArray⟩ hts none 0 0 _ hR3.tabs
  rw [HF.out] at hr
  have HT := Lib.hid hT3
  have HV := Lib.hid hV3
  have HR1 := Lib.hid hR3
  clear hT2 hR2 hV2 hT3 hR3 hV3
  go_wp2_with fail
  refine hr.mono ?_
  rintro e W3 ⟨rfl, hB3⟩
  have hT4 := HT.out.below hB3
  have hR4 := HR1.out.below hB3
  have hV4 := HV.out.below hB3
  clear v0 v1 v2 v3 g0 g1 g2 g3 HT HR1 HV
  obtain ⟨⟨c0, c1, c2, c3⟩, f0, f1, f2, f3⟩ := hT4.out.facts
  obtain ⟨⟨v0, v1, v2, v3⟩, g0, g1, g2, g3⟩ := hV4.facts
  rw [Nat.add_assoc] at hR4
  have HT := Lib.hid hT4
  have HR1 := Lib.hid hR4
  clear hT4 hR4 hV4 hB3 hr
  go_wp2_with fail
  obtain ⟨hV, hK⟩ := HT.out.fin 0 0 ⟨#[]⟩ (.slice none 0 0)
  have hR := HR1.out.fin H.out 0 0 ⟨#[]⟩ (.slice none 0 0)
  unfold putBox at hV hK hR
  generalize ((((W3.setCell ⟨W.heap.size + 1, 0, none⟩ (.int .i64 0)).setCell ⟨W.heap.size + 1, 1, none⟩ (.int .i64 0)).setCell ⟨W.heap.size + 1, 2, none⟩ (.string ⟨#[]⟩)).setCell ⟨W.heap.size + 1, 3, none⟩ (.slice none 0 0)) = W9 at hV hK hR ⊢
  obtain ⟨⟨e0, e1, e2, e3⟩, _⟩ := hV.facts
  exact bodyPost_ret (v := .tuple #[valV 0 0 ⟨#[]⟩ (.slice none 0 0), .int .i64 30]) (by simp [results, Tryz.results56, go_sem, e0, e1, e2, e3]) rfl ⟨hK, rfl, _, hR⟩

/-- value, of what is no list -/
theorem value_flat (b : Bool) (w0 : World) (ea : Addr) (s : ByteArray) (Sb Ab p : Nat) (W : World) (h : Rd w0 ea s Sb Ab p W) (hb : ∀ k, numL (s.data.toList.drop p) = some k → k ≠ 5 ∨ b = false) :
    Calls Tryz.prog 56 #[rdr Sb Ab, .bool b] W (valPost (decIn (s.data.toList.drop p)) w0 ea s Sb Ab p W) := by
  unfold decIn
  cases hn : numL (s.data.toList.drop p) with
  | none => exact value_none b w0 ea s Sb Ab p W h hn
  | some k =>
    simp only [List.drop_drop]
    by_cases h1 : k = 1 ∨ k = 3 ∨ k = 4
    · rw [if_pos h1]
      cases hn2 : numL (s.data.toList.drop (p + (Wire.num k).length)) with
      | none =>
        rcases h1 with rfl | rfl | rfl
        · exact value_num_none b w0 ea s Sb Ab p W h hn hn2
        · exact value_ref_none b w0 ea s Sb Ab p W h hn hn2
        · exact value_weak_none b w0 ea s Sb Ab p W h hn hn2
      | some n =>
        simp only
        by_cases hf : flatOk k n ⟨#[]⟩ 0 = true
        · rw [if_pos hf]
          rcases h1 with rfl | rfl | rfl
          · exact value_num_true b w0 ea s Sb Ab p W h n hn hn2 hf
          · exact value_ref_true b w0 ea s Sb Ab p W h n hn hn2 hf
          · exact value_weak_true b w0 ea s Sb Ab p W h n hn hn2 hf
        · rw [if_neg hf]
          have hf := Bool.eq_false_iff.2 hf
          rcases h1 with rfl | rfl | rfl
          · exact value_num_false b w0 ea s Sb Ab p W h n hn hn2 hf
          · exact value_ref_false b w0 ea s Sb Ab p W h n hn hn2 hf
          · exact value_weak_false b w0 ea s Sb Ab p W h n hn hn2 hf
    · rw [if_neg h1]
      by_cases h2 : k = 2
      · subst h2
        rw [if_pos rfl]
        cases hn2 : textL (s.data.toList.drop (p + (Wire.num 2).length)) with
        | none => exact value_text_none b w0 ea s Sb Ab p W h hn hn2
        | some t =>
          simp only
          by_cases hf : flatOk 2 0 ⟨t.toArray⟩ 0 = true
          · rw [if_pos hf]
            exact value_text_true b w0 ea s Sb Ab p W h t hn hn2 hf
          · rw [if_neg hf]
            exact value_text_false b w0 ea s Sb Ab p W h t hn hn2 (Bool.eq_false_iff.2 hf)
      · rw [if_neg h2]
        by_cases h0 : k = 0
        · subst h0
          rw [if_pos rfl]
          exact value_nil b w0 ea s Sb Ab p W h hn
        · rw [if_neg h0]
          exact value_other b w0 ea s Sb Ab p W h k hn (by omega) (hb k hn)
end Go.Proofs.YtmijlcilnaeppaaGreatDoor
