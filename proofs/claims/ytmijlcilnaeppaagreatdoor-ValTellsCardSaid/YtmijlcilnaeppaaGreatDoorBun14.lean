/- Texts put together: RawOne, RawOf, Phase, RawList. -/
import Derived.Test.YtmijlcilnaeppaaGreatDoorBun11
import Derived.Deep.RegionHeld3
import Derived.IntWalk
/- morainelaw03.ValOne, fit. -/
set_option linter.unusedSimpArgs false
set_option linter.unusedVariables false
namespace Go.Proofs.YtmijlcilnaeppaaGreatDoor
open Go Go.RowKit Go.Shelf

set_option maxHeartbeats 2000000 in
set_option maxRecDepth 100000 in
theorem valOne_num1 (j n : Int) (s : ByteArray) (h1 : -1000000000000000 ≤ n) (h2 : n ≤ 1000000000000000) (w : World) :
    Calls Tryz.prog 30 #[.int .i64 1, .agg #[.int .i64 j, .int .i64 n, .string s]] w fun e w' => e = .returned (valV 1 n ⟨#[]⟩ (.slice none 0 0)) ∧ Below w.heap.size w w' := by
  have h01 : w.heap.size ≠ w.heap.size + 1 := by omega
  go_enter Tryz.func30, Tryz.ntmps30
  go_wp2_with fail
  exact bodyPost_ret (v := valV (1) (n) ⟨#[]⟩ (.slice none 0 0)) (by simp [results, Tryz.results30, go_sem]) rfl ⟨rfl, below_two _ _⟩

set_option maxHeartbeats 2000000 in
set_option maxRecDepth 100000 in
theorem valOne_num2 (j n : Int) (s : ByteArray) (hn1 : -9223372036854775808 ≤ n) (hn2 : n ≤ 9223372036854775807) (h1 : n < -1000000000000000) (w : World) :
    Calls Tryz.prog 30 #[.int .i64 1, .agg #[.int .i64 j, .int .i64 n, .string s]] w fun e w' => e = .returned (valV 1 (pickI n 1000000000000001) ⟨#[]⟩ (.slice none 0 0)) ∧ Below w.heap.size w w' := by
  have h01 : w.heap.size ≠ w.heap.size + 1 := by omega
  have hp := fun w => pick_any n 1000000000000001 hn1 hn2 (by decide) (by decide) w
  generalize pickI n 1000000000000001 = q at hp ⊢
  have HP := Lib.hid hp
  clear hp
  go_enter Tryz.func30, Tryz.ntmps30
  go_wp2_with fail
  refine (HP.out _).mono ?_
  rintro e W1 ⟨rfl, rfl⟩
  go_wp2_with fail
  exact bodyPost_ret (v := valV (1) (q) ⟨#[]⟩ (.slice none 0 0)) (by simp [results, Tryz.results30, go_sem]) rfl ⟨rfl, below_two _ _⟩

set_option maxHeartbeats 2000000 in
set_option maxRecDepth 100000 in
theorem valOne_num3 (j n : Int) (s : ByteArray) (hn1 : -9223372036854775808 ≤ n) (hn2 : n ≤ 9223372036854775807) (h0 : -1000000000000000 ≤ n) (h1 : 1000000000000000 < n) (w : World) :
    Calls Tryz.prog 30 #[.int .i64 1, .agg #[.int .i64 j, .int .i64 n, .string s]] w fun e w' => e = .returned (valV 1 (pickI n 1000000000000001) ⟨#[]⟩ (.slice none 0 0)) ∧ Below w.heap.size w w' := by
  have h01 : w.heap.size ≠ w.heap.size + 1 := by omega
  have hp := fun w => pick_any n 1000000000000001 hn1 hn2 (by decide) (by decide) w
  generalize pickI n 1000000000000001 = q at hp ⊢
  have HP := Lib.hid hp
  clear hp
  go_enter Tryz.func30, Tryz.ntmps30
  go_wp2_with fail
  refine (HP.out _).mono ?_
  rintro e W1 ⟨rfl, rfl⟩
  go_wp2_with fail
  exact bodyPost_ret (v := valV (1) (q) ⟨#[]⟩ (.slice none 0 0)) (by simp [results, Tryz.results30, go_sem]) rfl ⟨rfl, below_two _ _⟩

set_option maxHeartbeats 2000000 in
set_option maxRecDepth 100000 in
theorem valOne_text (j n : Int) (s : ByteArray) (hs : s.size ≤ 9223372036854775807) (w : World) :
    Calls Tryz.prog 30 #[.int .i64 2, .agg #[.int .i64 j, .int .i64 n, .string s]] w fun e w' => e = .returned (valV 2 0 ⟨(valText s.data.toList).toArray⟩ (.slice none 0 0)) ∧ Below w.heap.size w w' := by
  have h01 : w.heap.size ≠ w.heap.size + 1 := by omega
  have hp := fun w => valText_any s hs w
  generalize (⟨(valText s.data.toList).toArray⟩ : ByteArray) = q at hp ⊢
  have HP := Lib.hid hp
  clear hp
  go_enter Tryz.func30, Tryz.ntmps30
  go_wp2_with fail
  refine (HP.out _).mono ?_
  rintro e W1 ⟨rfl, rfl⟩
  go_wp2_with fail
  exact bodyPost_ret (v := valV (2) (0) q (.slice none 0 0)) (by simp [results, Tryz.results30, go_sem]) rfl ⟨rfl, below_two _ _⟩

set_option maxHeartbeats 2000000 in
set_option maxRecDepth 100000 in
theorem valOne_ref (j n : Int) (s : ByteArray) (hn1 : -9223372036854775808 ≤ n) (hn2 : n ≤ 9223372036854775807) (w : World) :
    Calls Tryz.prog 30 #[.int .i64 3, .agg #[.int .i64 j, .int .i64 n, .string s]] w fun e w' => e = .returned (valV 3 (1 + pickI n 100000) ⟨#[]⟩ (.slice none 0 0)) ∧ Below w.heap.size w w' := by
  have h01 : w.heap.size ≠ w.heap.size + 1 := by omega
  have hp := fun w => pick_any n 100000 hn1 hn2 (by decide) (by decide) w
  have hbd := pickI_bd n 100000 (by decide)
  generalize pickI n 100000 = q at hp hbd ⊢
  obtain ⟨hq1, hq2⟩ := hbd
  have HP := Lib.hid hp
  clear hp
  go_enter Tryz.func30, Tryz.ntmps30
  go_wp2_with fail
  refine (HP.out _).mono ?_
  rintro e W1 ⟨rfl, rfl⟩
  go_wp2_with fail
  exact bodyPost_ret (v := valV (3) (1 + q) ⟨#[]⟩ (.slice none 0 0)) (by simp [results, Tryz.results30, go_sem]) rfl ⟨rfl, below_two _ _⟩

set_option maxHeartbeats 2000000 in
set_option maxRecDepth 100000 in
theorem valOne_weak (j n : Int) (s : ByteArray) (hn1 : -9223372036854775808 ≤ n) (hn2 : n ≤ 9223372036854775807) (w : World) :
    Calls Tryz.prog 30 #[.int .i64 4, .agg #[.int .i64 j, .int .i64 n, .string s]] w fun e w' => e = .returned (valV 4 (1 + pickI n 100000) ⟨#[]⟩ (.slice none 0 0)) ∧ Below w.heap.size w w' := by
  have h01 : w.heap.size ≠ w.heap.size + 1 := by omega
  have hp := fun w => pick_any n 100000 hn1 hn2 (by decide) (by decide) w
  have hbd := pickI_bd n 100000 (by decide)
  generalize pickI n 100000 = q at hp hbd ⊢
  obtain ⟨hq1, hq2⟩ := hbd
  have HP := Lib.hid hp
  clear hp
  go_enter Tryz.func30, Tryz.ntmps30
  go_wp2_with fail
  refine (HP.out _).mono ?_
  rintro e W1 ⟨rfl, rfl⟩
  go_wp2_with fail
  exact bodyPost_ret (v := valV (4) (1 + q) ⟨#[]⟩ (.slice none 0 0)) (by simp [results, Tryz.results30, go_sem]) rfl ⟨rfl, below_two _ _⟩

set_option maxHeartbeats 2000000 in
set_option maxRecDepth 100000 in
theorem valOne_other (k : Int) (j n : Int) (s : ByteArray) (h1 : k ≠ 1) (h2 : k ≠ 2) (h3 : k ≠ 3) (h4 : k ≠ 4) (w : World) :
    Calls Tryz.prog 30 #[.int .i64 k, .agg #[.int .i64 j, .int .i64 n, .string s]] w fun e w' => e = .returned (valV 0 0 ⟨#[]⟩ (.slice none 0 0)) ∧ Below w.heap.size w w' := by
  have h01 : w.heap.size ≠ w.heap.size + 1 := by omega
  have d1 : (k == 1) = false := beq_eq_false_iff_ne.2 h1
  have d2 : (k == 2) = false := beq_eq_false_iff_ne.2 h2
  have d3 : (k == 3) = false := beq_eq_false_iff_ne.2 h3
  have d4 : (k == 4) = false := beq_eq_false_iff_ne.2 h4
  clear h1 h2 h3 h4
  go_enter Tryz.func30, Tryz.ntmps30
  go_wp2_with fail
  exact bodyPost_ret (v := valV (0) (0) ⟨#[]⟩ (.slice none 0 0)) (by simp [results, Tryz.results30, go_sem]) rfl ⟨rfl, below_two _ _⟩

theorem valOne_l (k : Int) (x : RawOne) : (valOne k x).l = [] := (valOne_ok k x).2.2
/-- ValOne, of any raw numbers -/
theorem valOne_any (k : Int) (x : RawOne) (hn1 : -9223372036854775808 ≤ x.n) (hn2 : x.n ≤ 9223372036854775807) (hs : x.s.size ≤ 9223372036854775807) (w : World) :
    Calls Tryz.prog 30 #[.int .i64 k, .agg #[.int .i64 x.k, .int .i64 x.n, .string x.s]] w fun e w' => e = .returned (itOf (valOne k x)).v ∧ Below w.heap.size w w' := by
  obtain ⟨j, n, s⟩ := x
  simp only at hn1 hn2 hs ⊢
  unfold valOne
  by_cases h1 : k = 1
  · subst h1
    rw [if_pos rfl]
    simp only
    by_cases h2 : n < -1000000000000000
    · rw [if_pos (.inl h2)]
      exact valOne_num2 j n s hn1 hn2 h2 w
    · by_cases h3 : 1000000000000000 < n
      · rw [if_pos (.inr h3)]
        exact valOne_num3 j n s hn1 hn2 (by omega) h3 w
      · rw [if_neg (by omega)]
        exact valOne_num1 j n s (by omega) (by omega) w
  · rw [if_neg h1]
    by_cases h2 : k = 2
    · subst h2
      rw [if_pos rfl]
      exact valOne_text j n s hs w
    · rw [if_neg h2]
      by_cases h3 : k = 3
      · subst h3
        rw [if_pos (.inl rfl)]
        exact valOne_ref j n s hn1 hn2 w
      · by_cases h4 : k = 4
        · subst h4
          rw [if_pos (.inr rfl)]
          exact valOne_weak j n s hn1 hn2 w
        · rw [if_neg (by omega)]
          exact valOne_other k j n s h1 h2 h3 h4 w
end Go.Proofs.YtmijlcilnaeppaaGreatDoor

/- morainelaw03.ValOf. -/
set_option linter.unusedSimpArgs false
set_option linter.unusedVariables false
namespace Go.Proofs.YtmijlcilnaeppaaGreatDoor
open Go Go.RowKit Go.Shelf

def RawOne.cells (x : RawOne) : List Value := [.int .i64 x.k, .int .i64 x.n, .string x.s]
def rawsCells (l : List RawOne) : List Value := l.flatMap RawOne.cells
theorem rawsCells_at : ∀ (xs : List RawOne) (i : Nat) (h : i < xs.length) (j : Nat) (v : Value), (xs[i].cells)[j]? = some v → (rawsCells xs)[i * 3 + j]? = some v
  | [], i, h, _, _, _ => absurd h (by simp)
  | x :: xs, 0, h, j, v, hv => by
    have hj : j < x.cells.length := (List.getElem?_eq_some_iff.1 hv).1
    show (x.cells ++ rawsCells xs)[0 * 3 + j]? = some v
    rw [Nat.zero_mul, Nat.zero_add, List.getElem?_append_left hj]
    exact hv
  | x :: xs, i + 1, h, j, v, hv => by
    show (x.cells ++ rawsCells xs)[(i + 1) * 3 + j]? = some v
    have hl : x.cells.length = 3 := rfl
    rw [List.getElem?_append_right (by omega), hl, show (i + 1) * 3 + j - 3 = i * 3 + j from by omega]
    exact rawsCells_at xs i (by simpa using h) j v hv
structure RawOne.fine (x : RawOne) : Prop where
  k : -9223372036854775808 ≤ x.k ∧ x.k ≤ 9223372036854775807
  n : -9223372036854775808 ≤ x.n ∧ x.n ≤ 9223372036854775807
  s : x.s.size ≤ 9223372036854775807
structure Raw.fine (x : Raw) : Prop where
  k : -9223372036854775808 ≤ x.k ∧ x.k ≤ 9223372036854775807
  n : -9223372036854775808 ≤ x.n ∧ x.n ≤ 9223372036854775807
  s : x.s.size ≤ 9223372036854775807
  l : x.l.length ≤ 9223372036854775807
  each : ∀ r ∈ x.l, r.fine

/-- what ValOf answers -/
def valOfPost (x : Raw) (w : World) (e : Ending) (w' : World) : Prop :=
  ∃ y : It, e = .returned y.v ∧ VAt 1 w' (valOf x) y ∧ Below w.heap.size w w' ∧ ∀ a, y.p = some a → w.heap.size ≤ a.block ∧ a.block < w'.heap.size

theorem valOf_flatPost {x : Raw} {w w' : World} {e : Ending} {k n : Int} {s : ByteArray} (hv : valOf x = .mk k n s []) (he : e = .returned (valV k n s (.slice none 0 0))) (hb : Below w.heap.size w w') : valOfPost x w e w' :=
  ⟨⟨k, n, s, none, 0, 0⟩, he, by have h := valOf_ok x; rw [hv] at h ⊢; exact vat_nil 1 w' (ok_fine h) rfl, hb, fun a h => by cases h⟩

set_option maxHeartbeats 4000000 in
set_option maxRecDepth 100000 in
theorem valOf_flat (x : Raw) (hx : x.fine) (p : Option Addr) (m c : Nat) (h5 : pickI x.k 7 < 5) (w : World) :
    Calls Tryz.prog 5 #[.agg #[.int .i64 x.k, .int .i64 x.n, .string x.s, .slice p m c]] w (valOfPost x w) := by
  have hone := fun w => valOne_any (pickI x.k 7) ⟨0, x.n, x.s⟩ hx.n.1 hx.n.2 hx.s w
  have hp7 := fun w => pick_any x.k 7 hx.k.1 hx.k.2 (by decide) (by decide) w
  have hkb := hx.k
  have hdb : -9223372036854775808 ≤ x.k.tdiv 7 ∧ x.k.tdiv 7 ≤ 9223372036854775807 := by
    have h1 := hx.k.1; have h2 := hx.k.2
    rcases Int.le_total 0 x.k with h | h
    · rw [Int.tdiv_eq_ediv_of_nonneg h]; omega
    · have e : x.k.tdiv 7 = -((-x.k) / 7) := by rw [← Int.tdiv_eq_ediv_of_nonneg (by omega : 0 ≤ -x.k), Int.neg_tdiv]; omega
      rw [e]; omega
  have hp4 := fun w => pick_any (x.k.tdiv 7) 4 hdb.1 hdb.2 (by decide) (by decide) w
  have hp20 := fun w => pick_any x.n 20 hx.n.1 hx.n.2 (by decide) (by decide) w
  have hb20 := pickI_bd x.n 20 (by decide)
  have hwr : IntKind.i64.wrap (x.k.tdiv 7) = x.k.tdiv 7 := IntWalk.i64_in _ hdb
  have hval := valOne_k (k := pickI x.k 7) (x := ⟨0, x.n, x.s⟩)
  have hvl : (valOne (pickI x.k 7) ⟨0, x.n, x.s⟩).l = [] := valOne_l _ _
  have hvs : 3 ≤ (valOne (pickI x.k 7) ⟨0, x.n, x.s⟩).k → (valOne (pickI x.k 7) ⟨0, x.n, x.s⟩).s = ⟨#[]⟩ := fun h => by
    obtain ⟨h1, _⟩ := hval h
    have e : valOne (pickI x.k 7) ⟨0, x.n, x.s⟩ = .mk (pickI x.k 7) (1 + pickI x.n 100000) ⟨#[]⟩ [] := by
      unfold valOne
      rw [if_neg (by omega), if_neg (by omega), if_pos h1]
    rw [e]; rfl
  have hof : valOf x = (if 3 ≤ (valOne (pickI x.k 7) ⟨0, x.n, x.s⟩).k ∧ pickI (x.k.tdiv 7) 4 = 0 then .mk (valOne (pickI x.k 7) ⟨0, x.n, x.s⟩).k (-1 - pickI x.n 20) ⟨#[]⟩ [] else valOne (pickI x.k 7) ⟨0, x.n, x.s⟩) := by
    unfold valOf; rw [if_pos h5]
  clear hval hkb hdb
  generalize valOne (pickI x.k 7) ⟨0, x.n, x.s⟩ = u at hone hvl hvs hof
  obtain ⟨uk, un, us, ul⟩ := u
  simp only [V.k, V.n, V.s, V.l, itOf] at hone hvl hvs
  subst hvl
  generalize pickI x.k 7 = q7 at hone hp7 h5
  generalize pickI (x.k.tdiv 7) 4 = q4 at hp4 hof
  generalize pickI x.n 20 = q20 at hp20 hb20 hof
  have hB0 := below_two (w := w) (.cells #[.int .i64 x.k, .int .i64 x.n, .string x.s, .slice p m c] 24) (.cells #[.int .i64 0, .int .i64 0, .string ⟨#[]⟩, .slice none 0 0] 30)
  have hR0 := (Bx.new w 24 #[.int .i64 x.k, .int .i64 x.n, .string x.s, .slice p m c]).alloc (.cells #[.int .i64 0, .int .i64 0, .string ⟨#[]⟩, .slice none 0 0] 30)
  have hV0 := VBox.new (w.alloc (.cells #[.int .i64 x.k, .int .i64 x.n, .string x.s, .slice p m c] 24)) 0 0 ⟨#[]⟩ (.slice none 0 0)
  rw [World.size_alloc] at hV0
  have h01 : w.heap.size ≠ w.heap.size + 1 := by omega
  obtain ⟨hq1, hq2⟩ := hb20
  clear hx
  have HONE := Lib.hid hone
  have HP7 := Lib.hid hp7
  have HP4 := Lib.hid hp4
  have HP20 := Lib.hid hp20
  have HOF := Lib.hid hof
  have HVS := Lib.hid hvs
  have HB0 := Lib.hid hB0
  have HR0 := Lib.hid hR0
  have HV0 := Lib.hid hV0
  clear hone hp7 hp4 hp20 hof hvs hB0 hR0 hV0
  go_enter Tryz.func5, Tryz.ntmps5
  go_wp2_with fail
  refine (HP7.out _).mono ?_
  rintro e W1 ⟨rfl, rfl⟩
  go_wp2_with fail
  refine (HONE.out _).mono ?_
  rintro e W1 ⟨rfl, hB1⟩
  have hRp := HR0.out.below hB1
  have hVp := HV0.out.below hB1
  have hR1 := hRp.alloc (.cells #[.int .i64 uk, .int .i64 un, .string us, .slice none 0 0] 30)
  have hV1 := hVp.alloc (.cells #[.int .i64 uk, .int .i64 un, .string us, .slice none 0 0] 30)
  have hU1 := VBox.new W1 uk un us (.slice none 0 0)
  have hz := hVp.lt
  have hBp := HB0.out.trans (hB1.mono (by simp; omega))
  have hBW := hBp.alloc (by omega) (.cells #[.int .i64 uk, .int .i64 un, .string us, .slice none 0 0] 30)
  have a0 := hR1.at 0 (u := .int .i64 x.k) rfl
  obtain ⟨_, g0, g1, g2, g3⟩ := hVp.facts
  obtain ⟨⟨v0, v1, v2, v3⟩, _⟩ := hVp.facts
  have hne : W1.heap.size ≠ w.heap.size + 1 := by omega
  have hne2 : w.heap.size + 1 ≠ W1.heap.size := by omega
  have HR1 := Lib.hid hR1
  have HV1 := Lib.hid hV1
  have HVp := Lib.hid hVp
  have HBp := Lib.hid hBp
  have HU1 := Lib.hid hU1
  have HBW := Lib.hid hBW
  clear hR1 hV1 hU1 hBW hB1 HB0 HR0 HV0 hBp hVp hRp
  by_cases h3 : 3 ≤ uk
  · have d3 : decide (uk ≥ 3) = true := decide_eq_true h3
    go_wp2_with fail
    refine (HP4.out _).mono ?_
    rintro e w1 ⟨rfl, rfl⟩
    clear a0 g0 g1 g2 g3 v0 v1 v2 v3
    have hW2 : (W1.alloc (.cells #[.int .i64 uk, .int .i64 un, .string us, .slice none 0 0] 30)).heap.size = W1.heap.size + 1 := by simp
    generalize W1.alloc (.cells #[.int .i64 uk, .int .i64 un, .string us, .slice none 0 0] 30) = W2 at HR1 HV1 HU1 HBW hW2 ⊢
    have a0 := HR1.out.at 0 (u := .int .i64 x.k) rfl
    have a1 := HR1.out.at 1 (u := .int .i64 x.n) rfl
    obtain ⟨⟨c0, c1, c2, c3⟩, f0, f1, f2, f3⟩ := HU1.out.facts
    obtain ⟨⟨v0, v1, v2, v3⟩, g0, g1, g2, g3⟩ := HV1.out.facts
    by_cases h4 : q4 = 0
    · subst h4
      have hv : valOf x = .mk uk (-1 - q20) ⟨#[]⟩ [] := HOF.out.trans (if_pos ⟨h3, rfl⟩)
      have hus := HVS.out h3
      subst hus
      have HV := Lib.hid hv
      clear hv
      go_wp2_with fail
      refine (HP20.out _).mono ?_
      rintro e w1 ⟨rfl, rfl⟩
      go_wp2_with fail
      obtain ⟨hV, hB⟩ := out_box (HV1.out.past ⟨W1.heap.size, 1, none⟩ (by show w.heap.size + 1 ≠ W1.heap.size; omega) (.int .i64 (-1 - q20))) (HBW.out.setCell (p := ⟨W1.heap.size, 1, none⟩) (by show w.heap.size ≤ W1.heap.size; omega) (.int .i64 (-1 - q20))) (by omega) uk (-1 - q20) ⟨#[]⟩ (.slice none 0 0)
      unfold putBox at hV hB
      generalize (((((W2.setCell ⟨W1.heap.size, 1, none⟩ (.int .i64 (-1 - q20))).setCell ⟨w.heap.size + 1, 0, none⟩ (.int .i64 uk)).setCell ⟨w.heap.size + 1, 1, none⟩ (.int .i64 (-1 - q20))).setCell ⟨w.heap.size + 1, 2, none⟩ (.string ⟨#[]⟩)).setCell ⟨w.heap.size + 1, 3, none⟩ (.slice none 0 0)) = W9 at hV hB ⊢
      obtain ⟨⟨x0, x1, x2, x3⟩, _⟩ := hV.facts
      exact bodyPost_ret (v := valV uk (-1 - q20) ⟨#[]⟩ (.slice none 0 0)) (by simp [results, Tryz.results5, go_sem, x0, x1, x2, x3]) rfl (valOf_flatPost HV.out rfl hB)
    · have d4 : (q4 == 0) = false := beq_eq_false_iff_ne.2 h4
      have hv : valOf x = .mk uk un us [] := HOF.out.trans (if_neg (fun h => h4 h.2))
      have HV := Lib.hid hv
      clear hv h4
      go_wp2_with fail
      obtain ⟨hV, hB⟩ := out_box HV1.out HBW.out (by omega) uk un us (.slice none 0 0)
      unfold putBox at hV hB
      generalize ((((W2.setCell ⟨w.heap.size + 1, 0, none⟩ (.int .i64 uk)).setCell ⟨w.heap.size + 1, 1, none⟩ (.int .i64 un)).setCell ⟨w.heap.size + 1, 2, none⟩ (.string us)).setCell ⟨w.heap.size + 1, 3, none⟩ (.slice none 0 0)) = W9 at hV hB ⊢
      obtain ⟨⟨x0, x1, x2, x3⟩, _⟩ := hV.facts
      exact bodyPost_ret (v := valV uk un us (.slice none 0 0)) (by simp [results, Tryz.results5, go_sem, x0, x1, x2, x3]) rfl (valOf_flatPost HV.out rfl hB)
  · have d3 : decide (uk ≥ 3) = false := decide_eq_false h3
    have hv : valOf x = .mk uk un us [] := HOF.out.trans (if_neg (fun h => h3 h.1))
    have HV := Lib.hid hv
    clear hv
    go_wp2_with fail
    obtain ⟨hV, hB⟩ := out_box HVp.out HBp.out (by omega) uk un us (.slice none 0 0)
    have hV2 := hV.alloc (.cells #[.int .i64 uk, .int .i64 un, .string us, .slice none 0 0] 30)
    have hB2 := hB.alloc hB.size (.cells #[.int .i64 uk, .int .i64 un, .string us, .slice none 0 0] 30)
    unfold putBox at hV2 hB2
    generalize (((((W1.setCell ⟨w.heap.size + 1, 0, none⟩ (.int .i64 uk)).setCell ⟨w.heap.size + 1, 1, none⟩ (.int .i64 un)).setCell ⟨w.heap.size + 1, 2, none⟩ (.string us)).setCell ⟨w.heap.size + 1, 3, none⟩ (.slice none 0 0)).alloc (.cells #[.int .i64 uk, .int .i64 un, .string us, .slice none 0 0] 30)) = W9 at hV2 hB2 ⊢
    obtain ⟨⟨x0, x1, x2, x3⟩, _⟩ := hV2.facts
    exact bodyPost_ret (v := valV uk un us (.slice none 0 0)) (by simp [results, Tryz.results5, go_sem, x0, x1, x2, x3]) rfl (valOf_flatPost HV.out rfl hB2)
end Go.Proofs.YtmijlcilnaeppaaGreatDoor

/- A region that draws its order: loads are taken first though a last store hits their cells, if what is asked of the world ends with operations that wait for all of them. -/
set_option linter.unusedSimpArgs false
set_option linter.unusedVariables false
namespace Go.Proofs.YtmijlcilnaeppaaGreatDoor
open Go

section
variable {P : Program} {ops : Array Oper} {Q : Exit → Act → World → Prop} {md : Region.Mode} {S : World → Prop} {T : Nat → Bool}

/-- whatever comes up next; behind an operation that is not among T the world meets S -/
def wpAnyT (P : Program) (md : Region.Mode) (ops : Array Oper) (Q : Exit → Act → World → Prop) (S : World → Prop) (T : Nat → Bool) : Nat → Array Bool → Act → World → Prop
  | 0, listed, a, w => Region.ready md ops listed = [] ∧ Q .normal a w
  | n + 1, listed, a, w => (Region.ready md ops listed = [] → Q .normal a w) ∧
      ∀ i ∈ Region.ready md ops listed, wpOp P ops Q i (fun b v => (T i = false → S v) ∧ wpAnyT P md ops Q S T n (listed.setIfInBounds i true) b v) a w

theorem wpAny_of_T : ∀ (n : Nat) (listed : Array Bool) (a : Act) (w : World), wpAnyT P md ops Q S T n listed a w → wpAny P md ops Q n listed a w
  | 0, _, _, _, h => h
  | n + 1, _, _, _, h => ⟨h.1, fun i hi => wpOp_mono (fun b v k => wpAny_of_T n _ b v k.2) (h.2 i hi)⟩

/-- does j wait for i, at once or through others? -/
def leadsB (md : Region.Mode) (ops : Array Oper) : Nat → Nat → Nat → Bool
  | 0, _, _ => false
  | f + 1, j, i => match ops[j]? with
    | none => false
    | some o => o.after.any fun e => Region.binds md e && (e.on == i || leadsB md ops f e.on i)
/-- whatever is listed has all that it waits for listed -/
def Closed (md : Region.Mode) (ops : Array Oper) (listed : Array Bool) : Prop :=
  ∀ (j : Nat) (o : Oper), ops[j]? = some o → listed.getD j false = true → ∀ e ∈ o.after, Region.binds md e = true → listed.getD e.on false = true
def closedB (md : Region.Mode) (ops : Array Oper) (listed : Array Bool) : Bool :=
  (List.range ops.size).all fun j => !listed.getD j false || match ops[j]? with
    | none => true
    | some o => o.after.all fun e => !Region.binds md e || listed.getD e.on false
theorem closed_of {listed : Array Bool} (h : closedB md ops listed = true) : Closed md ops listed := by
  intro j o ho hj e he hb
  unfold closedB at h
  rw [List.all_eq_true] at h
  have h1 := h j (List.mem_range.2 (Array.getElem?_eq_some_iff.1 ho).1)
  rw [ho, hj] at h1
  simp only [Bool.not_true, Bool.false_or, Array.all_eq_true_iff_forall_mem] at h1
  have h2 := h1 e he
  rw [hb] at h2
  simpa using h2
theorem leads_listed {listed : Array Bool} (hc : Closed md ops listed) : ∀ (f j i : Nat) (o : Oper), ops[j]? = some o → (∀ e ∈ o.after, Region.binds md e = true → listed.getD e.on false = true) → leadsB md ops f j i = true → listed.getD i false = true
  | 0, _, _, _, _, _, h => by cases h
  | f + 1, j, i, o, ho, hd, h => by
    unfold leadsB at h
    rw [ho] at h
    simp only [Array.any_eq_true] at h
    obtain ⟨k, hk, h⟩ := h
    rw [Bool.and_eq_true, Bool.or_eq_true] at h
    have hm := Array.getElem_mem hk
    have hl := hd _ hm h.1
    rcases h.2 with h2 | h2
    · rwa [beq_iff_eq.1 h2] at hl
    · cases ho2 : ops[(o.after[k]).on]? with
      | none =>
        cases f with
        | zero => cases h2
        | succ f => unfold leadsB at h2; rw [ho2] at h2; cases h2
      | some o2 => exact leads_listed hc f _ i o2 ho2 (fun e he hb => hc _ o2 ho2 hl e he hb) h2
theorem closed_set {listed : Array Bool} {j : Nat} (hc : Closed md ops listed) (hj : j ∈ Region.ready md ops listed) : Closed md ops (listed.setIfInBounds j true) := by
  intro k o ho hk e he hb
  refine getD_set_true ?_
  by_cases hjk : j = k
  · subst hjk
    obtain ⟨_, o', ho', hall⟩ := mem_ready.1 hj
    rw [ho] at ho'
    cases ho'
    exact hall e he hb
  · rw [getD_set_ne false hjk] at hk
    exact hc k o ho hk e he hb
theorem not_listed {listed : Array Bool} {i : Nat} (h : listed.getD i true = false) : listed.getD i false = false := by
  rcases Nat.lt_or_ge i listed.size with h' | h'
  · simpa [h'] using h
  · simp [Array.getElem?_eq_none h']

theorem wpAnyT_first {i : Nat} {oi : Oper} {v : Value} (hi : ops[i]? = some oi) (hsel : ∀ (j : Nat) (o : Oper) cs b, ops[j]? = some o → o.op ≠ .select cs b)
    (hT : ∀ j o, ops[j]? = some o → T j = true → leadsB md ops 64 j i = true) (hTi : T i = false)
    (hQ : ∀ c a w, Q (.panic c) (a.put oi.dst v) w → Q (.panic c) a w) :
    ∀ (n : Nat) (listed : Array Bool) (a : Act) (w : World), Closed md ops listed →
      (∀ j oj, ops[j]? = some oj → j ≠ i → listed.getD j true = false → (∀ e ∈ oj.after, Region.binds md e = true → e.on ≠ i) → oi.apart ops oj = true) →
      i ∈ Region.ready md ops listed → YieldsIf P ops S oi v a → S w →
      wpAnyT P md ops Q S T n (listed.setIfInBounds i true) (a.put oi.dst v) w → wpAnyT P md ops Q S T (n + 1) listed a w := by
  intro n
  induction n with
  | zero =>
    intro listed a w _ _ hr hy hS H
    refine ⟨fun h => absurd (h ▸ hr) (by simp), fun j hj => ?_⟩
    by_cases hji : j = i
    · subst hji; exact hy.wpOp hi hS ⟨fun _ => hS, H⟩
    · have h1 := ready_mono hj hji
      rw [H.1] at h1
      cases h1
  | succ n ih =>
    intro listed a w hcl hfree hr hy hS H
    refine ⟨fun h => absurd (h ▸ hr) (by simp), fun j hj => ?_⟩
    by_cases hji : j = i
    · subst hji; exact hy.wpOp hi hS ⟨fun _ => hS, H⟩
    · obtain ⟨hun, oj, hoj, hall⟩ := mem_ready.1 hj
      have hir := (mem_ready.1 hr).1
      have hTj : T j = false := by
        cases hTj : T j with
        | false => rfl
        | true =>
          have h1 := leads_listed hcl 64 j i oj hoj hall (hT j oj hoj hTj)
          rw [not_listed hir] at h1
          cases h1
      have hno : ∀ e ∈ oj.after, Region.binds md e = true → e.on ≠ i := fun e he hb heq => by
        have h1 := hall e he hb
        rw [heq, not_listed hir] at h1
        cases h1
      have h2 := wpOp_putIf hoj (hfree j oj hoj hji hun hno) (fun cs b => hsel i oi cs b hi) (fun cs b => hsel j oj cs b hoj) hQ hy (H.2 j (ready_mono hj hji))
      refine wpOp_mono (fun b u h3 => ⟨h3.2.1, ih (listed.setIfInBounds j true) b u (closed_set hcl hj) (fun k ok hk hki hkun hkno => ?_) (ready_mono hr (Ne.symm hji)) h3.1 (h3.2.1 hTj) ?_⟩) h2
      · refine hfree k ok hk hki ?_ hkno
        by_cases hjk : j = k
        · subst hjk; exact hun
        · rwa [getD_set_ne true hjk] at hkun
      · rw [Array.setIfInBounds_comm _ _ hji]
        exact h3.2.2

/-- what yields in whatever world is taken first, though S may be gone by then, if it is among T -/
theorem wpAnyT_pure' {i : Nat} {oi : Oper} {v : Value} (hi : ops[i]? = some oi) (hsel : ∀ (j : Nat) (o : Oper) cs b, ops[j]? = some o → o.op ≠ .select cs b) (hTi : T i = true)
    (hQ : ∀ c a w, Q (.panic c) (a.put oi.dst v) w → Q (.panic c) a w) :
    ∀ (n : Nat) (listed : Array Bool) (a : Act) (w : World),
      (∀ j oj, ops[j]? = some oj → j ≠ i → listed.getD j true = false → (∀ e ∈ oj.after, Region.binds md e = true → e.on ≠ i) → oi.apart ops oj = true) →
      i ∈ Region.ready md ops listed → YieldsIf P ops (fun _ => True) oi v a →
      wpAnyT P md ops Q S T n (listed.setIfInBounds i true) (a.put oi.dst v) w → wpAnyT P md ops Q S T (n + 1) listed a w := by
  intro n
  induction n with
  | zero =>
    intro listed a w _ hr hy H
    refine ⟨fun h => absurd (h ▸ hr) (by simp), fun j hj => ?_⟩
    by_cases hji : j = i
    · subst hji; exact hy.wpOp hi trivial ⟨(fun h => absurd (hTi.symm.trans h) (by decide)), H⟩
    · have h1 := ready_mono hj hji
      rw [H.1] at h1
      cases h1
  | succ n ih =>
    intro listed a w hfree hr hy H
    refine ⟨fun h => absurd (h ▸ hr) (by simp), fun j hj => ?_⟩
    by_cases hji : j = i
    · subst hji; exact hy.wpOp hi trivial ⟨(fun h => absurd (hTi.symm.trans h) (by decide)), H⟩
    · obtain ⟨hun, oj, hoj, hall⟩ := mem_ready.1 hj
      have hir := (mem_ready.1 hr).1
      have hno : ∀ e ∈ oj.after, Region.binds md e = true → e.on ≠ i := fun e he hb heq => by
        have h1 := hall e he hb
        rw [heq, not_listed hir] at h1
        cases h1
      have h2 := wpOp_putIf hoj (hfree j oj hoj hji hun hno) (fun cs b => hsel i oi cs b hi) (fun cs b => hsel j oj cs b hoj) hQ hy (H.2 j (ready_mono hj hji))
      refine wpOp_mono (fun b u h3 => ⟨h3.2.1, ih (listed.setIfInBounds j true) b u (fun k ok hk hki hkun hkno => ?_) (ready_mono hr (Ne.symm hji)) h3.1 ?_⟩) h2
      · refine hfree k ok hk hki ?_ hkno
        by_cases hjk : j = k
        · subst hjk; exact hun
        · rwa [getD_set_ne true hjk] at hkun
      · rw [Array.setIfInBounds_comm _ _ hji]
        exact h3.2.2
theorem wpAnyT_pure {i : Nat} {oi : Oper} {v : Value} {n : Nat} {listed : Array Bool} {a : Act} {w : World} (hi : ops[i]? = some oi)
    (hs : Region.noSelect ops = true) (hT : T i = true) (hf : Region.free md ops listed i = true) (hr : (Region.ready md ops listed).contains i = true)
    (hQ : ∀ c a w, Q (.panic c) (a.put oi.dst v) w → Q (.panic c) a w) (hy : YieldsIf P ops (fun _ => True) oi v a)
    (h : wpAnyT P md ops Q S T n (listed.setIfInBounds i true) (a.put oi.dst v) w) : wpAnyT P md ops Q S T (n + 1) listed a w :=
  wpAnyT_pure' hi (Region.noSelect_spec hs) hT hQ n listed a w (Region.free_spec hi hf) (by simpa using hr) hy h

def tailB (md : Region.Mode) (ops : Array Oper) (T : Nat → Bool) (i : Nat) : Bool := !T i && (List.range ops.size).all fun j => !T j || leadsB md ops 64 j i
/-- number i is taken first: in every world that meets S it yields v -/
theorem wpAnyT_take {i : Nat} {oi : Oper} {v : Value} {n : Nat} {listed : Array Bool} {a : Act} {w : World} (hi : ops[i]? = some oi)
    (hs : Region.noSelect ops = true) (hT : tailB md ops T i = true) (hc : closedB md ops listed = true) (hf : Region.free md ops listed i = true) (hr : (Region.ready md ops listed).contains i = true)
    (hQ : ∀ c a w, Q (.panic c) (a.put oi.dst v) w → Q (.panic c) a w) (hy : YieldsIf P ops S oi v a) (hS : S w)
    (h : wpAnyT P md ops Q S T n (listed.setIfInBounds i true) (a.put oi.dst v) w) : wpAnyT P md ops Q S T (n + 1) listed a w := by
  unfold tailB at hT
  rw [Bool.and_eq_true, List.all_eq_true] at hT
  refine wpAnyT_first hi (Region.noSelect_spec hs) (fun j o ho hj => ?_) (by simpa using hT.1) hQ n listed a w (closed_of hc) (Region.free_spec hi hf) (by simpa using hr) hy hS h
  have h1 := hT.2 j (List.mem_range.2 (Array.getElem?_eq_some_iff.1 ho).1)
  rw [hj] at h1
  simpa using h1
/-- number i takes no look at the world, whatever T says -/
theorem wpAnyT_run {i : Nat} {o : Oper} {n : Nat} {listed : Array Bool} {a : Act} {w : World} (hr : Region.ready md ops listed = [i]) (ho : ops[i]? = some o)
    (h : ∀ K : Act → World → Prop, Shut (∀ b u, (T i = false → S u) → wpAnyT P md ops Q S T n (listed.setIfInBounds i true) b u → K b u) → if Region.wanted o (yielded ops a.tmps) = true then Oper.wp P o a w K Q else K (a.put o.dst undef) w) :
    wpAnyT P md ops Q S T (n + 1) listed a w := by
  refine ⟨fun h0 => absurd (hr ▸ h0) (by simp), fun j hj => ?_⟩
  rw [hr] at hj
  obtain rfl : j = i := by simpa using hj
  exact wpOp_step ho (fun K hK => h K (fun b u hS hW => hK b u ⟨hS, hW⟩))
/-- one of two comes up -/
theorem wpAnyT_two {i j : Nat} {o o' : Oper} {n : Nat} {listed : Array Bool} {a : Act} {w : World} (hr : Region.ready md ops listed = [i, j]) (ho : ops[i]? = some o) (ho' : ops[j]? = some o')
    (h : ∀ K : Act → World → Prop, Shut (∀ b u, (T i = false → S u) → wpAnyT P md ops Q S T n (listed.setIfInBounds i true) b u → K b u) → if Region.wanted o (yielded ops a.tmps) = true then Oper.wp P o a w K Q else K (a.put o.dst undef) w)
    (h' : ∀ K : Act → World → Prop, Shut (∀ b u, (T j = false → S u) → wpAnyT P md ops Q S T n (listed.setIfInBounds j true) b u → K b u) → if Region.wanted o' (yielded ops a.tmps) = true then Oper.wp P o' a w K Q else K (a.put o'.dst undef) w) :
    wpAnyT P md ops Q S T (n + 1) listed a w := by
  refine ⟨fun h0 => absurd (hr ▸ h0) (by simp), fun k hk => ?_⟩
  rw [hr] at hk
  rcases List.mem_cons.1 hk with rfl | hk
  · exact wpOp_step ho (fun K hK => h K (fun b u hS hW => hK b u ⟨hS, hW⟩))
  · obtain rfl : k = j := by simpa using hk
    exact wpOp_step ho' (fun K hK => h' K (fun b u hS hW => hK b u ⟨hS, hW⟩))
theorem wpAnyT_done {listed : Array Bool} {a : Act} {w : World} (hr : Region.ready md ops listed = []) (h : Q .normal a w) : ∀ n, wpAnyT P md ops Q S T n listed a w
  | 0 => ⟨hr, h⟩
  | _ + 1 => ⟨fun _ => h, by rw [hr]; simp⟩
/-- the beginning -/
theorem wp_region_T {id : Nat} {a : Act} {w : World} (S : World → Prop) (T : Nat → Bool) (hm : P.follows .mixedOrders = true)
    (h : wpAnyT P .any ops Q S T ops.size (Array.replicate ops.size false) a w.drew) : (Code.region id ops true).wp P Q a w :=
  wp_region_any hm (wpAny_of_T _ _ _ _ h)
end
end Go.Proofs.YtmijlcilnaeppaaGreatDoor

/- morainelaw03.ValOf: lists. -/
set_option linter.unusedSimpArgs false
set_option linter.unusedVariables false
namespace Go.Proofs.YtmijlcilnaeppaaGreatDoor
open Go Go.RowKit Go.Shelf

/-- the items of a list so far -/
def itemsTo (x : Raw) (i : Nat) : List V := (x.l.take i).map (fun r => valOne (pickI r.k 5) r)
theorem itemsTo_len (x : Raw) (i : Nat) (h : i ≤ x.l.length) : (itemsTo x i).length = i := by unfold itemsTo; rw [List.length_map, List.length_take]; omega
theorem itemsTo_succ (x : Raw) (i : Nat) (h : i < x.l.length) : itemsTo x (i + 1) = itemsTo x i ++ [valOne (pickI x.l[i].k 5) x.l[i]] := by
  unfold itemsTo
  rw [List.take_succ_eq_append_getElem h, List.map_append]; rfl
theorem itemsTo_flat (x : Raw) (i : Nat) : ∀ u ∈ itemsTo x i, u.flatOk = true := by
  intro u hu
  obtain ⟨r, _, rfl⟩ := List.mem_map.1 hu
  exact (valOne_ok _ _).1
theorem valOf_items {x : Raw} (h5 : ¬ pickI x.k 7 < 5) (i : Nat) (hi : i ≤ x.l.length) (h12 : i ≤ 12) (hend : ¬ (i < x.l.length ∧ i < 12)) : valOf x = .mk 5 0 ⟨#[]⟩ (itemsTo x i) := by
  unfold valOf itemsTo
  rw [if_neg h5]
  congr 2
  rcases Nat.lt_or_ge i 12 with h | h
  · rw [List.take_of_length_le (by omega), List.take_of_length_le (by omega)]
  · rw [show i = 12 from by omega]

/-- the three boxes of a list that is made -/
def OfB (w : World) (x : Raw) (p : Option Addr) (c : Nat) (us : List V) (v : Value) (W : World) : Prop :=
  Bx W w.heap.size 24 #[.int .i64 x.k, .int .i64 x.n, .string x.s, .slice p x.l.length c] ∧ VBox W (w.heap.size + 1) 0 0 ⟨#[]⟩ (.slice none 0 0) ∧ VBox W (w.heap.size + 2) 5 0 ⟨#[]⟩ v ∧ W.ownsRow (w.heap.size + 3) 30 4 v us.length (itsCells (us.map itOf)) ∧ Below w.heap.size w W
theorem OfB.below {w : World} {x : Raw} {p : Option Addr} {c : Nat} {us : List V} {v : Value} {W W' : World} (h : OfB w x p c us v W) (hb : Below W.heap.size W W') : OfB w x p c us v W' :=
  ⟨h.1.below hb, h.2.1.below hb, h.2.2.1.below hb, owned_below h.2.2.2.1 hb, h.2.2.2.2.trans (hb.mono h.2.2.2.2.size)⟩
theorem OfB.next {w : World} {x : Raw} {p : Option Addr} {c : Nat} {us : List V} {v v' : Value} {W W' : World} {u : V} (h : OfB w x p c us v W) (hg : W.grownBy W' v.ownBlock)
    (hown : W'.ownsRow (w.heap.size + 3) 30 4 v' (us.length + 1) (itsCells (us.map itOf) ++ [.int .i64 u.k, .int .i64 u.n, .string u.s, .slice none 0 0])) : OfB w x p c (us ++ [u]) v' (W'.setCell ⟨w.heap.size + 2, 3, none⟩ v') := by
  obtain ⟨h1, h2, h3, h4, h5⟩ := h
  have hgo : ∀ g, v.ownBlock = some g → w.heap.size + 3 ≤ g := fun g hg' => (h4.lt g hg').1
  have k1 : Bx W' w.heap.size _ _ := h1.grown hg (fun e => by have := hgo _ e.symm; omega)
  have k2 : VBox W' (w.heap.size + 1) 0 0 ⟨#[]⟩ (.slice none 0 0) := Bx.grown (T := 30) h2 hg (fun e => by have := hgo _ e.symm; omega)
  have k3 : VBox W' (w.heap.size + 2) 5 0 ⟨#[]⟩ v := Bx.grown (T := 30) h3 hg (fun e => by have := hgo _ e.symm; omega)
  have k5 : Below w.heap.size w W' := h5.grown hg h5.size (fun g hg' => by have := hgo g hg'; omega)
  refine ⟨k1.past _ (by show w.heap.size ≠ w.heap.size + 2; omega) _, k2.past _ (by show w.heap.size + 1 ≠ w.heap.size + 2; omega) _, k3.set3 v', ?_, k5.setCell (p := ⟨w.heap.size + 2, 3, none⟩) (by show w.heap.size ≤ w.heap.size + 2; omega) _⟩
  have e : itsCells ((us ++ [u]).map itOf) = itsCells (us.map itOf) ++ [.int .i64 u.k, .int .i64 u.n, .string u.s, .slice none 0 0] := by
    rw [List.map_append, itsCells_append]; rfl
  rw [e, List.length_append, List.length_singleton]
  refine hown.kept (row := some (w.heap.size + 2)) ⟨rfl, rfl, rfl, by simp, fun k hk hne => Below.heap_setCell W' ⟨w.heap.size + 2, 3, none⟩ v' k (fun e => hne (by rw [e]))⟩ ?_
  rcases hown.2 with ⟨rfl, _⟩ | ⟨g, cap, cur, rfl, hg, _⟩
  · exact .inl rfl
  · exact .inr (fun e => by have e2 : g = w.heap.size + 2 := Option.some.inj e; omega)

set_option maxHeartbeats 8000000 in
set_option maxRecDepth 100000 in
theorem valOf_list (x : Raw) (hx : x.fine) (p : Option Addr) (c : Nat) (h5 : ¬ pickI x.k 7 < 5) (w : World) (hL : Lies w (.slice p x.l.length c) x.l.length 3 (rawsCells x.l)) :
    Calls Tryz.prog 5 #[.agg #[.int .i64 x.k, .int .i64 x.n, .string x.s, .slice p x.l.length c]] w (valOfPost x w) := by
  obtain ⟨i0, hi, hz0, hz1, hz2⟩ := info_parts infoVal
  have hp7 := fun w => pick_any x.k 7 hx.k.1 hx.k.2 (by decide) (by decide) w
  have hone : ∀ (i : Nat) (h : i < x.l.length) (w : World), Calls Tryz.prog 30 #[.int .i64 (pickI x.l[i].k 5), .agg #[.int .i64 x.l[i].k, .int .i64 x.l[i].n, .string x.l[i].s]] w fun e w' => e = .returned (itOf (valOne (pickI x.l[i].k 5) x.l[i])).v ∧ Below w.heap.size w w' := fun i h w =>
    have hf := hx.each _ (List.getElem_mem h)
    valOne_any _ _ hf.n.1 hf.n.2 hf.s w
  have hp5 : ∀ (i : Nat) (h : i < x.l.length) (w : World), Calls Tryz.prog 29 #[.int .i64 x.l[i].k, .int .i64 5] w fun e w' => e = .returned (.int .i64 (pickI x.l[i].k 5)) ∧ w = w' := fun i h w =>
    have hf := hx.each _ (List.getElem_mem h)
    pick_any _ 5 hf.k.1 hf.k.2 (by decide) (by decide) w
  have hlen := hx.l
  have hvof := fun i => valOf_items (x := x) h5 i
  have hw0 : OfB w x p c (itemsTo x 0) (.slice none 0 0) (((w.alloc (.cells #[.int .i64 x.k, .int .i64 x.n, .string x.s, .slice p x.l.length c] 24)).alloc (.cells #[.int .i64 0, .int .i64 0, .string ⟨#[]⟩, .slice none 0 0] 30)).alloc (.cells #[.int .i64 5, .int .i64 0, .string ⟨#[]⟩, .slice none 0 0] 30)) := by
    refine ⟨((Bx.new w _ _).alloc _).alloc _, ?_, ?_, World.ownsRow_nil _ _ _ _, ((below_two _ _).alloc (by simp; omega) _)⟩
    · have := (VBox.new (w.alloc (.cells #[.int .i64 x.k, .int .i64 x.n, .string x.s, .slice p x.l.length c] 24)) 0 0 ⟨#[]⟩ (.slice none 0 0)).alloc (.cells #[.int .i64 5, .int .i64 0, .string ⟨#[]⟩, .slice none 0 0] 30)
      rwa [World.size_alloc] at this
    · have := VBox.new ((w.alloc (.cells #[.int .i64 x.k, .int .i64 x.n, .string x.s, .slice p x.l.length c] 24)).alloc (.cells #[.int .i64 0, .int .i64 0, .string ⟨#[]⟩, .slice none 0 0] 30)) 5 0 ⟨#[]⟩ (.slice none 0 0)
      rwa [World.size_alloc, World.size_alloc] at this
  clear hx
  generalize pickI x.k 7 = q7 at hp7 h5
  have HP7 := Lib.hid hp7
  have HP5 := Lib.hid hp5
  have HONE := Lib.hid hone
  have HVOF := Lib.hid hvof
  have HL := Lib.hid hL
  have HW0 := Lib.hid hw0
  clear hp7 hp5 hone hvof hL hw0
  have h5' : 5 ≤ q7 := by omega
  clear h5
  go_enter Tryz.func5, Tryz.ntmps5
  go_wp2_with fail
  refine (HP7.out _).mono ?_
  rintro e W1 ⟨rfl, rfl⟩
  go_wp2_with fail
  go_loopw [6] (fun s wr => ∃ (i : Nat) (v : Value), i ≤ x.l.length ∧ i ≤ 12 ∧ s = .int .i64 (i : Int) ∧ OfB w x p c (itemsTo x i) v wr) (fun s _ => 12 - (intOf s).toNat)
  case atStart => exact ⟨0, _, by omega, by omega, rfl, HW0.out⟩
  case round =>
    obtain ⟨i, v, hil, hi12, rfl, hof⟩ := hrel
    clear HW0
    obtain ⟨hR, hV1, hV2, hown, hB⟩ := hof
    have hr3 := hR.at 3 (u := .slice p x.l.length c) rfl
    obtain ⟨⟨c0, c1, c2, c3⟩, f0, f1, f2, f3⟩ := hV2.facts
    obtain ⟨⟨e0, e1, e2, e3⟩, g0, g1, g2, g3⟩ := hV1.facts
    have hz := hV2.lt
    have hof' : OfB w x p c (itemsTo x i) v wr := ⟨hR, hV1, hV2, hown, hB⟩
    have HOF := Lib.hid hof'
    clear hof'
    obtain ⟨vp, vc, hv⟩ : ∃ vp vc, v = .slice vp i vc := by
      rw [itemsTo_len x i hil] at hown
      rcases hown.2 with ⟨h, h'⟩ | ⟨g, cap, _, h, _⟩
      · exact ⟨none, 0, by rw [h, h']⟩
      · exact ⟨_, _, h⟩
    subst hv
    have hne01 : w.heap.size ≠ w.heap.size + 2 := by omega
    by_cases hlt : i < x.l.length
    · by_cases h12 : i < 12
      · have d1 : decide (i < x.l.length) = true := decide_eq_true hlt
        have d2 : decide ((i : Int) < 12) = true := decide_eq_true (by omega)
        have d0 : (0 : Int) ≤ (i : Int) := by omega
        have d3 : (i : Int) < (x.l.length : Int) := by omega
        obtain ⟨b, off, rfl, hb, hc⟩ := HL.out.at (by omega)
        obtain ⟨y, hy⟩ : ∃ y, x.l[i] = y := ⟨_, rfl⟩
        have hcx : ∀ (j : Nat) (u : Value), (y.cells)[j]? = some u → wr.cell? ⟨b, off + i * 3 + j, none⟩ = some u := fun j u hu => by
          rw [hB.cell (p := ⟨b, off + i * 3 + j, none⟩) hb, Nat.add_assoc]
          exact hc _ _ (rawsCells_at x.l i hlt j u (by rw [hy]; exact hu))
        have y0 := hcx 0 _ rfl
        have y1 := hcx 1 _ rfl
        have y2 := hcx 2 _ rfl
        have hcall := HONE.out i hlt
        have hcall5 := HP5.out i hlt
        have hsucc := itemsTo_succ x i hlt
        rw [hy] at hcall hcall5 hsucc
        generalize valOne (pickI y.k 5) y = u at hcall hsucc
        generalize pickI y.k 5 = q5 at hcall hcall5
        obtain ⟨uk, un, us, ul⟩ := u
        obtain ⟨yk, yn, ys⟩ := y
        simp only [itOf, V.k, V.n, V.s, It.v] at hcall hcall5
        simp only at y0 y1 y2
        have hsw : ∀ W W' : World, (W.cell? ⟨w.heap.size, 3, none⟩ = some (.slice (some ⟨b, off, none⟩) x.l.length c) ∧ W.cell? ⟨w.heap.size + 2, 3, none⟩ = some (.slice vp i vc) ∧ W.cell? ⟨b, off + i * 3, none⟩ = some (.int .i64 yk) ∧ W.cell? ⟨b, off + i * 3 + 1, none⟩ = some (.int .i64 yn) ∧ W.cell? ⟨b, off + i * 3 + 2, none⟩ = some (.string ys) ∧ w.heap.size + 3 ≤ W.heap.size) → Below W.heap.size W W' → (W'.cell? ⟨w.heap.size, 3, none⟩ = some (.slice (some ⟨b, off, none⟩) x.l.length c) ∧ W'.cell? ⟨w.heap.size + 2, 3, none⟩ = some (.slice vp i vc) ∧ W'.cell? ⟨b, off + i * 3, none⟩ = some (.int .i64 yk) ∧ W'.cell? ⟨b, off + i * 3 + 1, none⟩ = some (.int .i64 yn) ∧ W'.cell? ⟨b, off + i * 3 + 2, none⟩ = some (.string ys) ∧ w.heap.size + 3 ≤ W'.heap.size) := by
          rintro W W' ⟨a1, a2, a4, a5, a6, a7⟩ hB
          have g : ∀ (q : Addr) (v : Value), q.block < W.heap.size → W.cell? q = some v → W'.cell? q = some v := fun q v hq hv => (hB.cell hq).trans hv
          have z1 : w.heap.size < W.heap.size := by omega
          have z2 : w.heap.size + 2 < W.heap.size := by omega
          have z3 : b < W.heap.size := by omega
          exact ⟨g _ _ z1 a1, g _ _ z2 a2, g _ _ z3 a4, g _ _ z3 a5, g _ _ z3 a6, by have := hB.size; omega⟩
        have hgo : ∀ g, (Value.slice vp i vc).ownBlock = some g → w.heap.size + 3 ≤ g := fun g hg' => (hown.lt g hg').1
        have hS1 := hsw wr wr.drew ⟨hr3, c3, y0, y1, y2, by omega⟩ (Below.refl _ _).drew
        have hv2 : VBox wr.drew (w.heap.size + 2) 5 0 ⟨#[]⟩ (.slice vp i vc) := hV2.below (Below.refl _ _).drew
        have hvg : ∀ W1 W2, Below wr.drew.heap.size wr.drew W1 → (W1.alloc (.cells #[.int .i64 uk, .int .i64 un, .string us, .slice none 0 0] 30)).grownBy W2 (Value.slice vp i vc).ownBlock → W2.cell? ⟨w.heap.size + 2, 3, none⟩ = some (.slice vp i vc) ∧ W2.frozen? ⟨w.heap.size + 2, 3, none⟩ = false := fun W1 W2 h hg => by
          have : VBox W2 (w.heap.size + 2) 5 0 ⟨#[]⟩ (.slice vp i vc) := Bx.grown (T := 30) ((hv2.below h).alloc _) hg (fun e => by have := hgo _ e.symm; omega)
          exact ⟨this.facts.1.2.2.2, this.facts.2.2.2.2⟩
        have howd : ∀ W1, Below wr.drew.heap.size wr.drew W1 → (W1.alloc (.cells #[.int .i64 uk, .int .i64 un, .string us, .slice none 0 0] 30)).ownsRow (w.heap.size + 3) 30 4 (.slice vp i vc) i (itsCells ((itemsTo x i).map itOf)) := fun W1 h => by
          rw [itemsTo_len x i hil] at hown
          exact (owned_below (owned_below hown (Below.refl _ _).drew) h).alloc _
        have hnext : ∀ W1 W2 (v' : Value), Below wr.drew.heap.size wr.drew W1 → (W1.alloc (.cells #[.int .i64 uk, .int .i64 un, .string us, .slice none 0 0] 30)).grownBy W2 (Value.slice vp i vc).ownBlock → W2.ownsRow (w.heap.size + 3) 30 4 v' (i + 1) (itsCells ((itemsTo x i).map itOf) ++ [.int .i64 uk, .int .i64 un, .string us, .slice none 0 0]) → OfB w x (some ⟨b, off, none⟩) c (itemsTo x (i + 1)) v' (W2.setCell ⟨w.heap.size + 2, 3, none⟩ v') := fun W1 W2 v' h1 h2 h3 => by
          rw [hsucc]
          have h4 := ((HOF.out.below (Below.refl _ _).drew).below h1).below ((Below.refl _ W1).alloc (Nat.le_refl _) (.cells #[.int .i64 uk, .int .i64 un, .string us, .slice none 0 0] 30))
          exact h4.next (u := .mk uk un us ul) h2 (by rw [itemsTo_len x i hil]; exact h3)
        have hzd : wr.drew.heap.size = wr.heap.size := rfl
        have HSW := Lib.hid hsw
        have HVG := Lib.hid hvg
        have HOWD := Lib.hid howd
        have HNEXT := Lib.hid hnext
        have HC := Lib.hid hcall
        have HC5 := Lib.hid hcall5
        clear hsw hvg hgo hv2 howd hnext hcall hcall5 hcx hc hy hsucc hown hR hV1 hV2 e0 e1 e2 e3 g0 g1 g2 g3 f0 f1 f2 c0 c1 c2
        go_wp2_with fail
        refine wp_region_T (fun W : World => W.cell? ⟨w.heap.size, 3, none⟩ = some (.slice (some ⟨b, off, none⟩) x.l.length c) ∧ W.cell? ⟨w.heap.size + 2, 3, none⟩ = some (.slice vp i vc) ∧ W.cell? ⟨b, off + i * 3, none⟩ = some (.int .i64 yk) ∧ W.cell? ⟨b, off + i * 3 + 1, none⟩ = some (.int .i64 yn) ∧ W.cell? ⟨b, off + i * 3 + 2, none⟩ = some (.string ys) ∧ w.heap.size + 3 ≤ W.heap.size) (fun j => j == 16 || j == 17 || j == 18) (by kernel_rfl) ?_
        refine wpAnyT_take (i := 0) (v := ?v0) rfl (by kernel_rfl) (by kernel_rfl) (by kernel_rfl) (by kernel_rfl) (by kernel_rfl) (fun _ _ _ h => h) (Or.inl ⟨by rfl, ?y0⟩) (hS1) ?r0
        case y0 => (intro w hSw; (try dsimp only at hSw); go_simp; try with_reducible rfl)
        try simp only [Act.put, List.setIfInBounds_toArray, List.set_cons_zero, List.set_cons_succ, List.getElem_toArray, List.getElem_cons_succ, List.getElem_cons_zero]
        refine wpAnyT_take (i := 1) (v := ?v1) rfl (by kernel_rfl) (by kernel_rfl) (by kernel_rfl) (by kernel_rfl) (by kernel_rfl) (fun _ _ _ h => h) (Or.inl ⟨by rfl, ?y1⟩) (hS1) ?r1
        case y1 => (intro w hSw; (try dsimp only at hSw); go_simp; try with_reducible rfl)
        try simp only [Act.put, List.setIfInBounds_toArray, List.set_cons_zero, List.set_cons_succ, List.getElem_toArray, List.getElem_cons_succ, List.getElem_cons_zero]
        refine wpAnyT_take (i := 2) (v := ?v2) rfl (by kernel_rfl) (by kernel_rfl) (by kernel_rfl) (by kernel_rfl) (by kernel_rfl) (fun _ _ _ h => h) (Or.inl ⟨by rfl, ?y2⟩) (hS1) ?r2
        case y2 => (intro w hSw; (try dsimp only at hSw); go_simp; try with_reducible rfl)
        try simp only [Act.put, List.setIfInBounds_toArray, List.set_cons_zero, List.set_cons_succ, List.getElem_toArray, List.getElem_cons_succ, List.getElem_cons_zero]
        refine wpAnyT_take (i := 3) (v := ?v3) rfl (by kernel_rfl) (by kernel_rfl) (by kernel_rfl) (by kernel_rfl) (by kernel_rfl) (fun _ _ _ h => h) (Or.inl ⟨by rfl, ?y3⟩) (hS1) ?r3
        case y3 => (intro w hSw; (try dsimp only at hSw); go_simp; try with_reducible rfl)
        try simp only [Act.put, List.setIfInBounds_toArray, List.set_cons_zero, List.set_cons_succ, List.getElem_toArray, List.getElem_cons_succ, List.getElem_cons_zero]
        refine wpAnyT_take (i := 4) (v := ?v4) rfl (by kernel_rfl) (by kernel_rfl) (by kernel_rfl) (by kernel_rfl) (by kernel_rfl) (fun _ _ _ h => h) (Or.inl ⟨by rfl, ?y4⟩) (hS1) ?r4
        case y4 => (intro w hSw; (try dsimp only at hSw); go_simp; try with_reducible rfl)
        try simp only [Act.put, List.setIfInBounds_toArray, List.set_cons_zero, List.set_cons_succ, List.getElem_toArray, List.getElem_cons_succ, List.getElem_cons_zero]
        refine wpAnyT_take (i := 5) (v := ?v5) rfl (by kernel_rfl) (by kernel_rfl) (by kernel_rfl) (by kernel_rfl) (by kernel_rfl) (fun _ _ _ h => h) (Or.inl ⟨by rfl, ?y5⟩) (hS1) ?r5
        case y5 => (intro w hSw; (try dsimp only at hSw); go_simp; try with_reducible rfl)
        try simp only [Act.put, List.setIfInBounds_toArray, List.set_cons_zero, List.set_cons_succ, List.getElem_toArray, List.getElem_cons_succ, List.getElem_cons_zero]
        refine wpAnyT_take (i := 6) (v := ?v6) rfl (by kernel_rfl) (by kernel_rfl) (by kernel_rfl) (by kernel_rfl) (by kernel_rfl) (fun _ _ _ h => h) (Or.inl ⟨by rfl, ?y6⟩) (hS1) ?r6
        case y6 => (intro w hSw; (try dsimp only at hSw); go_simp; try with_reducible rfl)
        try simp only [Act.put, List.setIfInBounds_toArray, List.set_cons_zero, List.set_cons_succ, List.getElem_toArray, List.getElem_cons_succ, List.getElem_cons_zero]
        refine wpAnyT_take (i := 7) (v := ?v7) rfl (by kernel_rfl) (by kernel_rfl) (by kernel_rfl) (by kernel_rfl) (by kernel_rfl) (fun _ _ _ h => h) (Or.inl ⟨by rfl, ?y7⟩) (hS1) ?r7
        case y7 => (intro w hSw; (try dsimp only at hSw); go_simp; try with_reducible rfl)
        try simp only [Act.put, List.setIfInBounds_toArray, List.set_cons_zero, List.set_cons_succ, List.getElem_toArray, List.getElem_cons_succ, List.getElem_cons_zero]
        refine wpAnyT_take (i := 9) (v := ?v9) rfl (by kernel_rfl) (by kernel_rfl) (by kernel_rfl) (by kernel_rfl) (by kernel_rfl) (fun _ _ _ h => h) (Or.inl ⟨by rfl, ?y9⟩) (hS1) ?r9
        case y9 => (intro w hSw; (try dsimp only at hSw); go_simp; try with_reducible rfl)
        try simp only [Act.put, List.setIfInBounds_toArray, List.set_cons_zero, List.set_cons_succ, List.getElem_toArray, List.getElem_cons_succ, List.getElem_cons_zero]
        refine wpAnyT_take (i := 10) (v := ?v10) rfl (by kernel_rfl) (by kernel_rfl) (by kernel_rfl) (by kernel_rfl) (by kernel_rfl) (fun _ _ _ h => h) (Or.inl ⟨by rfl, ?y10⟩) (hS1) ?r10
        case y10 => (intro w hSw; (try dsimp only at hSw); go_simp; try with_reducible rfl)
        try simp only [Act.put, List.setIfInBounds_toArray, List.set_cons_zero, List.set_cons_succ, List.getElem_toArray, List.getElem_cons_succ, List.getElem_cons_zero]
        refine wpAnyT_take (i := 11) (v := ?v11) rfl (by kernel_rfl) (by kernel_rfl) (by kernel_rfl) (by kernel_rfl) (by kernel_rfl) (fun _ _ _ h => h) (Or.inl ⟨by rfl, ?y11⟩) (hS1) ?r11
        case y11 => (intro w hSw; (try dsimp only at hSw); go_simp; try with_reducible rfl)
        try simp only [Act.put, List.setIfInBounds_toArray, List.set_cons_zero, List.set_cons_succ, List.getElem_toArray, List.getElem_cons_succ, List.getElem_cons_zero]
        refine wpAnyT_take (i := 12) (v := ?v12) rfl (by kernel_rfl) (by kernel_rfl) (by kernel_rfl) (by kernel_rfl) (by kernel_rfl) (fun _ _ _ h => h) (Or.inl ⟨by rfl, ?y12⟩) (hS1) ?r12
        case y12 => (intro w hSw; (try dsimp only at hSw); go_simp; try with_reducible rfl)
        try simp only [Act.put, List.setIfInBounds_toArray, List.set_cons_zero, List.set_cons_succ, List.getElem_toArray, List.getElem_cons_succ, List.getElem_cons_zero]
        refine wpAnyT_take (i := 13) (v := ?v13) rfl (by kernel_rfl) (by kernel_rfl) (by kernel_rfl) (by kernel_rfl) (by kernel_rfl) (fun _ _ _ h => h) (Or.inl ⟨by rfl, ?y13⟩) (hS1) ?r13
        case y13 => (intro w hSw; (try dsimp only at hSw); go_simp; try with_reducible rfl)
        try simp only [Act.put, List.setIfInBounds_toArray, List.set_cons_zero, List.set_cons_succ, List.getElem_toArray, List.getElem_cons_succ, List.getElem_cons_zero]
        refine wpAnyT_run (i := 8) (by kernel_rfl) rfl (fun K hK => ?_)
        go_simp
        (refine (HC5.out _).mono ?_; rintro e w1 ⟨rfl, rfl⟩)
        go_wp2_with fail
        refine hK.out _ _ (fun _ => hS1) ?_
        clear hK K
        try simp only [Act.put, List.setIfInBounds_toArray, List.set_cons_zero, List.set_cons_succ, List.getElem_toArray, List.getElem_cons_succ, List.getElem_cons_zero]
        refine wpAnyT_run (i := 14) (by kernel_rfl) rfl (fun K hK => ?_)
        go_simp
        (refine (HC.out _).mono ?_; rintro e W1 ⟨rfl, hB1⟩)
        have hS2 := HSW.out _ _ hS1 hB1
        go_wp2_with fail
        refine hK.out _ _ (fun _ => hS2) ?_
        clear hK K
        try simp only [Act.put, List.setIfInBounds_toArray, List.set_cons_zero, List.set_cons_succ, List.getElem_toArray, List.getElem_cons_succ, List.getElem_cons_zero]
        refine wpAnyT_run (i := 15) (by kernel_rfl) rfl (fun K hK => ?_)
        go_simp
        refine hK.out _ _ (fun _ => HSW.out _ _ hS2 ((Below.refl _ _).alloc (Nat.le_refl _) _)) ?_
        clear hK K
        try simp only [Act.put, List.setIfInBounds_toArray, List.set_cons_zero, List.set_cons_succ, List.getElem_toArray, List.getElem_cons_succ, List.getElem_cons_zero]
        refine wpAnyT_run (i := 16) (by kernel_rfl) rfl (fun K hK => ?_)
        (refine step_append_lies _ (by rfl) _ _ _ (by rfl) (w.heap.size + 3) 30 i0 _ 4 56 Tryz.underlying28 hi hz0 hz1 hz2 rfl (by omega) _ i _ (by rfl) (HOWD.out _ hB1) ⟨W1.heap.size, 0, none⟩ 1 1 [.int .i64 uk, .int .i64 un, .string us, .slice none 0 0] (by rfl) (by rfl) (World.news_of_block (cs := #[.int .i64 uk, .int .i64 un, .string us, .slice none 0 0]) (t := 30) (fr := (0, 0)) (heap_alloc_new W1 _)) (by simp [Value.oneCell']) (by omega) (by simp [maxLen]; omega) (by omega) (by simp; omega) (W1.heap.size + 1) (by simp) ?_; intro gg cap w2 hown1 hgrow hat hlt2)
        obtain ⟨q3, q4⟩ := HVG.out _ _ hB1 hgrow
        refine hK.out _ _ (fun h => absurd h (by decide)) ?_
        clear hK K
        try simp only [Act.put, List.setIfInBounds_toArray, List.set_cons_zero, List.set_cons_succ, List.getElem_toArray, List.getElem_cons_succ, List.getElem_cons_zero]
        refine wpAnyT_run (i := 17) (by kernel_rfl) rfl (fun K hK => ?_)
        go_simp
        refine hK.out _ _ (fun h => absurd h (by decide)) ?_
        clear hK K
        try simp only [Act.put, List.setIfInBounds_toArray, List.set_cons_zero, List.set_cons_succ, List.getElem_toArray, List.getElem_cons_succ, List.getElem_cons_zero]
        refine wpAnyT_run (i := 18) (by kernel_rfl) rfl (fun K hK => ?_)
        go_simp
        refine hK.out _ _ (fun h => absurd h (by decide)) ?_
        clear hK K
        try simp only [Act.put, List.setIfInBounds_toArray, List.set_cons_zero, List.set_cons_succ, List.getElem_toArray, List.getElem_cons_succ, List.getElem_cons_zero]
        refine wpAnyT_done (by kernel_rfl) ?_ _
        go_wp2_with fail
        exact ⟨⟨i + 1, _, by omega, by omega, by go_num, HNEXT.out _ _ _ hB1 hgrow hown1⟩, by simp [intOf]; omega⟩
      · obtain rfl : i = 12 := by omega
        have d1 : decide ((12 : Nat) < x.l.length) = true := decide_eq_true hlt
        have hv := HVOF.out 12 hil hi12 (by omega)
        have HV := Lib.hid hv
        clear hv
        go_wp2_with fail
        have hL : Lies wr (.slice vp 12 vc) ((itemsTo x 12).map itOf).length 4 (itsCells ((itemsTo x 12).map itOf)) := by
          have := Lies.own hown
          rwa [List.length_map]
        have hne : ∀ a m' c', (Value.slice vp 12 vc) = .slice (some a) m' c' → w.heap.size + 3 ≤ a.block := fun a m' c' ha => by
          injection ha with h1 _ _
          exact (hown.lt a.block (by rw [h1]; rfl)).1
        have hne2 : ∀ a m' c', (Value.slice vp 12 vc) = .slice (some a) m' c' → a.block ≠ w.heap.size + 1 := fun a m' c' ha => by have := hne a m' c' ha; omega
        have hL9 := (((hL.past ⟨w.heap.size + 1, 0, none⟩ hne2 (.int .i64 5)).past ⟨w.heap.size + 1, 1, none⟩ hne2 (.int .i64 0)).past ⟨w.heap.size + 1, 2, none⟩ hne2 (.string ⟨#[]⟩)).past ⟨w.heap.size + 1, 3, none⟩ hne2 (.slice vp 12 vc)
        obtain ⟨hVo, hBo⟩ := out_box HOF.out.2.1 HOF.out.2.2.2.2 (by omega) 5 0 ⟨#[]⟩ (.slice vp 12 vc)
        unfold putBox at hVo hBo
        have hz9 : ((((wr.setCell ⟨w.heap.size + 1, 0, none⟩ (.int .i64 5)).setCell ⟨w.heap.size + 1, 1, none⟩ (.int .i64 0)).setCell ⟨w.heap.size + 1, 2, none⟩ (.string ⟨#[]⟩)).setCell ⟨w.heap.size + 1, 3, none⟩ (.slice vp 12 vc)).heap.size = wr.heap.size := by simp [World.setCell]
        have hltt : ∀ a, vp = some a → a.block < wr.heap.size := fun a ha => (hown.lt a.block (by rw [ha]; rfl)).2
        generalize (((wr.setCell ⟨w.heap.size + 1, 0, none⟩ (.int .i64 5)).setCell ⟨w.heap.size + 1, 1, none⟩ (.int .i64 0)).setCell ⟨w.heap.size + 1, 2, none⟩ (.string ⟨#[]⟩)).setCell ⟨w.heap.size + 1, 3, none⟩ (.slice vp 12 vc) = W9 at hVo hBo hL9 hz9 ⊢
        obtain ⟨⟨x0, x1, x2, x3⟩, _⟩ := hVo.facts
        have hat := vat_list (us := itemsTo x 12) (by rw [itemsTo_len x 12 hil]; omega) (by simp) hL9 (fun i h h' => by rw [List.getElem_map]; exact itm_of (itemsTo_flat x 12 _ (List.getElem_mem _)))
        exact bodyPost_ret (v := valV 5 0 ⟨#[]⟩ (.slice vp 12 vc)) (by simp [results, Tryz.results5, go_sem, x0, x1, x2, x3]) rfl ⟨⟨5, 0, ⟨#[]⟩, vp, 12, vc⟩, rfl, by rw [HV.out]; exact hat, hBo, fun a ha => by have ha' : vp = some a := ha; have hlt9 := hltt a ha'; have := hne a _ _ (by rw [ha']); exact ⟨by omega, by omega⟩⟩
    · have d1 : decide (i < x.l.length) = false := decide_eq_false hlt
      have hv := HVOF.out i hil hi12 (by omega)
      have HV := Lib.hid hv
      clear hv
      go_wp2_with fail
      have hL : Lies wr (.slice vp i vc) ((itemsTo x i).map itOf).length 4 (itsCells ((itemsTo x i).map itOf)) := by
        have := Lies.own hown
        rwa [List.length_map]
      have hne : ∀ a m' c', (Value.slice vp i vc) = .slice (some a) m' c' → w.heap.size + 3 ≤ a.block := fun a m' c' ha => by
        injection ha with h1 _ _
        exact (hown.lt a.block (by rw [h1]; rfl)).1
      have hne2 : ∀ a m' c', (Value.slice vp i vc) = .slice (some a) m' c' → a.block ≠ w.heap.size + 1 := fun a m' c' ha => by have := hne a m' c' ha; omega
      have hL9 := (((hL.past ⟨w.heap.size + 1, 0, none⟩ hne2 (.int .i64 5)).past ⟨w.heap.size + 1, 1, none⟩ hne2 (.int .i64 0)).past ⟨w.heap.size + 1, 2, none⟩ hne2 (.string ⟨#[]⟩)).past ⟨w.heap.size + 1, 3, none⟩ hne2 (.slice vp i vc)
      obtain ⟨hVo, hBo⟩ := out_box HOF.out.2.1 HOF.out.2.2.2.2 (by omega) 5 0 ⟨#[]⟩ (.slice vp i vc)
      unfold putBox at hVo hBo
      have hz9 : ((((wr.setCell ⟨w.heap.size + 1, 0, none⟩ (.int .i64 5)).setCell ⟨w.heap.size + 1, 1, none⟩ (.int .i64 0)).setCell ⟨w.heap.size + 1, 2, none⟩ (.string ⟨#[]⟩)).setCell ⟨w.heap.size + 1, 3, none⟩ (.slice vp i vc)).heap.size = wr.heap.size := by simp [World.setCell]
      have hltt : ∀ a, vp = some a → a.block < wr.heap.size := fun a ha => (hown.lt a.block (by rw [ha]; rfl)).2
      generalize (((wr.setCell ⟨w.heap.size + 1, 0, none⟩ (.int .i64 5)).setCell ⟨w.heap.size + 1, 1, none⟩ (.int .i64 0)).setCell ⟨w.heap.size + 1, 2, none⟩ (.string ⟨#[]⟩)).setCell ⟨w.heap.size + 1, 3, none⟩ (.slice vp i vc) = W9 at hVo hBo hL9 hz9 ⊢
      obtain ⟨⟨x0, x1, x2, x3⟩, _⟩ := hVo.facts
      have hat := vat_list (us := itemsTo x i) (by rw [itemsTo_len x i hil]; omega) (by simp) hL9 (fun i h h' => by rw [List.getElem_map]; exact itm_of (itemsTo_flat x _ _ (List.getElem_mem _)))
      exact bodyPost_ret (v := valV 5 0 ⟨#[]⟩ (.slice vp i vc)) (by simp [results, Tryz.results5, go_sem, x0, x1, x2, x3]) rfl ⟨⟨5, 0, ⟨#[]⟩, vp, i, vc⟩, rfl, by rw [HV.out]; exact hat, hBo, fun a ha => by have ha' : vp = some a := ha; have hlt9 := hltt a ha'; have := hne a _ _ (by rw [ha']); exact ⟨by omega, by omega⟩⟩

/-- ValOf, of any raw numbers that lie -/
theorem valOf_any (x : Raw) (hx : x.fine) (p : Option Addr) (c : Nat) (w : World) (hL : Lies w (.slice p x.l.length c) x.l.length 3 (rawsCells x.l)) :
    Calls Tryz.prog 5 #[.agg #[.int .i64 x.k, .int .i64 x.n, .string x.s, .slice p x.l.length c]] w (valOfPost x w) := by
  by_cases h5 : pickI x.k 7 < 5
  · exact valOf_flat x hx p _ c h5 w
  · exact valOf_list x hx p c h5 w hL
end Go.Proofs.YtmijlcilnaeppaaGreatDoor
