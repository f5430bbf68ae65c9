/- val.rightType, fitsKind, Fits, Zero. -/
import Derived.Test.YtffoklhopmhjaaaGreatDoorVBox
set_option linter.unusedSimpArgs false
set_option linter.unusedVariables false
namespace Go.Proofs.YtffoklhopmhjaaaGreatDoor
open Go Go.RowKit Go.Shelf

def rtB (k o : Int) : Bool := if k = 5 then decide (1 ≤ o ∧ o ≤ 4) else decide ((1 ≤ k ∧ k ≤ 4) ∧ o = 0)
def fkB (a k : Int) : Bool := decide (a = k ∨ (a = 0 ∧ (k = 3 ∨ k = 4)))
def fitsB (v : V) (k o : Int) : Bool := rtB k o && v.ok && (if k = 5 then (v.l.all (fun u => fkB u.k o)) && v.k == 5 else fkB v.k k)

/-- a type's two cells in block b -/
def TBox (W : World) (b : Nat) (k o : Int) : Prop := W.heap[b]? = some (.cells #[.int .i64 k, .int .i64 o] 46 (0, 0))
theorem TBox.lt {W : World} {b : Nat} {k o : Int} (h : TBox W b k o) : b < W.heap.size := (Array.getElem?_eq_some_iff.1 h).1
theorem TBox.new (W : World) (k o : Int) : TBox (W.alloc (.cells #[.int .i64 k, .int .i64 o] 46)) W.heap.size k o := World.alloc_heap_new _ _
theorem TBox.alloc {W : World} {b : Nat} {k o : Int} (h : TBox W b k o) (x : Obj) : TBox (W.alloc x) b k o := (Lib.alloc_old W x b h.lt).trans h
theorem TBox.below {W W' : World} {b : Nat} {k o : Int} (h : TBox W b k o) (hb : Below W.heap.size W W') : TBox W' b k o := (hb.block b h.lt).trans h
theorem TBox.past {W : World} {b : Nat} {k o : Int} (h : TBox W b k o) (a : Addr) (ha : b ≠ a.block) (u : Value) : TBox (W.setCell a u) b k o := (Below.heap_setCell W a u b ha).trans h
theorem TBox.facts {W : World} {b : Nat} {k o : Int} (h : TBox W b k o) : W.cell? ⟨b, 0, none⟩ = some (.int .i64 k) ∧ W.cell? ⟨b, 1, none⟩ = some (.int .i64 o) := by
  constructor <;> (rw [Lib.cell_of_heap h]; rfl)

/-- a slice of some items, opened -/
theorem Lies.at {W : World} {p : Option Addr} {m c n size : Nat} {xs : List Value} (h : Lies W (.slice p m c) n size xs) (hn : 0 < n) : ∃ b off, p = some ⟨b, off, none⟩ ∧ b < W.heap.size ∧ ∀ j u, xs[j]? = some u → W.cell? ⟨b, off + j, none⟩ = some u := by
  rcases h.2 with ⟨h0, _⟩ | ⟨b, off, c', hv, hb, hc⟩
  · omega
  · injection hv with h1 _ _
    exact ⟨b, off, h1, hb, hc⟩

set_option maxHeartbeats 1000000 in
set_option maxRecDepth 100000 in
theorem rightType_any (k o : Int) (w : World) :
    Calls Tryz.prog 70 #[.agg #[.int .i64 k, .int .i64 o]] w fun e w' => e = .returned (.bool (rtB k o)) ∧ Below w.heap.size w w' := by
  have hb : ∀ r, r = rtB k o → ∀ (e : Ending) (w' : World), (e = .returned (.bool r) ∧ Below w.heap.size w w') → (e = .returned (.bool (rtB k o)) ∧ Below w.heap.size w w') := fun r hr e w' h => by rw [← hr]; exact h
  by_cases h5 : k = 5
  · have d5 : (k == 5) = true := beq_iff_eq.2 h5
    by_cases h1 : 1 ≤ o
    · by_cases h2 : o ≤ 4
      · refine Calls.mono ?_ (hb true (by unfold rtB; rw [if_pos h5, decide_eq_true ⟨h1, h2⟩]))
        clear hb h5
        go_enter Tryz.func70, Tryz.ntmps70
        go_wp2_with fail
        go_ret
        exact ⟨rfl, (Below.refl _ _).alloc (Nat.le_refl _) _⟩
      · refine Calls.mono ?_ (hb false (by unfold rtB; rw [if_pos h5, decide_eq_false (fun h => h2 h.2)]))
        clear hb h5
        go_enter Tryz.func70, Tryz.ntmps70
        go_wp2_with fail
        go_ret
        exact ⟨rfl, (Below.refl _ _).alloc (Nat.le_refl _) _⟩
    · refine Calls.mono ?_ (hb false (by unfold rtB; rw [if_pos h5, decide_eq_false (fun h => h1 h.1)]))
      clear hb h5
      go_enter Tryz.func70, Tryz.ntmps70
      go_wp2_with fail
      go_ret
      exact ⟨rfl, (Below.refl _ _).alloc (Nat.le_refl _) _⟩
  · have d5 : (k == 5) = false := beq_eq_false_iff_ne.2 h5
    by_cases h1 : 1 ≤ k
    · by_cases h2 : k ≤ 4
      · by_cases h3 : o = 0
        · have d6 : (o == 0) = true := beq_iff_eq.2 h3
          refine Calls.mono ?_ (hb true (by unfold rtB; rw [if_neg h5, decide_eq_true ⟨⟨h1, h2⟩, h3⟩]))
          clear hb h5 h3
          go_enter Tryz.func70, Tryz.ntmps70
          go_wp2_with fail
          go_ret
          exact ⟨rfl, (Below.refl _ _).alloc (Nat.le_refl _) _⟩
        · have d6 : (o == 0) = false := beq_eq_false_iff_ne.2 h3
          refine Calls.mono ?_ (hb false (by unfold rtB; rw [if_neg h5, decide_eq_false (fun h => h3 h.2)]))
          clear hb h5 h3
          go_enter Tryz.func70, Tryz.ntmps70
          go_wp2_with fail
          go_ret
          exact ⟨rfl, (Below.refl _ _).alloc (Nat.le_refl _) _⟩
      · refine Calls.mono ?_ (hb false (by unfold rtB; rw [if_neg h5, decide_eq_false (fun h => h2 h.1.2)]))
        clear hb h5
        go_enter Tryz.func70, Tryz.ntmps70
        go_wp2_with fail
        go_ret
        exact ⟨rfl, (Below.refl _ _).alloc (Nat.le_refl _) _⟩
    · refine Calls.mono ?_ (hb false (by unfold rtB; rw [if_neg h5, decide_eq_false (fun h => h1 h.1.1)]))
      clear hb h5
      go_enter Tryz.func70, Tryz.ntmps70
      go_wp2_with fail
      go_ret
      exact ⟨rfl, (Below.refl _ _).alloc (Nat.le_refl _) _⟩

set_option maxHeartbeats 1000000 in
set_option maxRecDepth 100000 in
theorem fitsKind_any (x : It) (k : Int) (w : World) :
    Calls Tryz.prog 71 #[x.v, .int .i64 k] w fun e w' => e = .returned (.bool (fkB x.k k)) ∧ Below w.heap.size w w' := by
  obtain ⟨a, n, s, p, m, c⟩ := x
  simp only
  have hb : ∀ r, r = fkB a k → ∀ (e : Ending) (w' : World), (e = .returned (.bool r) ∧ Below w.heap.size w w') → (e = .returned (.bool (fkB a k)) ∧ Below w.heap.size w w') := fun r hr e w' h => by rw [← hr]; exact h
  by_cases h1 : a = k
  · have d1 : (a == k) = true := beq_iff_eq.2 h1
    refine Calls.mono ?_ (hb true (by unfold fkB; rw [decide_eq_true (.inl h1)]))
    clear hb h1
    go_enter Tryz.func71, Tryz.ntmps71
    go_wp2_with fail
    go_ret
    exact ⟨rfl, (Below.refl _ _).alloc (Nat.le_refl _) _⟩
  · have d1 : (a == k) = false := beq_eq_false_iff_ne.2 h1
    by_cases h2 : a = 0
    · have d2 : (a == 0) = true := beq_iff_eq.2 h2
      by_cases h3 : k = 3
      · have d3 : (k == 3) = true := beq_iff_eq.2 h3
        refine Calls.mono ?_ (hb true (by unfold fkB; rw [decide_eq_true (.inr ⟨h2, .inl h3⟩)]))
        clear hb h1 h2 h3
        go_enter Tryz.func71, Tryz.ntmps71
        go_wp2_with fail
        go_ret
        exact ⟨rfl, (Below.refl _ _).alloc (Nat.le_refl _) _⟩
      · have d3 : (k == 3) = false := beq_eq_false_iff_ne.2 h3
        by_cases h4 : k = 4
        · have d4 : (k == 4) = true := beq_iff_eq.2 h4
          refine Calls.mono ?_ (hb true (by unfold fkB; rw [decide_eq_true (.inr ⟨h2, .inr h4⟩)]))
          clear hb h1 h2 h3 h4
          go_enter Tryz.func71, Tryz.ntmps71
          go_wp2_with fail
          go_ret
          exact ⟨rfl, (Below.refl _ _).alloc (Nat.le_refl _) _⟩
        · have d4 : (k == 4) = false := beq_eq_false_iff_ne.2 h4
          refine Calls.mono ?_ (hb false (by unfold fkB; rw [decide_eq_false (by omega)]))
          clear hb h1 h2 h3 h4
          go_enter Tryz.func71, Tryz.ntmps71
          go_wp2_with fail
          go_ret
          exact ⟨rfl, (Below.refl _ _).alloc (Nat.le_refl _) _⟩
    · have d2 : (a == 0) = false := beq_eq_false_iff_ne.2 h2
      refine Calls.mono ?_ (hb false (by unfold fkB; rw [decide_eq_false (by omega)]))
      clear hb h1 h2
      go_enter Tryz.func71, Tryz.ntmps71
      go_wp2_with fail
      go_ret
      exact ⟨rfl, (Below.refl _ _).alloc (Nat.le_refl _) _⟩

theorem all_take {α : Type} {f : α → Bool} {xs : List α} {k : Nat} (h : k < xs.length) (ha : (xs.take k).all f = true) (hx : f xs[k] = true) : (xs.take (k + 1)).all f = true := by
  rw [List.take_succ_eq_append_getElem h, List.all_append, ha]; simp [hx]
theorem all_no {α : Type} {f : α → Bool} {xs : List α} {k : Nat} (h : k < xs.length) (hx : f xs[k] = false) : xs.all f = false := by
  rw [List.all_eq_false]
  exact ⟨xs[k], List.getElem_mem h, by simp [hx]⟩

set_option maxHeartbeats 4000000 in
set_option maxRecDepth 100000 in
theorem fits_V (d : Nat) (v : V) (x : It) (k o : Int) (w : World) (hx : VAt d w v x) (hT : Tabs w) :
    Calls Tryz.prog 37 #[x.v, .agg #[.int .i64 k, .int .i64 o]] w fun e w' => e = .returned (.bool (fitsB v k o)) ∧ Below w.heap.size w w' := by
  have hright := fun W (hb : Below w.heap.size w W) => right_V d v x W (hx.below hb) (hT.below hb)
  obtain ⟨hfine, hk, hn, hs, ys, hlen, hlies, hin⟩ := hx.top
  have hym : x.m = ys.length := by have := hx.top.len; omega
  have hyk : ∀ (i : Nat) (h : i < ys.length) (h' : i < v.l.length), ys[i].k = v.l[i].k := fun i h h' => (hin i h h').same.1
  have hlm : ys.length ≤ 9223372036854775807 := by rw [hlen]; exact hfine.l
  generalize hr : fitsB v k o = r
  unfold fitsB at hr
  rw [← hk] at hr
  generalize v.ok = rt at hright hr
  have hall : v.l.all (fun u => fkB u.k o) = ys.all (fun y => fkB y.k o) := by
    have g1 : v.l.all (fun u => fkB u.k o) = (v.l.map V.k).all (fun a => fkB a o) := by rw [List.all_map]; rfl
    have g2 : ys.all (fun y => fkB y.k o) = (ys.map It.k).all (fun a => fkB a o) := by rw [List.all_map]; rfl
    rw [g1, g2, items_map (It.k) (V.k) hlen (fun i a b => hyk i a b)]
  rw [hall] at hr
  clear hall hyk hin hlen hfine hx hk hn hs hT
  obtain ⟨a, n, s, p, m, c⟩ := x
  simp only at hym hr hright hlies ⊢
  subst hym
  have hb2 : Below w.heap.size w ((w.alloc (.cells #[.int .i64 a, .int .i64 n, .string s, .slice p ys.length c] 37)).alloc (.cells #[.int .i64 k, .int .i64 o] 46)) := below_two _ _
  have hV0 := (VBox.new w a n s (.slice p ys.length c)).alloc (.cells #[.int .i64 k, .int .i64 o] 46)
  have hT0 := TBox.new (w.alloc (.cells #[.int .i64 a, .int .i64 n, .string s, .slice p ys.length c] 37)) k o
  rw [World.size_alloc] at hT0
  have HR := Lib.hid hr
  have HRIGHT := Lib.hid hright
  have HLIES := Lib.hid hlies
  have HB2 := Lib.hid hb2
  have HV0 := Lib.hid hV0
  have HT0 := Lib.hid hT0
  clear hr hright hlies hb2 hV0 hT0
  generalize hrt : rtB k o = t
  have HRT := Lib.hid hrt
  clear hrt
  have h01 : w.heap.size ≠ w.heap.size + 1 := by omega
  go_enter Tryz.func37, Tryz.ntmps37
  go_wp2_with fail
  refine (rightType_any k o _).mono ?_
  rintro e W1 ⟨rfl, hB1⟩
  rw [HRT.out]
  have hbw := HB2.out.trans (hB1.mono (by simp; omega))
  have hV1 := HV0.out.below hB1
  have hT1 := HT0.out.below hB1
  generalize ((w.alloc (.cells #[.int .i64 a, .int .i64 n, .string s, .slice p ys.length c] 37)).alloc (.cells #[.int .i64 k, .int .i64 o] 46)) = W0 at hB1
  clear hB1 HB2 HV0 HT0
  cases t with
  | false =>
    have hz : r = false := by rw [← HR.out, HRT.out]; rfl
    have HZ := Lib.hid hz
    have HBW := Lib.hid hbw
    clear hz hbw hV1 hT1
    go_wp2_with fail
    go_ret
    exact ⟨by rw [HZ.out]; rfl, HBW.out⟩
  | true =>
    obtain ⟨⟨c0, c1, c2, c3⟩, f0, f1, f2, f3⟩ := hV1.facts
    have HV1 := Lib.hid hV1
    have HT1 := Lib.hid hT1
    have HBW := Lib.hid hbw
    clear hV1 hT1 hbw
    go_wp2_with fail
    refine (HRIGHT.out _ HBW.out).mono ?_
    rintro e W2 ⟨rfl, hB2⟩
    have hV2 := HV1.out.below hB2
    have hT2 := HT1.out.below hB2
    have hbw2 := HBW.out.trans (hB2.mono HBW.out.size)
    clear hB2 c0 c1 c2 c3 f0 f1 f2 f3 HV1 HT1 HBW HRIGHT
    cases rt with
    | false =>
      have hz : r = false := by rw [← HR.out, HRT.out]; rfl
      have HZ := Lib.hid hz
      have HBW := Lib.hid hbw2
      clear hz hbw2 hV2 hT2
      go_wp2_with fail
      go_ret
      exact ⟨by rw [HZ.out]; rfl, HBW.out⟩
    | true =>
      obtain ⟨⟨c0, c1, c2, c3⟩, f0, f1, f2, f3⟩ := hV2.facts
      obtain ⟨e0, e1⟩ := hT2.facts
      have hzz := hV2.lt
      have HV2 := Lib.hid hV2
      have HT2 := Lib.hid hT2
      have HBW := Lib.hid hbw2
      clear hV2 hT2 hbw2
      by_cases h5 : k = 5
      · subst h5
        have hr : r = (ys.all (fun y => fkB y.k o) && a == 5) := by rw [← HR.out, HRT.out]; rfl
        have HR5 := Lib.hid hr
        clear hr HR HRT
        go_wp2_with fail
        go_loopw [25] (fun i wr => ∃ j : Nat, j ≤ ys.length ∧ i = .int .i64 (j : Int) ∧ (ys.take j).all (fun y => fkB y.k o) = true ∧ Below w.heap.size w wr ∧ VBox wr w.heap.size a n s (.slice p ys.length c) ∧ TBox wr (w.heap.size + 1) 5 o) (fun i _ => ys.length - (intOf i).toNat)
        case atStart => exact ⟨0, by omega, rfl, rfl, HBW.out, HV2.out, HT2.out⟩
        case round =>
          obtain ⟨j, hj, rfl, he, hB, hVr, hTr⟩ := hrel
          clear c0 c1 c2 c3 f0 f1 f2 f3 e0 e1 HV2 HT2 HBW hzz
          have HE := Lib.hid he; clear he
          by_cases hlt : j < ys.length
          · obtain ⟨b, off, rfl, hb, hc⟩ := HLIES.out.at (by omega)
            obtain ⟨y, hy⟩ : ∃ y, ys[j] = y := ⟨_, rfl⟩
            have hcx : ∀ (i : Nat) (u : Value), (y.cells)[i]? = some u → wr.cell? ⟨b, off + j * 4 + i, none⟩ = some u := fun i u hu => by
              rw [hB.cell (p := ⟨b, off + j * 4 + i, none⟩) hb, Nat.add_assoc]
              exact hc _ _ (itsCells_at ys j hlt i u (by rw [hy]; exact hu))
            obtain ⟨c0, c1, c2, c3⟩ := cell_four (W := wr) (b := b) (off := off) (k := j) (x := y) hcx
            obtain ⟨e0, e1⟩ := ((hTr.alloc (.cells #[.int .i64 y.k, .int .i64 y.n, .string y.s, .slice y.p y.m y.c] 37))).facts
            have hz : w.heap.size ≤ wr.heap.size := hB.size
            have hVr' := hVr.alloc (.cells #[.int .i64 y.k, .int .i64 y.n, .string y.s, .slice y.p y.m y.c] 37)
            have hTr' := hTr.alloc (.cells #[.int .i64 y.k, .int .i64 y.n, .string y.s, .slice y.p y.m y.c] 37)
            have hB' := hB.alloc hz (.cells #[.int .i64 y.k, .int .i64 y.n, .string y.s, .slice y.p y.m y.c] 37)
            have d0 : (0 : Int) ≤ (j : Int) := by omega
            have d2 : (j : Int) < (ys.length : Int) := by omega
            have hno : fkB y.k o = false → r = false := fun h => by rw [HR5.out, all_no hlt (f := fun y => fkB y.k o) (by show fkB ys[j].k o = false; rw [hy]; exact h)]; rfl
            have hyes : fkB y.k o = true → (ys.take (j + 1)).all (fun y => fkB y.k o) = true := fun h => all_take hlt HE.out (by show fkB ys[j].k o = true; rw [hy]; exact h)
            have hcall := fun W => fitsKind_any y o W
            generalize fkB y.k o = q at hno hyes hcall
            have HNO := Lib.hid hno
            have HYES := Lib.hid hyes
            have HV := Lib.hid hVr'
            have HTT := Lib.hid hTr'
            have HB := Lib.hid hB'
            have HC := Lib.hid hcall
            clear hno hyes hVr' hTr' hB' hVr hTr hy hcx hc hcall
            obtain ⟨yk, yn, yss, yp, ym, yc⟩ := y
            simp only at *
            go_wp2_with fail
            refine (HC.out _).mono ?_
            rintro e W ⟨rfl, hBq⟩
            have hVq := HV.out.below hBq
            have hTq := HTT.out.below hBq
            have hBW := HB.out.trans (hBq.mono HB.out.size)
            clear hBq c0 c1 c2 c3 e0 e1
            cases q with
            | true =>
              have htk := HYES.out rfl
              have HTK := Lib.hid htk
              clear htk
              go_wp2_with fail
              exact ⟨⟨j + 1, by omega, by go_num, HTK.out, hBW, hVq, hTq⟩, by simp [intOf]; omega⟩
            | false =>
              have hz := HNO.out rfl
              have HZ := Lib.hid hz
              clear hz
              go_wp2_with fail
              go_ret
              exact ⟨by rw [HZ.out]; rfl, hBW⟩
          · obtain rfl : j = ys.length := by omega
            obtain ⟨⟨c0, c1, c2, c3⟩, f0, f1, f2, f3⟩ := hVr.facts
            have hr : r = (a == 5) := by
              rw [HR5.out]
              have := HE.out
              rw [List.take_of_length_le (Nat.le_refl _)] at this
              rw [this]; rfl
            have HQ := Lib.hid hr
            clear hr
            go_wp2_with fail
            go_ret
            exact ⟨by rw [HQ.out]; rfl, hB⟩
      · have d5 : (k != 5) = true := by rw [bne_iff_ne]; exact h5
        have hr : r = fkB a k := by rw [← HR.out, HRT.out, if_neg h5]; rfl
        have HR5 := Lib.hid hr
        clear hr HR HRT h5
        go_wp2_with fail
        refine (fitsKind_any ⟨a, n, s, p, ys.length, c⟩ k _).mono ?_
        rintro e W ⟨rfl, hBq⟩
        have hBW := HBW.out.trans (hBq.mono HBW.out.size)
        have HBX := Lib.hid hBW
        clear hBW hBq
        rw [← HR5.out]
        go_wp2_with fail
        go_ret
        exact ⟨rfl, HBX.out⟩

/-- what fits and says least -/
def zeroK (k o : Int) : Int := if rtB k o = true ∧ k ≠ 3 ∧ k ≠ 4 then k else 0
set_option maxHeartbeats 2000000 in
set_option maxRecDepth 100000 in
theorem zero_any (k o : Int) (w : World) :
    Calls Tryz.prog 53 #[.agg #[.int .i64 k, .int .i64 o]] w fun e w' => e = .returned (valV (zeroK k o) 0 ⟨#[]⟩ (.slice none 0 0)) ∧ Below w.heap.size w w' := by
  have hT0 := (TBox.new w k o).alloc (.cells #[.int .i64 0, .int .i64 0, .string ⟨#[]⟩, .slice none 0 0] 37)
  have hV0 := VBox.new (w.alloc (.cells #[.int .i64 k, .int .i64 o] 46)) 0 0 ⟨#[]⟩ (.slice none 0 0)
  rw [World.size_alloc] at hV0
  have hb2 : Below w.heap.size w ((w.alloc (.cells #[.int .i64 k, .int .i64 o] 46)).alloc (.cells #[.int .i64 0, .int .i64 0, .string ⟨#[]⟩, .slice none 0 0] 37)) := below_two _ _
  obtain ⟨t, ht⟩ : ∃ t, rtB k o = t := ⟨_, rfl⟩
  have hb : ∀ r, r = zeroK k o → ∀ (e : Ending) (w' : World), (e = .returned (valV r 0 ⟨#[]⟩ (.slice none 0 0)) ∧ Below w.heap.size w w') → (e = .returned (valV (zeroK k o) 0 ⟨#[]⟩ (.slice none 0 0)) ∧ Below w.heap.size w w') := fun r hr e w' h => by rw [← hr]; exact h
  have hc := fun W => rightType_any k o W
  rw [ht] at hc
  have fin : ∀ (W1 : World), Below ((w.alloc (.cells #[.int .i64 k, .int .i64 o] 46)).alloc (.cells #[.int .i64 0, .int .i64 0, .string ⟨#[]⟩, .slice none 0 0] 37)).heap.size ((w.alloc (.cells #[.int .i64 k, .int .i64 o] 46)).alloc (.cells #[.int .i64 0, .int .i64 0, .string ⟨#[]⟩, .slice none 0 0] 37)) W1 → ∀ q : Int, VBox (putBox W1 (w.heap.size + 1) q 0 ⟨#[]⟩ (.slice none 0 0)) (w.heap.size + 1) q 0 ⟨#[]⟩ (.slice none 0 0) ∧ Below w.heap.size w (putBox W1 (w.heap.size + 1) q 0 ⟨#[]⟩ (.slice none 0 0)) := fun W1 hB q =>
    ⟨(hV0.below hB).put q 0 ⟨#[]⟩ (.slice none 0 0), below_put (hb2.trans (hB.mono (by simp; omega))) (Nat.le_succ _) q 0 ⟨#[]⟩ (.slice none 0 0)⟩
  have HT0 := Lib.hid hT0
  have HV0 := Lib.hid hV0
  have HC := Lib.hid hc
  have FIN := Lib.hid fin
  clear hT0 hV0 hb2 hc fin
  have h01 : w.heap.size ≠ w.heap.size + 1 := by omega
  cases t with
  | false =>
    refine Calls.mono ?_ (hb 0 (by unfold zeroK; rw [ht, if_neg (by simp)]))
    clear hb ht
    go_enter Tryz.func53, Tryz.ntmps53
    go_wp2_with fail
    refine (HC.out _).mono ?_
    rintro e W1 ⟨rfl, hB1⟩
    obtain ⟨hV, hB⟩ := FIN.out W1 hB1 0
    obtain ⟨e0, e1⟩ := (HT0.out.below hB1).facts
    obtain ⟨_, f0, f1, f2, f3⟩ := (HV0.out.below hB1).facts
    have HVV := Lib.hid hV
    have HBB := Lib.hid hB
    clear hV hB hB1
    go_wp2_with fail
    have hV := HVV.out
    have hB := HBB.out
    unfold putBox at hV hB
    generalize ((((W1.setCell ⟨w.heap.size + 1, 0, none⟩ (.int .i64 0)).setCell ⟨w.heap.size + 1, 1, none⟩ (.int .i64 0)).setCell ⟨w.heap.size + 1, 2, none⟩ (.string ⟨#[]⟩)).setCell ⟨w.heap.size + 1, 3, none⟩ (.slice none 0 0)) = W9 at hV hB ⊢
    obtain ⟨⟨x0, x1, x2, x3⟩, _⟩ := hV.facts
    exact bodyPost_ret (v := valV 0 0 ⟨#[]⟩ (.slice none 0 0)) (by simp [results, Tryz.results53, go_sem, x0, x1, x2, x3]) rfl ⟨rfl, hB⟩
  | true =>
    by_cases h3 : k = 3
    · have d3 : (k == 3) = true := beq_iff_eq.2 h3
      refine Calls.mono ?_ (hb 0 (by unfold zeroK; rw [if_neg (by omega)]))
      clear hb ht h3
      go_enter Tryz.func53, Tryz.ntmps53
      go_wp2_with fail
      refine (HC.out _).mono ?_
      rintro e W1 ⟨rfl, hB1⟩
      obtain ⟨hV, hB⟩ := FIN.out W1 hB1 0
      obtain ⟨e0, e1⟩ := (HT0.out.below hB1).facts
      obtain ⟨_, f0, f1, f2, f3⟩ := (HV0.out.below hB1).facts
      have HVV := Lib.hid hV
      have HBB := Lib.hid hB
      clear hV hB hB1
      go_wp2_with fail
      have hV := HVV.out
      have hB := HBB.out
      unfold putBox at hV hB
      generalize ((((W1.setCell ⟨w.heap.size + 1, 0, none⟩ (.int .i64 0)).setCell ⟨w.heap.size + 1, 1, none⟩ (.int .i64 0)).setCell ⟨w.heap.size + 1, 2, none⟩ (.string ⟨#[]⟩)).setCell ⟨w.heap.size + 1, 3, none⟩ (.slice none 0 0)) = W9 at hV hB ⊢
      obtain ⟨⟨x0, x1, x2, x3⟩, _⟩ := hV.facts
      exact bodyPost_ret (v := valV 0 0 ⟨#[]⟩ (.slice none 0 0)) (by simp [results, Tryz.results53, go_sem, x0, x1, x2, x3]) rfl ⟨rfl, hB⟩
    · have d3 : (k == 3) = false := beq_eq_false_iff_ne.2 h3
      by_cases h4 : k = 4
      · have d4 : (k == 4) = true := beq_iff_eq.2 h4
        refine Calls.mono ?_ (hb 0 (by unfold zeroK; rw [if_neg (by omega)]))
        clear hb ht h3 h4
        go_enter Tryz.func53, Tryz.ntmps53
        go_wp2_with fail
        refine (HC.out _).mono ?_
        rintro e W1 ⟨rfl, hB1⟩
        obtain ⟨hV, hB⟩ := FIN.out W1 hB1 0
        obtain ⟨e0, e1⟩ := (HT0.out.below hB1).facts
        obtain ⟨_, f0, f1, f2, f3⟩ := (HV0.out.below hB1).facts
        have HVV := Lib.hid hV
        have HBB := Lib.hid hB
        clear hV hB hB1
        go_wp2_with fail
        have hV := HVV.out
        have hB := HBB.out
        unfold putBox at hV hB
        generalize ((((W1.setCell ⟨w.heap.size + 1, 0, none⟩ (.int .i64 0)).setCell ⟨w.heap.size + 1, 1, none⟩ (.int .i64 0)).setCell ⟨w.heap.size + 1, 2, none⟩ (.string ⟨#[]⟩)).setCell ⟨w.heap.size + 1, 3, none⟩ (.slice none 0 0)) = W9 at hV hB ⊢
        obtain ⟨⟨x0, x1, x2, x3⟩, _⟩ := hV.facts
        exact bodyPost_ret (v := valV 0 0 ⟨#[]⟩ (.slice none 0 0)) (by simp [results, Tryz.results53, go_sem, x0, x1, x2, x3]) rfl ⟨rfl, hB⟩
      · have d4 : (k == 4) = false := beq_eq_false_iff_ne.2 h4
        refine Calls.mono ?_ (hb k (by unfold zeroK; rw [if_pos ⟨ht, h3, h4⟩]))
        clear hb ht h3 h4
        go_enter Tryz.func53, Tryz.ntmps53
        go_wp2_with fail
        refine (HC.out _).mono ?_
        rintro e W1 ⟨rfl, hB1⟩
        obtain ⟨hV, hB⟩ := FIN.out W1 hB1 k
        obtain ⟨e0, e1⟩ := (HT0.out.below hB1).facts
        obtain ⟨_, f0, f1, f2, f3⟩ := (HV0.out.below hB1).facts
        have HVV := Lib.hid hV
        have HBB := Lib.hid hB
        clear hV hB hB1
        go_wp2_with fail
        have hV := HVV.out
        have hB := HBB.out
        unfold putBox at hV hB
        generalize ((((W1.setCell ⟨w.heap.size + 1, 0, none⟩ (.int .i64 k)).setCell ⟨w.heap.size + 1, 1, none⟩ (.int .i64 0)).setCell ⟨w.heap.size + 1, 2, none⟩ (.string ⟨#[]⟩)).setCell ⟨w.heap.size + 1, 3, none⟩ (.slice none 0 0)) = W9 at hV hB ⊢
        obtain ⟨⟨x0, x1, x2, x3⟩, _⟩ := hV.facts
        exact bodyPost_ret (v := valV k 0 ⟨#[]⟩ (.slice none 0 0)) (by simp [results, Tryz.results53, go_sem, x0, x1, x2, x3]) rfl ⟨rfl, hB⟩
end Go.Proofs.YtffoklhopmhjaaaGreatDoor
