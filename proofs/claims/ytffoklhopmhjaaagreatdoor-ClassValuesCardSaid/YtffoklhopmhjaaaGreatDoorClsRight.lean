/- class.RightType, mayIndex, Field, Right. -/
import Derived.Deep.RegionHeld3
import Derived.Test.YtffoklhopmhjaaaGreatDoorClsName
set_option linter.unusedSimpArgs false
set_option linter.unusedVariables false
namespace Go.Proofs.YtffoklhopmhjaaaGreatDoor
open Go Go.RowKit Go.Shelf

theorem vat_bare (d : Nat) (W : World) {zk : Int} (hk : -9223372036854775808 ≤ zk ∧ zk ≤ 9223372036854775807) : VAt d W (.mk zk 0 ⟨#[]⟩ []) ⟨zk, 0, ⟨#[]⟩, none, 0, 0⟩ := by
  have hf : (V.mk zk 0 ⟨#[]⟩ []).fine := ⟨hk, ⟨by show (-9223372036854775808 : Int) ≤ 0; decide, by show (0 : Int) ≤ 9223372036854775807; decide⟩, by show (⟨#[]⟩ : ByteArray).size ≤ _; decide, by show ([] : List V).length ≤ _; decide⟩
  have ht : ∀ J, VTop W (V.mk zk 0 ⟨#[]⟩ []) ⟨zk, 0, ⟨#[]⟩, none, 0, 0⟩ J := fun J => ⟨hf, rfl, rfl, rfl, [], rfl, ⟨rfl, .inl ⟨rfl, none, 0, rfl⟩⟩, fun i h => absurd h (by simp)⟩
  cases d with
  | zero => exact ht _
  | succ d => exact ht _
theorem fits_zero (k o : Int) : fitsB (.mk (zeroK k o) 0 ⟨#[]⟩ []) k o = rtB k o := by
  unfold fitsB
  cases hr : rtB k o with
  | false => rfl
  | true =>
    have hk : 1 ≤ k ∧ k ≤ 5 := by
      unfold rtB at hr
      split at hr
      · omega
      · have := of_decide_eq_true hr; omega
    have hz : zeroK k o = if k ≠ 3 ∧ k ≠ 4 then k else 0 := by unfold zeroK; rw [hr]; simp
    rw [hz]
    have hc : k = 1 ∨ k = 2 ∨ k = 3 ∨ k = 4 ∨ k = 5 := by omega
    rcases hc with rfl | rfl | rfl | rfl | rfl <;> rfl

set_option maxHeartbeats 2000000 in
set_option maxRecDepth 100000 in
theorem clsRightType_any (k o : Int) (hk : -9223372036854775808 ≤ k ∧ k ≤ 9223372036854775807) (w : World) (hT : Tabs w) :
    Calls Tryz.prog 20 #[.agg #[.int .i64 k, .int .i64 o]] w fun e w' => e = .returned (.bool (rtB k o)) ∧ Below w.heap.size w w' := by
  have hB := (Below.refl w.heap.size w).alloc (Nat.le_refl _) (.cells #[.int .i64 k, .int .i64 o] 46)
  have hZ0 := TBox.new w k o
  have hzk : -9223372036854775808 ≤ zeroK k o ∧ zeroK k o ≤ 9223372036854775807 := by unfold zeroK; split <;> omega
  have hz := fun W => zero_any k o W
  have hf := fun W (h : Tabs W) => fits_V 0 (.mk (zeroK k o) 0 ⟨#[]⟩ []) ⟨zeroK k o, 0, ⟨#[]⟩, none, 0, 0⟩ k o W (vat_bare 0 W hzk) h
  rw [fits_zero] at hf
  generalize zeroK k o = zk at hz hf
  generalize rtB k o = r at hf ⊢
  have HZ := Lib.hid hz
  have HF := Lib.hid hf
  have hsw : ∀ W W' : World, (W.cell? ⟨w.heap.size, 0, none⟩ = some (.int .i64 k) ∧ W.cell? ⟨w.heap.size, 1, none⟩ = some (.int .i64 o) ∧ TBox W w.heap.size k o ∧ Below w.heap.size w W) → Below W.heap.size W W' → (W'.cell? ⟨w.heap.size, 0, none⟩ = some (.int .i64 k) ∧ W'.cell? ⟨w.heap.size, 1, none⟩ = some (.int .i64 o) ∧ TBox W' w.heap.size k o ∧ Below w.heap.size w W') := by
    rintro W W' ⟨_, _, h1, h2⟩ hb
    have h3 := h1.below hb
    exact ⟨h3.facts.1, h3.facts.2, h3, h2.trans (hb.mono h2.size)⟩
  have hS0 := hsw _ (w.alloc (.cells #[.int .i64 k, .int .i64 o] 46)).drew ⟨hZ0.facts.1, hZ0.facts.2, hZ0, hB⟩ (Below.refl _ _).drew
  have HSW := Lib.hid hsw
  have HTT := Lib.hid (show ∀ W, Below w.heap.size w W → Tabs W from fun W h => hT.below h)
  clear hz hf hsw hT hzk
  go_enter Tryz.func20, Tryz.ntmps20
  go_wp2_with fail
  generalize w.alloc (.cells #[.int .i64 k, .int .i64 o] 46) = U at hS0 ⊢
  go_region_held3 (fun W : World => W.cell? ⟨w.heap.size, 0, none⟩ = some (.int .i64 k) ∧ W.cell? ⟨w.heap.size, 1, none⟩ = some (.int .i64 o) ∧ TBox W w.heap.size k o ∧ Below w.heap.size w W)
    (first | assumption | exact HSW.out _ _ (by assumption) (by assumption))
    (first
      | (go_at_call 53; (refine (HZ.out _).mono ?_); rintro e W1 ⟨rfl, hB1⟩; have hS1 := HSW.out _ _ hS0 hB1)
      | (go_at_call 37; (refine (HF.out _ (HTT.out _ hS1.2.2.2)).mono ?_); rintro e W2 ⟨rfl, hB2⟩; have hS2 := HSW.out _ _ hS1 hB2))
  all_goals
    go_wp2_with fail
    go_ret
    exact ⟨rfl, hS2.2.2.2⟩

set_option maxHeartbeats 1000000 in
set_option maxRecDepth 100000 in
theorem mayIndex_any (k o : Int) (w : World) :
    Calls Tryz.prog 52 #[.agg #[.int .i64 k, .int .i64 o]] w fun e w' => e = .returned (.bool (mayIx k)) ∧ Below w.heap.size w w' := by
  have hb : ∀ r, r = mayIx k → ∀ (e : Ending) (w' : World), (e = .returned (.bool r) ∧ Below w.heap.size w w') → (e = .returned (.bool (mayIx k)) ∧ Below w.heap.size w w') := fun r hr e w' h => by rw [← hr]; exact h
  have hB : Below w.heap.size w (w.alloc (.cells #[.int .i64 k, .int .i64 o] 46)) := (Below.refl _ _).alloc (Nat.le_refl _) _
  obtain ⟨c0, c1⟩ := (TBox.new w k o).facts
  by_cases h1 : k = 1
  · have d1 : (k == 1) = true := beq_iff_eq.2 h1
    refine Calls.mono ?_ (hb true (decide_eq_true (by omega)).symm)
    clear hb h1
    go_enter Tryz.func52, Tryz.ntmps52
    go_wp2_with fail
    go_ret
    exact ⟨rfl, hB⟩
  · have d1 : (k == 1) = false := beq_eq_false_iff_ne.2 h1
    by_cases h2 : k = 2
    · have d2 : (k == 2) = true := beq_iff_eq.2 h2
      refine Calls.mono ?_ (hb true (decide_eq_true (by omega)).symm)
      clear hb h1 h2
      go_enter Tryz.func52, Tryz.ntmps52
      go_wp2_with fail
      go_ret
      exact ⟨rfl, hB⟩
    · have d2 : (k == 2) = false := beq_eq_false_iff_ne.2 h2
      by_cases h3 : k = 3
      · have d3 : (k == 3) = true := beq_iff_eq.2 h3
        refine Calls.mono ?_ (hb true (decide_eq_true (by omega)).symm)
        clear hb h1 h2 h3
        go_enter Tryz.func52, Tryz.ntmps52
        go_wp2_with fail
        go_ret
        exact ⟨rfl, hB⟩
      · have d3 : (k == 3) = false := beq_eq_false_iff_ne.2 h3
        refine Calls.mono ?_ (hb false (decide_eq_false (by omega)).symm)
        clear hb h1 h2 h3
        go_enter Tryz.func52, Tryz.ntmps52
        go_wp2_with fail
        go_ret
        exact ⟨rfl, hB⟩

/-- a field's four cells in block b -/
def FBox (W : World) (b : Nat) (f : Fl) : Prop := W.heap[b]? = some (.cells #[.string f.nm, .int .i64 f.k, .int .i64 f.o, .bool f.ix] 48 (0, 0))
theorem FBox.lt {W : World} {b : Nat} {f : Fl} (h : FBox W b f) : b < W.heap.size := (Array.getElem?_eq_some_iff.1 h).1
theorem FBox.new (W : World) (f : Fl) : FBox (W.alloc (.cells #[.string f.nm, .int .i64 f.k, .int .i64 f.o, .bool f.ix] 48)) W.heap.size f := World.alloc_heap_new _ _
theorem FBox.below {W W' : World} {b : Nat} {f : Fl} (h : FBox W b f) (hb : Below W.heap.size W W') : FBox W' b f := (hb.block b h.lt).trans h
theorem FBox.facts {W : World} {b : Nat} {f : Fl} (h : FBox W b f) : W.cell? ⟨b, 0, none⟩ = some (.string f.nm) ∧ W.cell? ⟨b, 1, none⟩ = some (.int .i64 f.k) ∧ W.cell? ⟨b, 2, none⟩ = some (.int .i64 f.o) ∧ W.cell? ⟨b, 3, none⟩ = some (.bool f.ix) := by
  refine ⟨?_, ?_, ?_, ?_⟩ <;> (rw [Lib.cell_of_heap h]; rfl)
/-- a class's two cells in block b -/
def CBox (W : World) (b : Nat) (nm : ByteArray) (p : Option Addr) (m c : Nat) : Prop := W.heap[b]? = some (.cells #[.string nm, .slice p m c] 29 (0, 0))
theorem CBox.lt {W : World} {b : Nat} {nm : ByteArray} {p : Option Addr} {m c : Nat} (h : CBox W b nm p m c) : b < W.heap.size := (Array.getElem?_eq_some_iff.1 h).1
theorem CBox.new (W : World) (nm : ByteArray) (p : Option Addr) (m c : Nat) : CBox (W.alloc (.cells #[.string nm, .slice p m c] 29)) W.heap.size nm p m c := World.alloc_heap_new _ _
theorem CBox.below {W W' : World} {b : Nat} {nm : ByteArray} {p : Option Addr} {m c : Nat} (h : CBox W b nm p m c) (hb : Below W.heap.size W W') : CBox W' b nm p m c := (hb.block b h.lt).trans h
theorem CBox.alloc {W : World} {b : Nat} {nm : ByteArray} {p : Option Addr} {m c : Nat} (h : CBox W b nm p m c) (o : Obj) : CBox (W.alloc o) b nm p m c := h.below ((Below.refl _ _).alloc (Nat.le_refl _) o)
theorem CBox.facts {W : World} {b : Nat} {nm : ByteArray} {p : Option Addr} {m c : Nat} (h : CBox W b nm p m c) : W.cell? ⟨b, 0, none⟩ = some (.string nm) ∧ W.cell? ⟨b, 1, none⟩ = some (.slice p m c) := by
  constructor <;> (rw [Lib.cell_of_heap h]; rfl)

set_option maxHeartbeats 1000000 in
set_option maxRecDepth 100000 in
theorem isNamed_any (f : Fl) (nb : Nat) (nm : ByteArray) (w : World) (hn : w.cell? ⟨nb, 0, none⟩ = some (.string nm)) :
    Calls Tryz.prog 50 #[f.v, .pointer (some ⟨nb, 0, none⟩)] w fun e w' => e = .returned (.bool (f.nm.toList == nm.toList)) ∧ Below w.heap.size w w' := by
  have hlt : nb < w.heap.size := World.block_lt_of_cell? _ _ hn
  have hal : Below w.heap.size w (w.alloc (.cells #[.string f.nm, .int .i64 f.k, .int .i64 f.o, .bool f.ix] 48)) := (Below.refl _ _).alloc (Nat.le_refl _) _
  have hn' := (hal.cell (p := ⟨nb, 0, none⟩) hlt).trans hn
  obtain ⟨c0, _⟩ := (FBox.new w f).facts
  generalize hq : (f.nm.toList == nm.toList) = q
  have HQ := Lib.hid hq
  clear hq
  go_enter Tryz.func50, Tryz.ntmps50
  go_wp2_with fail
  go_ret
  exact ⟨by rw [← HQ.out]; rfl, hal⟩

def ixOf (r : Option Nat) : Int := match r with
  | none => -1
  | some i => (i : Int)
theorem fieldAt_go {fs : List Fl} {nm : ByteArray} {k : Nat} (h : k < fs.length) (hb : ∀ j (hj : j < fs.length), j < k → (fs[j].nm.toList == nm.toList) = false) (hx : (fs[k].nm.toList == nm.toList) = true) : fieldAt fs nm = some k :=
  fieldAt_some h (by simpa using hx) (fun j hj => by have := hb j (by omega) hj; simpa using this)
theorem fieldAt_no {fs : List Fl} {nm : ByteArray} (hb : ∀ j (hj : j < fs.length), j < fs.length → (fs[j].nm.toList == nm.toList) = false) : fieldAt fs nm = none :=
  fieldAt_none (fun j hj => by have := hb j hj hj; simpa using this)

set_option maxHeartbeats 2000000 in
set_option maxRecDepth 100000 in
theorem indexFunc_any (p : Option Addr) (m c : Nat) (fs : List Fl) (nb : Nat) (nm : ByteArray) (w : World) (hl : FLies w p m c fs) (hm : m ≤ 9223372036854775807) (hn : w.cell? ⟨nb, 0, none⟩ = some (.string nm)) :
    Calls Tryz.prog 49 #[.slice p m c, .func (.func 50) #[] #[.pointer (some ⟨nb, 0, none⟩)]] w fun e w' => e = .returned (.int .i64 (ixOf (fieldAt fs nm))) ∧ Below w.heap.size w w' := by
  obtain ⟨rfl, hL⟩ := hl
  have hlt0 : nb < w.heap.size := World.block_lt_of_cell? _ _ hn
  have hcall := fun (f : Fl) W (h : Below w.heap.size w W) => isNamed_any f nb nm W ((h.cell (p := ⟨nb, 0, none⟩) hlt0).trans hn)
  have hgo := fun k h => fieldAt_go (fs := fs) (nm := nm) (k := k) h
  have hno := fieldAt_no (fs := fs) (nm := nm)
  generalize fieldAt fs nm = r at hgo hno ⊢
  have HL := Lib.hid hL
  have HC := Lib.hid hcall
  have HGO := Lib.hid hgo
  have HNO := Lib.hid hno
  clear hL hcall hgo hno hn
  go_enter Tryz.func49, Tryz.ntmps49
  go_wp2_with fail
  go_loopw [8] (fun i wr => ∃ k : Nat, k ≤ fs.length ∧ i = .int .i64 (k : Int) ∧ (∀ j (hj : j < fs.length), j < k → (fs[j].nm.toList == nm.toList) = false) ∧ Below w.heap.size w wr) (fun i _ => fs.length - (intOf i).toNat)
  case atStart => exact ⟨0, by omega, rfl, fun j _ h => absurd h (by omega), Below.refl _ _⟩
  case round =>
    obtain ⟨k, hk, rfl, he, hB⟩ := hrel
    have HE := Lib.hid he; clear he
    by_cases hlt : k < fs.length
    · have e1 : decide ((k : Int) < (fs.length : Int)) = true := decide_eq_true (by omega)
      have e1' : (k : Int) < (fs.length : Int) := by omega
      have e0 : (0 : Int) ≤ (k : Int) := by omega
      obtain ⟨b, off, rfl, hb, hc⟩ := HL.out.at (by omega)
      have hcx : ∀ (i : Nat) (u : Value), ((fs[k]'hlt).cells)[i]? = some u → wr.cell? ⟨b, off + k * 4 + i, none⟩ = some u := fun i u hu => by
        rw [hB.cell (p := ⟨b, off + k * 4 + i, none⟩) hb, Nat.add_assoc]
        exact hc _ _ (flCells_at fs k hlt i u hu)
      have hcall := HC.out (fs[k]'hlt) wr hB
      have hgo := HGO.out k hlt HE.out
      have hnx : ((fs[k]'hlt).nm.toList == nm.toList) = false → ∀ j (hj : j < fs.length), j < k + 1 → (fs[j].nm.toList == nm.toList) = false := fun h j hj hjk => by
        rcases Nat.lt_or_ge j k with h1 | h1
        · exact HE.out j hj h1
        · have e : j = k := by omega
          subst e; exact h
      generalize ((fs[k]'hlt).nm.toList == nm.toList) = q at hcall hgo hnx
      generalize fs[k]'hlt = f at hcx hcall
      obtain ⟨fn, fk, fo, fx⟩ := f
      have z0 : wr.cell? ⟨b, off + k * 4, none⟩ = some (.string fn) := hcx 0 _ rfl
      have z1 := hcx 1 _ rfl
      have z2 := hcx 2 _ rfl
      have z3 := hcx 3 _ rfl
      have HCC := Lib.hid hcall
      have HG := Lib.hid hgo
      have HN := Lib.hid hnx
      have HBB := Lib.hid hB
      clear hcx hc hcall hgo hnx hB
      cases q with
      | true =>
        go_wp2_with (go_at_call 50; refine HCC.out.mono ?_; rintro e W1 ⟨rfl, hB1⟩)
        go_ret
        exact ⟨by rw [HG.out (by trivial)]; rfl, HBB.out.trans (hB1.mono HBB.out.size)⟩
      | false =>
        go_wp2_with (go_at_call 50; refine HCC.out.mono ?_; rintro e W1 ⟨rfl, hB1⟩)
        exact ⟨⟨k + 1, by omega, by go_num, HN.out (by trivial), HBB.out.trans (hB1.mono HBB.out.size)⟩, by simp [intOf]; omega⟩
    · obtain rfl : k = fs.length := by omega
      have e1 : decide ((fs.length : Int) < (fs.length : Int)) = false := decide_eq_false (by omega)
      have hr := HNO.out HE.out
      have HR := Lib.hid hr
      clear hr
      go_wp2_with fail
      go_ret
      exact ⟨by rw [HR.out]; rfl, hB⟩

end Go.Proofs.YtffoklhopmhjaaaGreatDoor
