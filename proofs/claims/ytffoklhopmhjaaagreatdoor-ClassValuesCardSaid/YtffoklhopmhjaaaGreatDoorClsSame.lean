/- slices.Equal of fields, class.Same, moraineref04.Same, moraineref04.Field. -/
import Derived.Test.YtffoklhopmhjaaaGreatDoorClsOk
import Derived.Test.YtffoklhopmhjaaaGreatDoorClsTurn
set_option linter.unusedSimpArgs false
set_option linter.unusedVariables false
namespace Go.Proofs.YtffoklhopmhjaaaGreatDoor
open Go Go.RowKit Go.Shelf

def Fl.eqB (f g : Fl) : Bool := (f.nm.toList == g.nm.toList) && ((f.k == g.k) && ((f.o == g.o) && (f.ix == g.ix)))
theorem Fl.eqB_iff (f g : Fl) : f.eqB g = true ↔ f = g := by
  obtain ⟨a, b, c, d⟩ := f
  obtain ⟨a', b', c', d'⟩ := g
  unfold Fl.eqB
  simp only [Bool.and_eq_true, beq_iff_eq, Fl.mk.injEq]
  constructor
  · rintro ⟨h1, h2, h3, h4⟩; exact ⟨ba_eq_of h1, h2, h3, h4⟩
  · rintro ⟨h1, h2, h3, h4⟩; exact ⟨by rw [h1], h2, h3, h4⟩
noncomputable def flsEq (fs gs : List Fl) : Bool := open Classical in decide (fs = gs)
open Classical in
theorem flsEq_len {fs gs : List Fl} (h : fs.length ≠ gs.length) : flsEq fs gs = false := decide_eq_false (fun e => h (by rw [e]))
open Classical in
theorem flsEq_at {fs gs : List Fl} {k : Nat} (h : k < fs.length) (h' : k < gs.length) (hx : fs[k].eqB gs[k] = false) : flsEq fs gs = false := decide_eq_false (fun e => by
  subst e
  have : fs[k].eqB fs[k] = true := (Fl.eqB_iff _ _).2 rfl
  rw [this] at hx; cases hx)
open Classical in
theorem flsEq_all {fs gs : List Fl} (hl : fs.length = gs.length) (h : ∀ k (h : k < fs.length) (h' : k < gs.length), fs[k].eqB gs[k] = true) : flsEq fs gs = true := decide_eq_true (List.ext_getElem hl (fun i a b => (Fl.eqB_iff _ _).1 (h i a b)))

set_option maxHeartbeats 2000000 in
set_option maxRecDepth 100000 in
theorem equal_any (p : Option Addr) (m c : Nat) (fs : List Fl) (p' : Option Addr) (m' c' : Nat) (gs : List Fl) (w : World) (hl : FLies w p m c fs) (hl' : FLies w p' m' c' gs) (hm : m ≤ 9223372036854775807) (hm' : m' ≤ 9223372036854775807) :
    Calls Tryz.prog 54 #[.slice p m c, .slice p' m' c'] w fun e w' => e = .returned (.bool (flsEq fs gs)) ∧ Below w.heap.size w w' := by
  obtain ⟨rfl, hL⟩ := hl
  obtain ⟨rfl, hL'⟩ := hl'
  by_cases hlen : fs.length = gs.length
  · have hat := fun k h h' => flsEq_at (fs := fs) (gs := gs) (k := k) h h'
    have hall := fun h => flsEq_all (fs := fs) (gs := gs) hlen h
    generalize flsEq fs gs = r at hat hall ⊢
    have HL := Lib.hid hL
    have HL' := Lib.hid hL'
    have HAT := Lib.hid hat
    have HALL := Lib.hid hall
    have HLEN := Lib.hid hlen
    have dne : ((fs.length : Int) != (gs.length : Int)) = false := by simp [hlen]
    have dne' : (fs.length : Int) = (gs.length : Int) := by omega
    clear hL hL' hat hall
    go_enter Tryz.func54, Tryz.ntmps54
    go_wp2_with fail
    go_loopw [13] (fun i wr => ∃ k : Nat, k ≤ fs.length ∧ i = .int .i64 (k : Int) ∧ (∀ j (h : j < fs.length) (h' : j < gs.length), j < k → fs[j].eqB gs[j] = true) ∧ Below w.heap.size w wr) (fun i _ => fs.length - (intOf i).toNat)
    case atStart => exact ⟨0, by omega, rfl, fun j _ _ h => absurd h (by omega), Below.refl _ _⟩
    case round =>
      obtain ⟨k, hk, rfl, he, hB⟩ := hrel
      have HE := Lib.hid he; clear he
      by_cases hlt : k < fs.length
      · have hlt' : k < gs.length := by omega
        have e1 : decide ((k : Int) < (fs.length : Int)) = true := decide_eq_true (by omega)
        have e1' : (k : Int) < (fs.length : Int) := by omega
        have e1'' : (k : Int) < (gs.length : Int) := by omega
        have e0 : (0 : Int) ≤ (k : Int) := by omega
        obtain ⟨b, off, rfl, hb, hc⟩ := HL.out.at (by omega)
        obtain ⟨b', off', rfl, hb', hc'⟩ := HL'.out.at (by omega)
        have hd : Below w.heap.size w wr.drew := hB.drew
        have hcx : ∀ (i : Nat) (u : Value), ((fs[k]'hlt).cells)[i]? = some u → wr.drew.cell? ⟨b, off + k * 4 + i, none⟩ = some u := fun i u hu => by
          rw [hd.cell (p := ⟨b, off + k * 4 + i, none⟩) hb, Nat.add_assoc]
          exact hc _ _ (flCells_at fs k hlt i u hu)
        have hcy : ∀ (i : Nat) (u : Value), ((gs[k]'hlt').cells)[i]? = some u → wr.drew.cell? ⟨b', off' + k * 4 + i, none⟩ = some u := fun i u hu => by
          rw [hd.cell (p := ⟨b', off' + k * 4 + i, none⟩) hb', Nat.add_assoc]
          exact hc' _ _ (flCells_at gs k hlt' i u hu)
        have hat := HAT.out k hlt hlt'
        have hnx : (fs[k]'hlt).eqB (gs[k]'hlt') = true → ∀ j (h : j < fs.length) (h' : j < gs.length), j < k + 1 → fs[j].eqB gs[j] = true := fun h j hj hj' hjk => by
          rcases Nat.lt_or_ge j k with h1 | h1
          · exact HE.out j hj hj' h1
          · have e : j = k := by omega
            subst e; exact h
        generalize fs[k]'hlt = f at hcx hat hnx
        generalize gs[k]'hlt' = g at hcy hat hnx
        obtain ⟨fn, fk, fo, fx⟩ := f
        obtain ⟨gn, gk, go, gx⟩ := g
        unfold Fl.eqB at hat hnx
        simp only at hat hnx
        have z0 : wr.drew.cell? ⟨b, off + k * 4, none⟩ = some (.string fn) := hcx 0 _ rfl
        have z1 : wr.drew.cell? ⟨b, off + k * 4 + 1, none⟩ = some (.int .i64 fk) := hcx 1 _ rfl
        have z2 : wr.drew.cell? ⟨b, off + k * 4 + 2, none⟩ = some (.int .i64 fo) := hcx 2 _ rfl
        have z3 : wr.drew.cell? ⟨b, off + k * 4 + 3, none⟩ = some (.bool fx) := hcx 3 _ rfl
        have y0 : wr.drew.cell? ⟨b', off' + k * 4, none⟩ = some (.string gn) := hcy 0 _ rfl
        have y1 : wr.drew.cell? ⟨b', off' + k * 4 + 1, none⟩ = some (.int .i64 gk) := hcy 1 _ rfl
        have y2 : wr.drew.cell? ⟨b', off' + k * 4 + 2, none⟩ = some (.int .i64 go) := hcy 2 _ rfl
        have y3 : wr.drew.cell? ⟨b', off' + k * 4 + 3, none⟩ = some (.bool gx) := hcy 3 _ rfl
        have HATT := Lib.hid hat
        have HNX := Lib.hid hnx
        have HD := Lib.hid hd
        clear hcx hcy hc hc' hat hnx hd hB
        by_cases q0 : fn.toList = gn.toList
        · skip
          by_cases q1 : fk = gk
          · skip
            by_cases q2 : fo = go
            · skip
              by_cases q3 : fx = gx
              · skip
                have hnx := HNX.out (by rw [beq_iff_eq.2 q0, beq_iff_eq.2 q1, beq_iff_eq.2 q2, beq_iff_eq.2 q3]; rfl)
                have HN2 := Lib.hid hnx
                clear hnx
                go_wp2_with fail
                go_region
                go_wp2_with fail
                exact ⟨⟨k + 1, by omega, by go_num, HN2.out, HD.out⟩, by simp [intOf]; omega⟩
              · have hz := HATT.out (by rw [beq_iff_eq.2 q0, beq_iff_eq.2 q1, beq_iff_eq.2 q2, beq_eq_false_iff_ne.2 q3]; rfl)
                have HZ := Lib.hid hz
                clear hz
                go_wp2_with fail
                go_region
                go_wp2_with fail
                go_ret
                exact ⟨by rw [HZ.out] <;> rfl, HD.out⟩
            · have hz := HATT.out (by rw [beq_iff_eq.2 q0, beq_iff_eq.2 q1, beq_eq_false_iff_ne.2 q2]; rfl)
              have HZ := Lib.hid hz
              clear hz
              go_wp2_with fail
              go_region
              go_wp2_with fail
              go_ret
              exact ⟨by rw [HZ.out] <;> rfl, HD.out⟩
          · have hz := HATT.out (by rw [beq_iff_eq.2 q0, beq_eq_false_iff_ne.2 q1]; rfl)
            have HZ := Lib.hid hz
            clear hz
            go_wp2_with fail
            go_region
            go_wp2_with fail
            go_ret
            exact ⟨by rw [HZ.out] <;> rfl, HD.out⟩
        · have hz := HATT.out (by rw [beq_eq_false_iff_ne.2 q0]; rfl)
          have HZ := Lib.hid hz
          clear hz
          go_wp2_with fail
          go_region
          go_wp2_with fail
          go_ret
          exact ⟨by rw [HZ.out] <;> rfl, HD.out⟩
      · obtain rfl : k = fs.length := by omega
        have e1 : decide ((fs.length : Int) < (fs.length : Int)) = false := decide_eq_false (by omega)
        have hz := HALL.out (fun j h h' => HE.out j h h' h)
        have HZ := Lib.hid hz
        clear hz
        go_wp2_with fail
        go_ret
        exact ⟨by rw [HZ.out] <;> rfl, hB⟩
  · have dne : ((fs.length : Int) != (gs.length : Int)) = true := by simp; omega
    have dne' : ¬ (fs.length : Int) = (gs.length : Int) := by omega
    have hz := flsEq_len hlen
    have HZ := Lib.hid hz
    clear hz
    go_enter Tryz.func54, Tryz.ntmps54
    go_wp2_with fail
    go_ret
    exact ⟨by rw [HZ.out] <;> rfl, Below.refl _ _⟩

def Cl.same (a b : Cl) : Prop := a = b
/-- are two classes the same -/
noncomputable def sameC (a b : Cl) : Bool := open Classical in decide (a = b)
open Classical in
theorem sameC_split (a b : Cl) : sameC a b = ((a.nm.toList == b.nm.toList) && flsEq a.fs b.fs) := by
  obtain ⟨an, af⟩ := a
  obtain ⟨bn, bf⟩ := b
  unfold sameC flsEq
  by_cases h : an = bn
  · by_cases h2 : af = bf
    · rw [decide_eq_true (by rw [h, h2]), decide_eq_true h2, h]; simp
    · rw [decide_eq_false (fun e => h2 (Cl.mk.inj e).2), decide_eq_false h2]; simp
  · rw [decide_eq_false (fun e => h (Cl.mk.inj e).1), beq_eq_false_iff_ne.2 (fun e => h (ba_eq_of e))]; rfl
open Classical in
theorem sameC_self (a : Cl) : sameC a a = true := decide_eq_true rfl

set_option maxHeartbeats 2000000 in
set_option maxRecDepth 100000 in
theorem clsSame_any (cn : ByteArray) (p : Option Addr) (m c : Nat) (fs : List Fl) (dn : ByteArray) (p' : Option Addr) (m' c' : Nat) (gs : List Fl) (w : World) (hl : FLies w p m c fs) (hl' : FLies w p' m' c' gs) (hm : m ≤ 9223372036854775807) (hm' : m' ≤ 9223372036854775807) :
    Calls Tryz.prog 21 #[clV cn p m c, clV dn p' m' c'] w fun e w' => e = .returned (.bool (sameC ⟨cn, fs⟩ ⟨dn, gs⟩)) ∧ Below w.heap.size w w' := by
  rw [sameC_split]
  simp only
  have b2 : Below w.heap.size w ((w.alloc (.cells #[.string cn, .slice p m c] 29)).alloc (.cells #[.string dn, .slice p' m' c'] 29)) := below_two _ _
  have heq := equal_any p m c fs p' m' c' gs _ (hl.below b2) (hl'.below b2) hm hm'
  have hc1 := (CBox.new w cn p m c).alloc (.cells #[.string dn, .slice p' m' c'] 29)
  have hc2 := CBox.new (w.alloc (.cells #[.string cn, .slice p m c] 29)) dn p' m' c'
  rw [World.size_alloc] at hc2
  generalize flsEq fs gs = r at heq ⊢
  obtain ⟨c0, c1⟩ := hc1.facts
  obtain ⟨d0, d1⟩ := hc2.facts
  have HEQ := Lib.hid heq
  have HB := Lib.hid b2
  clear heq b2 hc1 hc2 hl hl'
  generalize hq : (cn.toList == dn.toList) = q
  cases q with
  | false =>
    have q0 : ¬ cn.toList = dn.toList := by simpa using hq
    go_enter Tryz.func21, Tryz.ntmps21
    go_wp2_with fail
    go_ret
    exact ⟨rfl, HB.out⟩
  | true =>
    go_enter Tryz.func21, Tryz.ntmps21
    go_wp2_with fail
    refine HEQ.out.mono ?_
    rintro e W1 ⟨rfl, hB1⟩
    have hbw := HB.out.trans (hB1.mono HB.out.size)
    go_wp2_with fail
    go_ret
    exact ⟨rfl, hbw⟩

set_option maxHeartbeats 2000000 in
set_option maxRecDepth 100000 in
theorem rfield_any (cn : ByteArray) (p : Option Addr) (m c : Nat) (fs : List Fl) (nm : ByteArray) (w : World) (hl : FLies w p m c fs) (hm : m ≤ 9223372036854775807) :
    Calls Tryz.prog 23 #[clV cn p m c, .string nm] w (fieldPost fs nm w) := by
  obtain ⟨rfl, hL⟩ := hl
  have hpost : fieldPost fs nm w = fun e w' => e = .returned (.tuple #[.int .i64 (((fieldAt fs nm).getD 0 : Nat) : Int), .bool (fieldAt fs nm).isSome]) ∧ Below w.heap.size w w' := rfl
  rw [hpost]
  clear hpost
  have hgo := fun k h => fieldAt_go (fs := fs) (nm := nm) (k := k) h
  have hno := fieldAt_no (fs := fs) (nm := nm)
  have hb : Below w.heap.size w (w.alloc (.cells #[.string cn, .slice p fs.length c] 29)) := (Below.refl _ _).alloc (Nat.le_refl _) _
  have hC := CBox.new w cn p fs.length c
  generalize fieldAt fs nm = r at hgo hno ⊢
  have HL := Lib.hid hL
  have HGO := Lib.hid hgo
  have HNO := Lib.hid hno
  have HB := Lib.hid hb
  have HC := Lib.hid hC
  clear hL hgo hno hb hC
  go_enter Tryz.func23, Tryz.ntmps23
  go_wp2_with fail
  go_loopw [6] (fun i wr => ∃ k : Nat, k ≤ fs.length ∧ i = .int .i64 (k : Int) ∧ (∀ j (hj : j < fs.length), j < k → (fs[j].nm.toList == nm.toList) = false) ∧ Below w.heap.size w wr ∧ CBox wr w.heap.size cn p fs.length c) (fun i _ => fs.length - (intOf i).toNat)
  case atStart => exact ⟨0, by omega, rfl, fun j _ h => absurd h (by omega), HB.out, HC.out⟩
  case round =>
    obtain ⟨k, hk, rfl, he, hB, hCr⟩ := hrel
    have HE := Lib.hid he; clear he
    obtain ⟨c0, c1⟩ := hCr.facts
    by_cases hlt : k < fs.length
    · have e1 : decide ((k : Int) < (fs.length : Int)) = true := decide_eq_true (by omega)
      have e1' : (k : Int) < (fs.length : Int) := by omega
      have e0 : (0 : Int) ≤ (k : Int) := by omega
      obtain ⟨b, off, rfl, hb, hc⟩ := HL.out.at (by omega)
      have hcx : ∀ (i : Nat) (u : Value), ((fs[k]'hlt).cells)[i]? = some u → wr.cell? ⟨b, off + k * 4 + i, none⟩ = some u := fun i u hu => by
        rw [hB.cell (p := ⟨b, off + k * 4 + i, none⟩) hb, Nat.add_assoc]
        exact hc _ _ (flCells_at fs k hlt i u hu)
      have hgo := HGO.out k hlt HE.out
      have hnx : ((fs[k]'hlt).nm.toList == nm.toList) = false → ∀ j (hj : j < fs.length), j < k + 1 → (fs[j].nm.toList == nm.toList) = false := fun h j hj hjk => by
        rcases Nat.lt_or_ge j k with h1 | h1
        · exact HE.out j hj h1
        · have e : j = k := by omega
          subst e; exact h
      generalize fs[k]'hlt = f at hcx hgo hnx
      obtain ⟨fn, fk, fo, fx⟩ := f
      simp only at hgo hnx
      have z0 : wr.cell? ⟨b, off + k * 4, none⟩ = some (.string fn) := hcx 0 _ rfl
      have HG := Lib.hid hgo
      have HN := Lib.hid hnx
      have HBB := Lib.hid hB
      have HCC := Lib.hid hCr
      clear hcx hc hgo hnx hB hCr
      cases hq : (fn.toList == nm.toList) with
      | true =>
        have hr := HG.out hq
        have e2 : ((r.getD 0 : Nat) : Int) = (k : Int) := by rw [hr]; rfl
        have e3 : r.isSome = true := by rw [hr]; rfl
        have E2 := Lib.hid e2
        have E3 := Lib.hid e3
        clear hr e2 e3
        go_wp2_with fail
        go_ret2
        exact ⟨by rw [E2.out, E3.out] <;> rfl, HBB.out⟩
      | false =>
        have hz := HN.out hq
        have HZ := Lib.hid hz
        clear hz
        go_wp2_with fail
        exact ⟨⟨k + 1, by omega, by go_num, HZ.out, HBB.out, HCC.out⟩, by simp [intOf]; omega⟩
    · obtain rfl : k = fs.length := by omega
      have e1 : decide ((fs.length : Int) < (fs.length : Int)) = false := decide_eq_false (by omega)
      have hr := HNO.out HE.out
      have e2 : ((r.getD 0 : Nat) : Int) = 0 := by rw [hr]; rfl
      have e3 : r.isSome = false := by rw [hr]; rfl
      have E2 := Lib.hid e2
      have E3 := Lib.hid e3
      clear hr e2 e3
      go_wp2_with fail
      go_ret2
      exact ⟨by rw [E2.out, E3.out] <;> rfl, hB⟩
end Go.Proofs.YtffoklhopmhjaaaGreatDoor
