/- class.Right. -/
import Derived.Test.YtffoklhopmhjaaaGreatDoorClsField
set_option linter.unusedSimpArgs false
set_option linter.unusedVariables false
namespace Go.Proofs.YtffoklhopmhjaaaGreatDoor
open Go Go.RowKit Go.Shelf

theorem fieldAt_there {fs : List Fl} {k : Nat} (h : k < fs.length) : ∃ i, fieldAt fs fs[k].nm = some i := by
  cases hf : fieldAt fs fs[k].nm with
  | some i => exact ⟨i, rfl⟩
  | none =>
    unfold fieldAt at hf
    rw [List.findIdx?_eq_none_iff] at hf
    have := hf fs[k] (List.getElem_mem h)
    simp at this
theorem ok_false_at {cn : ByteArray} {fs : List Fl} {k : Nat} (h : k < fs.length) (hg : goodAt fs k = false) : (Cl.mk cn fs).ok = false := by
  unfold Cl.ok
  have : (List.range fs.length).all (goodAt fs) = false := by
    rw [List.all_eq_false]
    exact ⟨k, List.mem_range.2 h, by rw [hg]; decide⟩
  rw [show (Cl.mk cn fs).fs = fs from rfl, this, Bool.and_false]
theorem ok_true_of {cn : ByteArray} {fs : List Fl} (h1 : nmOk cn.data.toList = true) (h2 : fs.length ≤ 8) (h : ∀ k, k < fs.length → goodAt fs k = true) : (Cl.mk cn fs).ok = true := by
  unfold Cl.ok
  rw [Bool.and_eq_true, Bool.and_eq_true]
  exact ⟨⟨h1, decide_eq_true h2⟩, List.all_eq_true.2 (fun k hk => h k (List.mem_range.1 hk))⟩

set_option maxHeartbeats 4000000 in
set_option maxRecDepth 100000 in
theorem clsRight_any (cn : ByteArray) (p : Option Addr) (m c : Nat) (fs : List Fl) (hcn : cn.size ≤ 9223372036854775807) (hff : ∀ f ∈ fs, f.fine) (w : World) (hl : FLies w p m c fs) (hm : m ≤ 9223372036854775807) (hT : Tabs w) :
    Calls Tryz.prog 19 #[clV cn p m c] w fun e w' => e = .returned (.bool (Cl.mk cn fs).ok) ∧ Below w.heap.size w w' := by
  have hfl := fun (nm : ByteArray) W (h : Below w.heap.size w W) => field_any cn p m c fs nm W (hl.below h) hm
  obtain ⟨rfl, hL⟩ := hl
  have hb : Below w.heap.size w (w.alloc (.cells #[.string cn, .slice p fs.length c] 29)) := (Below.refl _ _).alloc (Nat.le_refl _) _
  have hC := CBox.new w cn p fs.length c
  have hn := fun W => name_any cn hcn W
  have hbad1 : nmOk cn.data.toList = false → (Cl.mk cn fs).ok = false := fun h => by unfold Cl.ok; rw [show (Cl.mk cn fs).nm = cn from rfl, h]; rfl
  have hbad2 : ¬ fs.length ≤ 8 → (Cl.mk cn fs).ok = false := fun h => by unfold Cl.ok; rw [show (Cl.mk cn fs).fs = fs from rfl, decide_eq_false h, Bool.and_false]; rfl
  have hbad3 := fun k (h : k < fs.length) hg => ok_false_at (cn := cn) h hg
  have hgood := fun h1 h2 h => ok_true_of (cn := cn) (fs := fs) h1 h2 h
  generalize (Cl.mk cn fs).ok = r at hbad1 hbad2 hbad3 hgood ⊢
  generalize nmOk cn.data.toList = q at hn hbad1 hgood
  have HFL := Lib.hid hfl
  have HL := Lib.hid hL
  have HB := Lib.hid hb
  have HC := Lib.hid hC
  have HN := Lib.hid hn
  have HBAD1 := Lib.hid hbad1
  have HBAD2 := Lib.hid hbad2
  have HBAD3 := Lib.hid hbad3
  have HGOOD := Lib.hid hgood
  have HFF := Lib.hid hff
  have HTT := Lib.hid (show ∀ W, Below w.heap.size w W → Tabs W from fun W h => hT.below h)
  obtain ⟨c0, c1⟩ := hC.facts
  clear hfl hL hb hC hn hbad1 hbad2 hbad3 hgood hff hT
  go_enter Tryz.func19, Tryz.ntmps19
  go_wp2_with fail
  refine (HN.out _).mono ?_
  rintro e W1 ⟨rfl, rfl⟩
  cases q with
  | false =>
    have hz := HBAD1.out rfl
    have HZ := Lib.hid hz
    clear hz
    go_wp2_with fail
    go_ret
    exact ⟨by rw [HZ.out] <;> rfl, HB.out⟩
  | true =>
    by_cases hl8 : fs.length ≤ 8
    · have d8 : decide ((8 : Int) < (fs.length : Int)) = false := decide_eq_false (by omega)
      have d8' : ¬ (8 : Int) < (fs.length : Int) := by omega
      go_wp2_with fail
      clear c0 c1
      go_loopw [20] (fun i wr => ∃ k : Nat, k ≤ fs.length ∧ i = .int .i64 (k : Int) ∧ (∀ j, j < k → goodAt fs j = true) ∧ Below w.heap.size w wr ∧ CBox wr w.heap.size cn p fs.length c) (fun i _ => fs.length - (intOf i).toNat)
      case atStart => exact ⟨0, by omega, rfl, fun j h => absurd h (by omega), HB.out, HC.out⟩
      case round =>
        obtain ⟨k, hk, rfl, he, hB, hCr⟩ := hrel
        have HE := Lib.hid he; clear he
        by_cases hlt : k < fs.length
        · have e1 : decide ((k : Int) < (fs.length : Int)) = true := decide_eq_true (by omega)
          have e1' : (k : Int) < (fs.length : Int) := by omega
          have e0 : (0 : Int) ≤ (k : Int) := by omega
          obtain ⟨b, off, rfl, hbb, hc⟩ := HL.out.at (by omega)
          have hcx : ∀ (i : Nat) (u : Value), ((fs[k]'hlt).cells)[i]? = some u → wr.cell? ⟨b, off + k * 4 + i, none⟩ = some u := fun i u hu => by
            rw [hB.cell (p := ⟨b, off + k * 4 + i, none⟩) hbb, Nat.add_assoc]
            exact hc _ _ (flCells_at fs k hlt i u hu)
          have hfine := HFF.out _ (List.getElem_mem hlt)
          have hga := goodAt_of hlt
          have hbad := HBAD3.out k hlt
          obtain ⟨i0, hi0⟩ := fieldAt_there hlt
          have hi0l := fieldAt_lt hi0
          rw [hi0] at hga
          have hfcall := HFL.out (fs[k]'hlt).nm
          unfold fieldPost at hfcall
          rw [hi0] at hfcall
          have hnx : goodAt fs k = true → ∀ j, j < k + 1 → goodAt fs j = true := fun h j hj => by
            rcases Nat.lt_or_ge j k with h1 | h1
            · exact HE.out j h1
            · have e : j = k := by omega
              subst e; exact h
          generalize goodAt fs k = gd at hga hbad hnx
          generalize fs[k]'hlt = f at hcx hfine hga hfcall
          obtain ⟨fn, fk, fo, fx⟩ := f
          obtain ⟨hf1, hf2, hf3⟩ := hfine
          simp only at hf1 hf2 hf3 hfcall
          unfold Fl.ok at hga
          simp only at hga
          have hn1 := fun W => name_any fn hf1 W
          have hr1 := fun W (h : Tabs W) => clsRightType_any fk fo hf2 W h
          have hm1 := fun W => mayIndex_any fk fo W
          generalize nmOk fn.data.toList = q1 at hga hn1
          generalize rtB fk fo = q2 at hga hr1
          generalize mayIx fk = q4 at hga hm1
          have z0 : wr.cell? ⟨b, off + k * 4, none⟩ = some (.string fn) := hcx 0 _ rfl
          have z1 : wr.cell? ⟨b, off + k * 4 + 1, none⟩ = some (.int .i64 fk) := hcx 1 _ rfl
          have z2 : wr.cell? ⟨b, off + k * 4 + 2, none⟩ = some (.int .i64 fo) := hcx 2 _ rfl
          have z3 : wr.cell? ⟨b, off + k * 4 + 3, none⟩ = some (.bool fx) := hcx 3 _ rfl
          have hal : Below wr.heap.size wr (wr.alloc (.cells #[.string fn, .int .i64 fk, .int .i64 fo, .bool fx] 48)) := (Below.refl _ _).alloc (Nat.le_refl _) _
          have hF1 := FBox.new wr ⟨fn, fk, fo, fx⟩
          have hC1 := hCr.below hal
          have hB1 := hB.trans (hal.mono hB.size)
          have HF1 := Lib.hid hF1
          have HC1 := Lib.hid hC1
          have HB1 := Lib.hid hB1
          have HGA := Lib.hid hga
          have HBD := Lib.hid hbad
          have HNX := Lib.hid hnx
          have HN1 := Lib.hid hn1
          have HR1 := Lib.hid hr1
          have HM1 := Lib.hid hm1
          have HFC := Lib.hid hfcall
          clear hcx hc hga hbad hnx hn1 hr1 hm1 hfcall hF1 hC1 hB1 hal hCr hB hi0
          go_wp2_with fail
          generalize wr.alloc (.cells #[.string fn, .int .i64 fk, .int .i64 fo, .bool fx] 48) = U at HF1 HC1 HB1 ⊢
          generalize wr.heap.size = bf at HF1 ⊢
          clear z0 z1 z2 z3
          obtain ⟨y0, y1, y2, y3⟩ := HF1.out.facts
          simp only at y0 y1 y2 y3
          have d0 : decide ((k : Int) = (k : Int)) = true := decide_eq_true rfl
          go_wp2_with fail
          refine (HN1.out _).mono ?_
          rintro e W2 ⟨rfl, rfl⟩
          cases q1 with
          | false =>
            have hz := HBD.out (by rw [HGA.out]; rfl)
            have HZ := Lib.hid hz
            clear hz
            go_wp2_with fail
            go_ret
            exact ⟨by rw [HZ.out] <;> rfl, HB1.out⟩
          | true =>
            go_wp2_with fail
            refine (HR1.out _ (HTT.out _ HB1.out)).mono ?_
            rintro e W3 ⟨rfl, hB3⟩
            have HB3 := Lib.hid (HB1.out.trans (hB3.mono HB1.out.size))
            have HF3 := Lib.hid (HF1.out.below hB3)
            have HC3 := Lib.hid (HC1.out.below hB3)
            clear hB3 HB1 HF1 HC1 y0 y1 y2 y3
            obtain ⟨y0, y1, y2, y3⟩ := HF3.out.facts
            simp only at y0 y1 y2 y3
            obtain ⟨c0, c1⟩ := HC3.out.facts
            cases q2 with
            | false =>
              have hz := HBD.out (by rw [HGA.out]; rfl)
              have HZ := Lib.hid hz
              clear hz
              go_wp2_with fail
              go_ret
              exact ⟨by rw [HZ.out] <;> rfl, HB3.out⟩
            | true =>
              cases fx with
              | false =>
                go_wp2_with fail
                refine (HFC.out _ HB3.out).mono ?_
                rintro e W4 ⟨rfl, hB4⟩
                have HB4 := Lib.hid (HB3.out.trans (hB4.mono HB3.out.size))
                have HC4 := Lib.hid (HC3.out.below hB4)
                clear hB4
                by_cases hik : i0 = k
                · have d1 : ((i0 : Int) != (k : Int)) = false := by simp [hik]
                  have d2 : (i0 : Int) = (k : Int) := by omega
                  have hz := HNX.out (by rw [HGA.out, hik]; simp)
                  have HZ := Lib.hid hz
                  clear hz hik
                  go_wp2_with fail
                  exact ⟨⟨k + 1, by omega, by go_num, HZ.out, HB4.out, HC4.out⟩, by simp [intOf]; omega⟩
                · have d1 : ((i0 : Int) != (k : Int)) = true := by simp; omega
                  have d2 : ¬ (i0 : Int) = (k : Int) := by omega
                  have hz := HBD.out (by rw [HGA.out]; simp [hik])
                  have HZ := Lib.hid hz
                  clear hz hik
                  go_wp2_with fail
                  go_ret
                  exact ⟨by rw [HZ.out] <;> rfl, HB4.out⟩
              | true =>
                go_wp2_with fail
                refine (HM1.out _).mono ?_
                rintro e W5 ⟨rfl, hB5⟩
                have HB5 := Lib.hid (HB3.out.trans (hB5.mono HB3.out.size))
                have HF5 := Lib.hid (HF3.out.below hB5)
                have HC5 := Lib.hid (HC3.out.below hB5)
                clear hB5 HB3 HF3 HC3 y0 y1 y2 y3 c0 c1
                obtain ⟨y0, y1, y2, y3⟩ := HF5.out.facts
                simp only at y0 y1 y2 y3
                obtain ⟨c0, c1⟩ := HC5.out.facts
                cases q4 with
                | false =>
                  have hz := HBD.out (by rw [HGA.out]; rfl)
                  have HZ := Lib.hid hz
                  clear hz
                  go_wp2_with fail
                  go_ret
                  exact ⟨by rw [HZ.out] <;> rfl, HB5.out⟩
                | true =>
                  go_wp2_with fail
                  refine (HFC.out _ HB5.out).mono ?_
                  rintro e W4 ⟨rfl, hB4⟩
                  have HB4 := Lib.hid (HB5.out.trans (hB4.mono HB5.out.size))
                  have HC4 := Lib.hid (HC5.out.below hB4)
                  clear hB4
                  by_cases hik : i0 = k
                  · have d1 : ((i0 : Int) != (k : Int)) = false := by simp [hik]
                    have d2 : (i0 : Int) = (k : Int) := by omega
                    have hz := HNX.out (by rw [HGA.out, hik]; simp)
                    have HZ := Lib.hid hz
                    clear hz hik
                    go_wp2_with fail
                    exact ⟨⟨k + 1, by omega, by go_num, HZ.out, HB4.out, HC4.out⟩, by simp [intOf]; omega⟩
                  · have d1 : ((i0 : Int) != (k : Int)) = true := by simp; omega
                    have d2 : ¬ (i0 : Int) = (k : Int) := by omega
                    have hz := HBD.out (by rw [HGA.out]; simp [hik])
                    have HZ := Lib.hid hz
                    clear hz hik
                    go_wp2_with fail
                    go_ret
                    exact ⟨by rw [HZ.out] <;> rfl, HB4.out⟩
        · obtain rfl : k = fs.length := by omega
          have e1 : decide ((fs.length : Int) < (fs.length : Int)) = false := decide_eq_false (by omega)
          have hz := HGOOD.out (by trivial) hl8 HE.out
          have HZ := Lib.hid hz
          clear hz
          go_wp2_with fail
          go_ret
          exact ⟨by rw [HZ.out] <;> rfl, hB⟩
    · have d8 : decide ((8 : Int) < (fs.length : Int)) = true := decide_eq_true (by omega)
      have d8' : (8 : Int) < (fs.length : Int) := by omega
      have hz := HBAD2.out hl8
      have HZ := Lib.hid hz
      clear hz
      go_wp2_with fail
      go_ret
      exact ⟨by rw [HZ.out] <;> rfl, HB.out⟩
end Go.Proofs.YtffoklhopmhjaaaGreatDoor
