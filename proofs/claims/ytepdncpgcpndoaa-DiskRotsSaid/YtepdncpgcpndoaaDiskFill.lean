/- filled of the disk's law. -/
import Derived.Deep.RegionHeld3
import Derived.Test.YtepdncpgcpndoaaDiskMany
set_option linter.unusedSimpArgs false
set_option linter.unusedVariables false
namespace Wire
open Go
/-- a call's raw numbers -/
structure Cl where
  kind : Int
  at' : Int
  s : ByteArray
  place : Int
  mask : Int
  keep : Value
def Cl.cells (c : Cl) : List Value := [.int .u8 c.kind, .int .i64 c.at', .string c.s, .int .i64 c.place, .int .i64 c.mask, c.keep]
structure Cl.good (c : Cl) : Prop where
  at' : -9223372036854775808 ≤ c.at' ∧ c.at' ≤ 9223372036854775807
  s : c.s.size ≤ 9223372036854775807
/-- the writes of raw calls, to six sectors, eight at most -/
def Cl.write (c : Cl) : Nat × List UInt8 := (pickOf c.at' 6, fullOf c.s.data.toList)
def writes (l : List Cl) : List (Nat × List UInt8) := (l.take 8).map Cl.write
theorem flat_at {α : Type} (f : α → List Value) (n : Nat) : ∀ (l : List α) (i : Nat) (h : i < l.length), (∀ a ∈ l, (f a).length = n) → ∀ (j : Nat) (v : Value), (f l[i])[j]? = some v → (l.flatMap f)[i * n + j]? = some v
  | x :: r, 0, _, h, j, v, hv => by
    have hj : j < (f x).length := (List.getElem?_eq_some_iff.1 hv).1
    simp only [List.flatMap_cons]
    rw [Nat.zero_mul, Nat.zero_add, List.getElem?_append_left hj]
    exact hv
  | x :: r, i + 1, hi, h, j, v, hv => by
    have hx : (f x).length = n := h x List.mem_cons_self
    simp only [List.flatMap_cons]
    rw [List.getElem?_append_right (by rw [hx, Nat.succ_mul]; omega), hx, show (i + 1) * n + j - n = i * n + j from by rw [Nat.succ_mul]; omega]
    exact flat_at f n r i (by simpa using hi) (fun y hy => h y (List.mem_cons_of_mem _ hy)) j v hv
end Wire
namespace Go.Proofs.Ytepdncpgcpndoaa
open Go Go.RowKit Wire

theorem Did.mono {B B' : Nat} {W W' : World} {r kb : Nat} {pv pv' : Value} {d' : DS} (h : Did B W W' r kb pv pv' d') (hb : B' ≤ B) : Did B' W W' r kb pv pv' d' := ⟨h.disk.base hb, h.below.mono hb, h.only, h.fresh⟩
/-- a slice's element, in any later world -/
theorem Lies.elem {α : Type} {w X : World} {v : Value} {l : List α} {f : α → List Value} {n : Nat} (h : Lies w v l.length n (l.flatMap f)) (hf : ∀ a ∈ l, (f a).length = n) (hX : Below w.heap.size w X) {i : Nat} (hi : i < l.length) :
    ∃ b off c, v = .slice (some ⟨b, off, none⟩) l.length c ∧ b < w.heap.size ∧ ∀ j u, (f l[i])[j]? = some u → X.cell? ⟨b, off + i * n + j, none⟩ = some u := by
  rcases h.2 with ⟨h0, _⟩ | ⟨b, off, c, hv, hlt, hc⟩
  · omega
  · refine ⟨b, off, c, hv, hlt, fun j u hu => ?_⟩
    rw [hX.cell (p := ⟨b, off + i * n + j, none⟩) hlt, Nat.add_assoc]
    exact hc _ _ (flat_at f n l i hi hf j u hu)
theorem Lies.form {w : World} {v : Value} {n size : Nat} {xs : List Value} (h : Lies w v n size xs) : ∃ p c, v = .slice p n c := by
  rcases h.2 with ⟨h0, p, c, hv⟩ | ⟨b, off, c, hv, _⟩
  · exact ⟨p, c, by rw [h0]; exact hv⟩
  · exact ⟨_, _, hv⟩

theorem pick6 (c : Int) (hc : -9223372036854775808 ≤ c ∧ c ≤ 9223372036854775807) (w : World) :
    Calls Try.prog 17 #[.int .i64 c, .int .i64 6] w fun x w' => x = .returned (.int .i64 (pickOf c 6 : Int)) ∧ w = w' := pick_any c 6 hc (by decide) (by decide) w
/-- what holds while a round of filled reads and calls -/
structure FillK (B : Nat) (w0 : World) (r kb : Nat) (pv : Value) (d : DS) (W : World) : Prop where
  disk : DAt B W r kb pv d
  below : Below w0.heap.size w0 W
theorem cells2 {B : Nat} {W W1 : World} {b o1 o2 : Nat} {v1 v2 : Value} (h : W.cell? ⟨b, o1, none⟩ = some v1 ∧ W.cell? ⟨b, o2, none⟩ = some v2) (hb : Below B W W1) (hlt : b < B) : W1.cell? ⟨b, o1, none⟩ = some v1 ∧ W1.cell? ⟨b, o2, none⟩ = some v2 :=
  ⟨(hb.cell (p := ⟨b, o1, none⟩) hlt).trans h.1, (hb.cell (p := ⟨b, o2, none⟩) hlt).trans h.2⟩

set_option maxRecDepth 100000 in
set_option maxHeartbeats 4000000 in
theorem filled_any (sv pv : Value) (ss ps : List Cl) (w : World) (hs : Lies w sv ss.length 6 (ss.flatMap Cl.cells)) (hp : Lies w pv ps.length 6 (ps.flatMap Cl.cells)) (hsg : ∀ c ∈ ss, c.good) (hpg : ∀ c ∈ ps, c.good) :
    Calls Try.prog 12 #[sv, pv] w fun x w' => ∃ r kb qv, x = .returned (.pointer (some ⟨r, 0, none⟩)) ∧ DAt w.heap.size w' r kb qv ⟨layW (zeros 6).kept (writes ss), writes ps, false, 0⟩ ∧ Below w.heap.size w w' := by
  obtain ⟨sp, sc, rfl⟩ := hs.form
  obtain ⟨pp, pc, rfl⟩ := hp.form
  have h6 : ∀ (l : List Cl), ∀ a ∈ l, (Cl.cells a).length = 6 := fun _ _ _ => rfl
  have hel : ∀ X, Below w.heap.size w X → ∀ i (hi : i < ss.length), ∃ b off, sp = some ⟨b, off, none⟩ ∧ X.cell? ⟨b, off + i * 6 + 1, none⟩ = some (.int .i64 ss[i].at') ∧ X.cell? ⟨b, off + i * 6 + 2, none⟩ = some (.string ss[i].s) ∧ b < w.heap.size := fun X hX i hi => by
    obtain ⟨b, off, c, hv, hbl, hc⟩ := hs.elem (h6 ss) hX hi
    simp at hv
    exact ⟨b, off, hv.1, hc 1 _ rfl, hc 2 _ rfl, hbl⟩
  have hel2 : ∀ X, Below w.heap.size w X → ∀ i (hi : i < ps.length), ∃ b off, pp = some ⟨b, off, none⟩ ∧ X.cell? ⟨b, off + i * 6 + 1, none⟩ = some (.int .i64 ps[i].at') ∧ X.cell? ⟨b, off + i * 6 + 2, none⟩ = some (.string ps[i].s) ∧ b < w.heap.size := fun X hX i hi => by
    obtain ⟨b, off, c, hv, hbl, hc⟩ := hp.elem (h6 ps) hX hi
    simp at hv
    exact ⟨b, off, hv.1, hc 1 _ rfl, hc 2 _ rfl, hbl⟩
  have HE := Lib.hid hel
  have HE2 := Lib.hid hel2
  have HSG := Lib.hid hsg
  have HPG := Lib.hid hpg
  clear hel hel2 h6 hs hp hsg hpg
  go_enter Try.func12, Try.ntmps12
  go_wp2_with fail
  refine (new_ok 6 (by decide) (by decide) w.heap.size w (Nat.le_refl _)).mono ?_
  rintro x w1 ⟨r, kb, rfl, hD, hB, _, _⟩
  have hst : ∃ pv, FillK w.heap.size w r kb pv ⟨(zeros 6).kept, (ss.take 0).map Cl.write, false, 0⟩ w1 := ⟨_, hD, hB⟩
  clear hD hB
  go_wp2_with fail
  go_loopw [7] (fun i wr => ∃ k : Nat, k ≤ ss.length ∧ k ≤ 8 ∧ i = .int .i64 (k : Int) ∧ ∃ pv, FillK w.heap.size w r kb pv ⟨(zeros 6).kept, (ss.take k).map Cl.write, false, 0⟩ wr) (fun i _ => 8 - (intOf i).toNat)
  case atStart => exact ⟨0, Nat.zero_le _, Nat.zero_le _, rfl, hst⟩
  case round =>
    obtain ⟨k, hk, hk8, rfl, qv, hF⟩ := hrel
    clear hst
    by_cases hlt : k < ss.length ∧ k < 8
    · obtain ⟨h1, h2⟩ := hlt
      have d1 : decide (k < ss.length) = true := decide_eq_true h1
      have d2 : decide ((k : Int) < 8) = true := decide_eq_true (by omega)
      obtain ⟨b, off, hv, c1, c2, hbl⟩ := HE.out wr hF.below k h1
      subst hv
      have hg := HSG.out ss[k] (List.getElem_mem _)
      have hts : (ss.take (k + 1)).map Cl.write = (ss.take k).map Cl.write ++ [ss[k].write] := by rw [List.take_succ_eq_append_getElem h1, List.map_append]; rfl
      generalize ss[k] = C at c1 c2 hg hts
      obtain ⟨kind, at', s, place, mask, keep⟩ := C
      have hga := hg.at'
      have hgs := hg.s
      dsimp only at c1 c2 hga hgs
      have HTS := Lib.hid hts
      clear hts hg
      have hpl : ((ss.take k).map Cl.write).length ≤ 100000 := by rw [List.length_map, List.length_take]; omega
      have hS : (fun W' : World => W'.cell? ⟨b, off + k * 6 + 1, none⟩ = some (.int .i64 at') ∧ W'.cell? ⟨b, off + k * 6 + 2, none⟩ = some (.string s)) wr.drew := ⟨c1, c2⟩
      have hpk := pickOf_lt at' (n := 6) (by decide)
      have hsz : w.heap.size ≤ wr.drew.heap.size := hF.below.size
      have e0 : (0 : Int) ≤ (k : Int) := by omega
      have e1 : (k : Int) < (ss.length : Int) := by omega
      have hwp : ∀ W2, Below wr.drew.heap.size wr.drew W2 → Calls Try.prog 21 #[.pointer (some ⟨r, 0, none⟩), .int .i64 (pickOf at' 6 : Int), .string ⟨(fullOf s.data.toList).toArray⟩] W2 fun x W3 => x = .returned (.int .i64 0) ∧ Below w.heap.size W2 W3 ∧ ∃ pv, FillK w.heap.size w r kb pv ⟨(zeros 6).kept, (ss.take (k + 1)).map Cl.write, false, 0⟩ W3 := fun W2 hb2 =>
        (write_ok (hF.disk.drew.below hb2) (.inl rfl) (Nat.le_trans hsz hb2.size) (pickOf at' 6) (by show _ < 6; exact hpk) ⟨(fullOf s.data.toList).toArray⟩ (by show (fullOf s.data.toList).toArray.size = 64; rw [List.size_toArray]; exact fullOf_length _) hpl).mono fun x W3 ⟨hx, pv', hd⟩ =>
          ⟨hx, hd.below, pv', by rw [HTS.out]; exact hd.disk, hF.below.drew.trans ((hb2.mono hsz).trans hd.below)⟩
      have HWP := Lib.hid hwp
      clear hwp
      go_wp2_with fail
      go_region_held3 (fun W' : World => W'.cell? ⟨b, off + k * 6 + 1, none⟩ = some (.int .i64 at') ∧ W'.cell? ⟨b, off + k * 6 + 2, none⟩ = some (.string s))
        (first | assumption | (exact cells2 (by assumption) (by assumption) hbl))
        (first
          | (go_at_call 17; (with_reducible refine (pick6 _ hga _).mono ?_); rintro x w2 ⟨rfl, rfl⟩)
          | (go_at_call 18; (with_reducible refine (full_any _ hgs _).mono ?_); rintro x w2 ⟨rfl, hb2⟩; have hb3 := hb2.mono hsz)
          | (go_at_call 21; (with_reducible refine (HWP.out _ hb2).mono ?_); rintro x w3 ⟨rfl, hb4, hst⟩))
      all_goals
        go_wp2_with fail
        exact ⟨⟨k + 1, by omega, by omega, by go_num, hst⟩, by simp [intOf]; omega⟩
    · have hend : (ss.take k).map Cl.write = writes ss := by
        unfold writes
        by_cases h1 : k < ss.length
        · rw [show k = 8 from by omega]
        · rw [List.take_of_length_le (by omega), List.take_of_length_le (by omega)]
      rw [hend] at hF
      have hwl : (writes ss).length ≤ 100000 := by rw [← hend, List.length_map, List.length_take]; omega
      have hsy := sync_ok hF.disk (.inl rfl) hF.below.size hwl
      have hsp : (⟨(zeros 6).kept, writes ss, false, 0⟩ : DS).spend.left = 0 := rfl
      rw [hsp] at hsy
      have HSY := Lib.hid hsy
      have HF := Lib.hid hF
      clear hend hwl hsy hsp hF
      have hgo : (k < ss.length ∧ ¬ k < 8) ∨ ¬ k < ss.length := by omega
      rcases hgo with ⟨h1, h2⟩ | h1
      all_goals
        first
          | (have d1 : decide (k < ss.length) = true := decide_eq_true h1
             have d2 : decide ((k : Int) < 8) = false := decide_eq_false (by omega)
             go_wp2_with fail)
          | (have d1 : decide (k < ss.length) = false := decide_eq_false h1
             go_wp2_with fail)
        refine HSY.out.mono ?_
        rintro x w4 ⟨rfl, hd⟩
        have hst : ∃ pv, FillK w.heap.size w r kb pv ⟨layW (zeros 6).kept (writes ss), (ps.take 0).map Cl.write, false, 0⟩ w4 := ⟨_, hd.disk, HF.out.below.trans hd.below⟩
        clear hd
        go_wp2_with fail
        go_loopw [8] (fun i wr => ∃ k : Nat, k ≤ ps.length ∧ k ≤ 8 ∧ i = .int .i64 (k : Int) ∧ ∃ pv, FillK w.heap.size w r kb pv ⟨layW (zeros 6).kept (writes ss), (ps.take k).map Cl.write, false, 0⟩ wr) (fun i _ => 8 - (intOf i).toNat)
        case atStart => exact ⟨0, Nat.zero_le _, Nat.zero_le _, rfl, hst⟩
        case round =>
          obtain ⟨k, hk, hk8, rfl, qv, hF⟩ := hrel
          clear hst
          by_cases hlt : k < ps.length ∧ k < 8
          · obtain ⟨h1, h2⟩ := hlt
            have d1 : decide (k < ps.length) = true := decide_eq_true h1
            have d2 : decide ((k : Int) < 8) = true := decide_eq_true (by omega)
            obtain ⟨b, off, hv, c1, c2, hbl⟩ := HE2.out wr hF.below k h1
            subst hv
            have hg := HPG.out ps[k] (List.getElem_mem _)
            have hts : (ps.take (k + 1)).map Cl.write = (ps.take k).map Cl.write ++ [ps[k].write] := by rw [List.take_succ_eq_append_getElem h1, List.map_append]; rfl
            generalize ps[k] = C at c1 c2 hg hts
            obtain ⟨kind, at', s, place, mask, keep⟩ := C
            have hga := hg.at'
            have hgs := hg.s
            dsimp only at c1 c2 hga hgs
            have HTS := Lib.hid hts
            clear hts hg
            have hpl : ((ps.take k).map Cl.write).length ≤ 100000 := by rw [List.length_map, List.length_take]; omega
            have hS : (fun W' : World => W'.cell? ⟨b, off + k * 6 + 1, none⟩ = some (.int .i64 at') ∧ W'.cell? ⟨b, off + k * 6 + 2, none⟩ = some (.string s)) wr.drew := ⟨c1, c2⟩
            have hpk := pickOf_lt at' (n := 6) (by decide)
            have hsz : w.heap.size ≤ wr.drew.heap.size := hF.below.size
            have e0 : (0 : Int) ≤ (k : Int) := by omega
            have e1 : (k : Int) < (ps.length : Int) := by omega
            have hwp : ∀ W2, Below wr.drew.heap.size wr.drew W2 → Calls Try.prog 21 #[.pointer (some ⟨r, 0, none⟩), .int .i64 (pickOf at' 6 : Int), .string ⟨(fullOf s.data.toList).toArray⟩] W2 fun x W3 => x = .returned (.int .i64 0) ∧ Below w.heap.size W2 W3 ∧ ∃ pv, FillK w.heap.size w r kb pv ⟨layW (zeros 6).kept (writes ss), (ps.take (k + 1)).map Cl.write, false, 0⟩ W3 := fun W2 hb2 =>
              (write_ok (hF.disk.drew.below hb2) (.inl rfl) (Nat.le_trans hsz hb2.size) (pickOf at' 6) (by show _ < (layW _ _).length; rw [layW_length]; exact hpk) ⟨(fullOf s.data.toList).toArray⟩ (by show (fullOf s.data.toList).toArray.size = 64; rw [List.size_toArray]; exact fullOf_length _) hpl).mono fun x W3 ⟨hx, pv', hd⟩ =>
                ⟨hx, hd.below, pv', by rw [HTS.out]; exact hd.disk, hF.below.drew.trans ((hb2.mono hsz).trans hd.below)⟩
            have HWP := Lib.hid hwp
            clear hwp
            go_wp2_with fail
            go_region_held3 (fun W' : World => W'.cell? ⟨b, off + k * 6 + 1, none⟩ = some (.int .i64 at') ∧ W'.cell? ⟨b, off + k * 6 + 2, none⟩ = some (.string s))
              (first | assumption | (exact cells2 (by assumption) (by assumption) hbl))
              (first
                | (go_at_call 17; (with_reducible refine (pick6 _ hga _).mono ?_); rintro x w2 ⟨rfl, rfl⟩)
                | (go_at_call 18; (with_reducible refine (full_any _ hgs _).mono ?_); rintro x w2 ⟨rfl, hb2⟩; have hb3 := hb2.mono hsz)
                | (go_at_call 21; (with_reducible refine (HWP.out _ hb2).mono ?_); rintro x w3 ⟨rfl, hb4, hst⟩))
            all_goals
              go_wp2_with fail
              exact ⟨⟨k + 1, by omega, by omega, by go_num, hst⟩, by simp [intOf]; omega⟩
          · have hend : (ps.take k).map Cl.write = writes ps := by
              unfold writes
              by_cases h1 : k < ps.length
              · rw [show k = 8 from by omega]
              · rw [List.take_of_length_le (by omega), List.take_of_length_le (by omega)]
            rw [hend] at hF
            have HF2 := Lib.hid hF
            clear hend hF
            have hgo : (k < ps.length ∧ ¬ k < 8) ∨ ¬ k < ps.length := by omega
            rcases hgo with ⟨h1, h2⟩ | h1
            all_goals
              first
                | (have d1 : decide (k < ps.length) = true := decide_eq_true h1
                   have d2 : decide ((k : Int) < 8) = false := decide_eq_false (by omega)
                   go_wp2_with fail)
                | (have d1 : decide (k < ps.length) = false := decide_eq_false h1
                   go_wp2_with fail)
              go_ret
              exact ⟨r, kb, qv, rfl, HF2.out.disk, HF2.out.below⟩
end Go.Proofs.Ytepdncpgcpndoaa
