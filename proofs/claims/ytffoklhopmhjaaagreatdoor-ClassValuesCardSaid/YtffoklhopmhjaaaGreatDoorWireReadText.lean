/- (*reader).words, ReadText(s, at). -/
import Derived.Test.YtffoklhopmhjaaaGreatDoorWireReadNum
set_option linter.unusedSimpArgs false
set_option linter.unusedVariables false
namespace Go.Proofs.YtffoklhopmhjaaaGreatDoor
open Go Go.RowKit Go.Shelf Go.Sort

/-- a text's bytes stand in s from at on -/
def readsText (s : ByteArray) (p : Int) (t : List UInt8) : Prop := 0 ≤ p ∧ p ≤ s.size ∧ t.length ≤ 10000 ∧ (Wire.num t.length ++ t) <+: s.data.toList.drop p.toNat

theorem readsText_num {s : ByteArray} (hs : s.size ≤ 9223372036854775807) {p : Int} {t : List UInt8} (h : readsText s p t) : readsNum s p t.length := by
  obtain ⟨h1, h2, h3, h4⟩ := h
  exact ⟨h1, h2, ⟨by omega, by omega⟩, (List.prefix_append _ _).trans h4⟩

theorem readsText_room {s : ByteArray} {p : Int} {t : List UInt8} (h : readsText s p t) : p + (Wire.num t.length).length + t.length ≤ s.size := by
  obtain ⟨h1, h2, h3, h4⟩ := h
  have := h4.length_le
  simp at this
  have e : s.data.size = s.size := rfl
  omega

theorem readsText_of {s : ByteArray} {p : Int} {n : Nat} (h : readsNum s p n) (hn : n ≤ 10000) (hr : p + (Wire.num n).length + n ≤ s.size) :
    readsText s p ((s.data.toList.drop (p.toNat + (Wire.num n).length)).take n) ∧ ((s.data.toList.drop (p.toNat + (Wire.num n).length)).take n).length = n := by
  obtain ⟨h1, h2, h3, h4⟩ := h
  have hl : ((s.data.toList.drop (p.toNat + (Wire.num n).length)).take n).length = n := by
    have e : s.data.size = s.size := rfl
    simp; omega
  refine ⟨⟨h1, h2, by omega, ?_⟩, hl⟩
  rw [hl]
  obtain ⟨r, hr'⟩ := h4
  rw [← List.drop_drop, ← hr', List.drop_left]
  exact List.prefix_append_right_inj _ |>.2 (List.take_prefix _ _)

theorem extract_take (s : ByteArray) (a b : Nat) : s.extract a b = ⟨((s.data.toList.drop a).take (b - a)).toArray⟩ := by
  have h : (s.extract a b).toList = (s.data.toList.drop a).take (b - a) := by rw [Lib.toList_data, ← Lib.toList_data, Lib.extract_toList]
  rw [Lib.toList_data] at h
  apply ByteArray.ext
  rw [← h]

/-- what words answers -/
def wordsPost (s : ByteArray) (p : Int) (R : Nat) (ea : Addr) (w : World) (e : Ending) (w' : World) : Prop := w.grownBy w' (some R) ∧
      ((∃ t : List UInt8, readsText s p t ∧ e = .returned (.tuple #[.string ⟨t.toArray⟩, .nilIface]) ∧ ReaderAt w' R s (p + (Wire.num t.length).length + t.length)) ∨
       ((∀ t : List UInt8, ¬ readsText s p t) ∧ e = .returned (.tuple #[.string ⟨#[]⟩, .iface 180 (.pointer (some ea))]) ∧ ∃ q, ReaderAt w' R s q))

theorem grown_drewN {w W : World} {r : Option Nat} (h : w.grownBy W r) (n : Nat) : w.grownBy (W.drewN n) r := grown_below h ⟨rfl, rfl, rfl, Nat.le_refl _, fun _ _ => rfl⟩

set_option maxRecDepth 100000 in
set_option maxHeartbeats 2000000 in
theorem words_any (s : ByteArray) (hs : s.size ≤ 9223372036854775807) (R : Nat) (p : Int) (ea : Addr) (w : World) (hR : ReaderAt w R s p)
    (hE : w.cell? ⟨0, 0, none⟩ = some (.iface 180 (.pointer (some ea)))) (hR0 : R ≠ 0) :
    Calls Tryz.prog 59 #[.pointer (some ⟨R, 0, none⟩)] w (wordsPost s p R ea w) := by
  have h0 : 0 < w.heap.size := World.block_lt_of_cell? _ _ hE
  go_enter Tryz.func59, Tryz.ntmps59
  go_wp2_with fail
  refine (number_any s hs R p ea _ hR hE hR0).mono ?_
  rintro e w1 ⟨hg, hcase⟩
  have hE2 : w1.cell? ⟨0, 0, none⟩ = some (.iface 180 (.pointer (some ea))) := (World.cell?_of_block (hg.block 0 h0 (by simpa using hR0.symm))).trans hE
  obtain ⟨v, hv, rfl, hr⟩ | ⟨hno, rfl, q, hr⟩ := hcase
  · have r0 := hr.cell0
    have r1 := hr.cell1
    have rz := hr.frozen 1
    have hp0 : 0 ≤ p := hv.1
    have hps : p + ((Wire.num v).length : Int) ≤ s.size := by
      have := hv.2.2.2.length_le
      have e : s.data.size = s.size := rfl
      have := hv.2.1
      simp at *; omega
    generalize hat : p + ((Wire.num v).length : Int) = p1 at hr r1 hps
    have hp1 : 0 ≤ p1 := by omega
    have HAT := Lib.hid hat; clear hat
    by_cases h1 : v < 0
    · have d1 : decide (v < 0) = true := by simpa using h1
      go_wp2
      go_quiet (fail)
      go_wp2
      go_quiet (fail)
      go_wp2
      go_ret2
      refine ⟨grown_drewN (grown_drewN hg _) _, .inr ⟨fun t ht => ?_, rfl, p1, hr⟩⟩
      have := readsNum_unique hv (readsText_num hs ht)
      omega
    · have d1 : decide (v < 0) = false := by simpa using h1
      by_cases h2 : 10000 < v
      · have d2 : decide (10000 < v) = true := by simpa using h2
        go_wp2
        go_quiet (fail)
        go_wp2
        go_quiet (fail)
        go_wp2
        go_ret2
        refine ⟨grown_drewN (grown_drewN hg _) _, .inr ⟨fun t ht => ?_, rfl, p1, hr⟩⟩
        have := readsNum_unique hv (readsText_num hs ht)
        have := ht.2.2.1
        omega
      · have d2 : decide (10000 < v) = false := by simpa using h2
        have m1 : IntKind.i64.wrap ((s.size : Int) - p1) = (s.size : Int) - p1 := IntWalk.i64_in _ (by omega)
        by_cases h3 : (s.size : Int) - p1 < v
        · have d3 : decide ((s.size : Int) - p1 < v) = true := by simpa using h3
          go_wp2
          go_quiet (fail)
          go_wp2
          go_quiet (fail)
          go_wp2
          go_ret2
          refine ⟨grown_drewN (grown_drewN hg _) _, .inr ⟨fun t ht => ?_, rfl, p1, hr⟩⟩
          have e1 := readsNum_unique hv (readsText_num hs ht)
          have e2 := readsText_room ht
          have e3 := HAT.out
          rw [e1] at e3
          omega
        · have d3 : decide ((s.size : Int) - p1 < v) = false := by simpa using h3
          obtain ⟨n, rfl⟩ := Int.eq_ofNat_of_zero_le (show 0 ≤ v by omega)
          obtain ⟨a1, rfl⟩ := Int.eq_ofNat_of_zero_le hp1
          go_wp2
          go_quiet (fail)
          go_wp2
          have hr2 : ReaderAt ((w1.drewN nq).setCell ⟨R, 1, none⟩ (.int .i64 ((a1 : Int) + n))) R s ((a1 : Int) + n) := ReaderAt.set (show ReaderAt (w1.drewN nq) R s a1 from hr) _
          have hg2 : w.grownBy ((w1.drewN nq).setCell ⟨R, 1, none⟩ (.int .i64 ((a1 : Int) + n))) (some R) := grown_set_row (grown_drewN hg nq) _ rfl _
          generalize (w1.drewN nq).setCell ⟨R, 1, none⟩ (.int .i64 ((a1 : Int) + n)) = W2 at hr2 hg2 ⊢
          clear r0 r1 rz hr hE2
          have r0 := hr2.cell0
          have r1 := hr2.cell1
          have hps2 : (a1 : Int) + n ≤ s.size := by omega
          have m2 : IntKind.i64.wrap (a1 : Int) = (a1 : Int) := IntWalk.i64_in _ (by omega)
          have m3 : ((a1 : Int) + n).toNat = a1 + n := by omega
          have hn1 : a1 ≤ a1 + n := by omega
          have hn2 : a1 + n ≤ s.size := by omega
          go_quiet (fail)
          go_wp2
          go_ret2
          have e3 := HAT.out
          have ea1 : p.toNat + (Wire.num (n : Int)).length = a1 := by omega
          obtain ⟨k1, k2⟩ := readsText_of hv (by omega) (by omega)
          rw [ea1] at k1 k2
          refine ⟨grown_drewN hg2 _, .inl ⟨(s.data.toList.drop a1).take n, k1, ?_, ?_⟩⟩
          · rw [show (⟨((s.data.toList.drop a1).take n).toArray⟩ : ByteArray) = s.extract a1 (a1 + n) from by rw [extract_take, Nat.add_sub_cancel_left]]; rfl
          · rw [k2, e3]
            exact hr2
  · go_wp2
    go_ret2
    refine ⟨hg, .inr ⟨fun t ht => hno _ (readsText_num hs ht), rfl, q, hr⟩⟩

/-- what ReadText answers -/
def readTextPost (s : ByteArray) (p : Int) (w : World) (e : Ending) (w' : World) : Prop :=
  Below w.heap.size w w' ∧
  ((∃ t : List UInt8, readsText s p t ∧ e = .returned (.tuple #[.string ⟨t.toArray⟩, .int .i64 (p + (Wire.num t.length).length + t.length), .int .i64 0])) ∨
   ((∀ t : List UInt8, ¬ readsText s p t) ∧ e = .returned (.tuple #[.string ⟨#[]⟩, .int .i64 0, .int .i64 10])))

set_option maxRecDepth 100000 in
set_option maxHeartbeats 1000000 in
theorem readText_any (s : ByteArray) (hs : s.size ≤ 9223372036854775807) (p : Int) (ea : Addr) (w : World)
    (hE : w.cell? ⟨0, 0, none⟩ = some (.iface 180 (.pointer (some ea)))) :
    Calls Tryz.prog 31 #[.string s, .int .i64 p] w (readTextPost s p w) := by
  have h0 : 0 < w.heap.size := World.block_lt_of_cell? _ _ hE
  have hn0 : w.heap.size ≠ 0 := by omega
  go_enter Tryz.func31, Tryz.ntmps31
  go_wp2_with fail
  have hb1 : Below w.heap.size w (w.alloc (.cells #[.string s, .int .i64 p] 109)) := (Below.refl _ w).alloc (Nat.le_refl _) _
  have hR : ReaderAt (w.alloc (.cells #[.string s, .int .i64 p] 109)) w.heap.size s p := World.alloc_heap_new w _
  have hE1 : (w.alloc (.cells #[.string s, .int .i64 p] 109)).cell? ⟨0, 0, none⟩ = some (.iface 180 (.pointer (some ea))) := (hb1.cell (p := ⟨0, 0, none⟩) h0).trans hE
  refine (words_any s hs _ p ea _ hR hE1 hn0).mono ?_
  rintro e w1 ⟨hg, hcase⟩
  have hE2 : w1.cell? ⟨0, 0, none⟩ = some (.iface 180 (.pointer (some ea))) := (World.cell?_of_block (hg.block 0 (by simp) (by simpa using hn0.symm))).trans hE1
  have hB : Below w.heap.size w w1 := hb1.grown hg (by simp) (fun k e => by cases e; exact Nat.le_refl _)
  clear hR hE1 hg hb1
  obtain ⟨t, hv, rfl, hr⟩ | ⟨hno, rfl, q, hr⟩ := hcase
  · have r1 := hr.cell1
    go_wp2_with (go_at_call 58; refine (is_nil ea _).mono ?_; rintro e w2 ⟨rfl, rfl⟩)
    go_quiet (fail)
    go_wp2
    go_ret3
    exact ⟨below_drewN hB nq, .inl ⟨t, hv, rfl⟩⟩
  · go_wp2_with (go_at_call 58; refine (is_same ea _).mono ?_; rintro e w2 ⟨rfl, rfl⟩)
    go_ret3
    exact ⟨hB, .inr ⟨hno, rfl⟩⟩
end Go.Proofs.YtffoklhopmhjaaaGreatDoor
