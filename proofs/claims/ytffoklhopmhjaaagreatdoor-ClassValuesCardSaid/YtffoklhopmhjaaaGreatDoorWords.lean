/- words.Digit, words.Text, words.Quote. -/
import Derived.WalkKit
import Derived.Below
import Derived.BigCall
import Derived.Lib.Hide
import Derived.IntWalk
import Derived.Lib.OthersKept
import Derived.Test.YtffoklhopmhjaaaGreatDoorBuild
import Derived.Test.YtffoklhopmhjaaaGreatDoorValUtf
import Derived.Test.YtffoklhopmhjaaaGreatDoorShelf
set_option linter.unusedSimpArgs false
set_option linter.unusedVariables false
namespace Go.Proofs.YtffoklhopmhjaaaGreatDoor
open Go Go.RowKit Go.Shelf

/-- the two tables that utf8.ValidString reads -/
def Tabs (w : World) : Prop := Lib.Utf8Tabs (Tryz.laysValid_ren.g 3) (Tryz.laysValid_ren.g 4) w
theorem Tabs.below {w w' : World} (h : Tabs w) (hb : Below w.heap.size w w') : Tabs w' := Utf8Tabs_below h hb

theorem valid_any (s : ByteArray) (w : World) (hs : s.size ≤ 9223372036854775807) (hT : Tabs w) :
    Calls Tryz.prog 78 #[.string s] w fun e w' => e = .returned (.bool (Lib.validD s.data.toList)) ∧ Below w.heap.size w w' :=
  Any.utf8_ValidString Tryz.laysValid s w hs hT

theorem runesGo_end (n : Nat) : runesGo n [] = true := by cases n <;> rfl
theorem runesGo_at (s : ByteArray) (pos fuel : Nat) (h : pos < s.size) : runesGo (fuel + 1) (s.data.toList.drop pos) = if (Utf8.decode s pos).1 < 32 ∨ (Utf8.decode s pos).1 = 127 then false else runesGo fuel (s.data.toList.drop (pos + (Utf8.decode s pos).2)) := by
  have hne : s.data.toList.drop pos ≠ [] := by
    intro e
    have := congrArg List.length e
    have e2 : s.data.size = s.size := rfl
    simp at this; omega
  show (if s.data.toList.drop pos = [] then true else _) = _
  rw [if_neg hne, Lib.decodeL_drop, List.drop_drop]

theorem width_pos (s : ByteArray) (pos : Nat) (h : pos < s.size) : 1 ≤ (Utf8.decode s pos).2 := by
  by_cases ha : (s[pos]'h).toNat < 128
  · rw [decode_ascii s pos h ha]
    exact Nat.le_refl _
  · exact (decode_high s pos h (by omega)).2

set_option maxHeartbeats 4000000 in
set_option maxRecDepth 1000000 in
theorem wordsText_any (s : ByteArray) (w : World) (hs : s.size ≤ 9223372036854775807) (hT : Tabs w) :
    Calls Tryz.prog 55 #[.string s] w fun e w' => e = .returned (.bool (textOk s.data.toList)) ∧ Below w.heap.size w w' := by
  have hR := runes_text s.size s.data.toList (Nat.le_of_eq (by simp))
  have HR := Lib.hid hR; clear hR
  go_enter Tryz.func55, Tryz.ntmps55
  go_wp2
  go_loopw [] (fun wr => ∃ (pos fuel : Nat), wr.heap[w.heap.size]? = some (.stringIter s pos) ∧ Below w.heap.size w wr ∧ runesGo fuel (s.data.toList.drop pos) = runesGo s.size s.data.toList ∧ s.size ≤ pos + fuel) (fun wr => s.size - wr.iterPos w.heap.size)
  case atStart =>
    refine ⟨0, s.size, ?_, ?_, rfl, by omega⟩
    · have := World.iter_heap w s 0
      simpa using this
    · exact (Below.refl _ w).alloc (Nat.le_refl _) _
  case round =>
    obtain ⟨pos, fuel, hit, hbw, hacc, hfu⟩ := hrel
    have hsz : w.heap.size < wr.heap.size := (Array.getElem?_eq_some_iff.1 hit).1
    have HA := Lib.hid hacc; clear hacc
    by_cases hp : pos < s.size
    · have hnx : ∀ ty, (Instr.next (.pointer (some ⟨w.heap.size, 0, none⟩)) true ty).run Tryz.prog wr = _ := fun ty => Lib.run_next_any_at wr w.heap.size s pos ty hit hp
      have hwd := width_pos s pos hp
      have hd1 := decode_le s pos
      have hit2 := Lib.iterAt_heap wr w.heap.size s pos (pos + (Utf8.decode s pos).2) hit
      have hbw2 := Lib.below_iterAt hbw (k := w.heap.size) (by omega) s (pos + (Utf8.decode s pos).2)
      obtain ⟨f, rfl⟩ : ∃ f, fuel = f + 1 := ⟨fuel - 1, by omega⟩
      have hst := runesGo_at s pos f hp
      have HST := Lib.hid hst; clear hst
      by_cases h32 : (Utf8.decode s pos).1 < 32 ∨ (Utf8.decode s pos).1 = 127
      · have hf : textOk s.data.toList = false := by
          rw [← HR.out, ← HA.out, HST.out, if_pos h32]; rfl
        have HF := Lib.hid hf; clear hf
        by_cases h1 : (Utf8.decode s pos).1 < 32
        · have d1 : decide (((Utf8.decode s pos).1 : Int) < 32) = true := by rw [decide_eq_true_iff]; omega
          go_wp2_with fail
          go_ret
          exact ⟨by rw [HF.out]; rfl, hbw2⟩
        · have d1 : decide (((Utf8.decode s pos).1 : Int) < 32) = false := by rw [decide_eq_false_iff_not]; omega
          have d2 : (((Utf8.decode s pos).1 : Int) == 127) = true := by rw [beq_iff_eq]; omega
          go_wp2_with fail
          go_ret
          exact ⟨by rw [HF.out]; rfl, hbw2⟩
      · have d1 : decide (((Utf8.decode s pos).1 : Int) < 32) = false := by rw [decide_eq_false_iff_not]; omega
        have d2 : (((Utf8.decode s pos).1 : Int) == 127) = false := by rw [beq_eq_false_iff_ne]; omega
        go_wp2_with fail
        refine ⟨⟨pos + (Utf8.decode s pos).2, f, hit2, hbw2, by rw [← HA.out, HST.out, if_neg h32], by omega⟩, ?_⟩
        simp only [World.iterPos, hit2, hit]
        omega
    · have hnx : ∀ ty, (Instr.next (.pointer (some ⟨w.heap.size, 0, none⟩)) true ty).run Tryz.prog wr = _ := fun ty => Lib.run_next_end_at wr w.heap.size s pos ty hit hp
      have ht : textOk s.data.toList = Lib.validD s.data.toList := by
        have e2 : s.data.size = s.size := rfl
        rw [← HR.out, ← HA.out, List.drop_eq_nil_of_le (by simp; omega), runesGo_end, Bool.true_and]
      have HTX := Lib.hid ht; clear ht
      go_wp2_with (go_at_call 78; refine (valid_any s _ hs (hT.below hbw)).mono ?_; rintro e W1 ⟨rfl, b1⟩)
      go_ret
      exact ⟨by rw [HTX.out]; rfl, hbw.trans (b1.mono (by omega))⟩
end Go.Proofs.YtffoklhopmhjaaaGreatDoor
