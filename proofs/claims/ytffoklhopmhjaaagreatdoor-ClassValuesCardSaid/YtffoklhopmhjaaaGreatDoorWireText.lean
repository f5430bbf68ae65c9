/- Text(s); HasPrefix. -/
import Derived.WalkKit
import Derived.Shelf.RegionOpen
import Derived.Lib.Hide
import Derived.Outline
import Derived.IntWalk
import Derived.WalkLawsBesides
import Derived.WalkSpells
import Derived.Lib.Strings
import Derived.Test.YtffoklhopmhjaaaGreatDoorWireNum
set_option linter.unusedSimpArgs false
set_option linter.unusedVariables false
namespace Go.Proofs.YtffoklhopmhjaaaGreatDoor
open Go Go.RowKit Go.Shelf

theorem bytes_append (a : List UInt8) (s : ByteArray) : (({ data := a.toArray } : ByteArray) ++ s) = ⟨(a ++ s.data.toList).toArray⟩ := by
  apply ByteArray.ext
  simp

theorem bytes_prefix (s p : ByteArray) (h : p.size ≤ s.size) : ((s.extract 0 p.size).toList == p.toList) = decide (p.data.toList <+: s.data.toList) := by
  rw [Lib.extract_toList, Lib.toList_data]
  simp only [Nat.sub_zero, List.drop_zero]
  rw [Bool.eq_iff_iff, beq_iff_eq, decide_eq_true_iff, List.prefix_iff_eq_take]
  have : p.size = p.data.toList.length := by simp
  rw [this]
  exact eq_comm

set_option maxHeartbeats 400000 in
theorem prefix_short (s p : ByteArray) (hs : s.size ≤ 9223372036854775807) (hp : p.size ≤ 9223372036854775807) (w : World) (h : s.size < p.size) :
    Calls Tryz.prog 93 #[.string s, .string p] w fun e w' => e = .returned (.bool false) ∧ w = w' := by
  go_enter Tryz.func93, Tryz.ntmps93
  go_wp2
  go_ret
  exact ⟨rfl, rfl⟩

set_option maxHeartbeats 400000 in
theorem prefix_long (s p : ByteArray) (hs : s.size ≤ 9223372036854775807) (hp : p.size ≤ 9223372036854775807) (w : World) (h : p.size ≤ s.size) :
    Calls Tryz.prog 93 #[.string s, .string p] w fun e w' => e = .returned (.bool (decide (p.data.toList <+: s.data.toList))) ∧ w = w' := by
  go_enter Tryz.func93, Tryz.ntmps93
  have hb := bytes_prefix s p h
  have HB := Lib.hid hb; clear hb
  go_wp2
  go_ret
  exact ⟨by rw [← HB.out]; rfl, rfl⟩

set_option maxHeartbeats 400000 in
theorem text_long (s : ByteArray) (hs : s.size ≤ 9223372036854775807) (h : 10000 < s.size) (w : World) :
    Calls Tryz.prog 43 #[.string s] w fun e w' => e = .returned (.tuple #[.string ⟨#[]⟩, .int .i64 10]) ∧ w = w' := by
  go_enter Tryz.func43, Tryz.ntmps43
  go_wp2
  go_ret2
  exact ⟨rfl, rfl⟩

set_option maxHeartbeats 400000 in
theorem text_any (s : ByteArray) (h : s.size ≤ 10000) (w : World) :
    Calls Tryz.prog 43 #[.string s] w fun e w' => e = .returned (.tuple #[.string ⟨(Wire.num s.size ++ s.data.toList).toArray⟩, .int .i64 0]) ∧ Below w.heap.size w w' := by
  have hn : (Wire.num s.size).length ≤ 10 := by rw [Wire.num_length]; exact Wire.groups_length _ (by omega) (by omega)
  go_enter Tryz.func43, Tryz.ntmps43
  go_wp2_with (go_at_call 41; refine (num_any _ (by omega) (by omega) _).mono ?_; rintro e w1 ⟨rfl, hB⟩)
  go_ret2
  exact ⟨by rw [← bytes_append]; rfl, hB⟩

set_option maxHeartbeats 400000 in
theorem hasPrefix_any (s p : ByteArray) (hs : s.size ≤ 9223372036854775807) (hp : p.size ≤ 9223372036854775807) (w : World) :
    Calls Tryz.prog 80 #[.string s, .string p] w fun e w' => e = .returned (.bool (decide (p.data.toList <+: s.data.toList))) ∧ w = w' := by
  by_cases h : p.size ≤ s.size
  · go_enter Tryz.func80, Tryz.ntmps80
    go_wp2_with (go_at_call 93; refine (prefix_long _ _ hs hp _ h).mono ?_; rintro e w1 ⟨rfl, rfl⟩)
    go_ret
    exact ⟨rfl, rfl⟩
  · have hd : decide (p.data.toList <+: s.data.toList) = false := by
      rw [decide_eq_false_iff_not]
      intro hc
      have := hc.length_le
      simp at this; omega
    have HD := Lib.hid hd; clear hd
    go_enter Tryz.func80, Tryz.ntmps80
    go_wp2_with (go_at_call 93; refine (prefix_short _ _ hs hp _ (by omega)).mono ?_; rintro e w1 ⟨rfl, rfl⟩)
    go_ret
    exact ⟨by rw [HD.out]; rfl, rfl⟩
end Go.Proofs.YtffoklhopmhjaaaGreatDoor
