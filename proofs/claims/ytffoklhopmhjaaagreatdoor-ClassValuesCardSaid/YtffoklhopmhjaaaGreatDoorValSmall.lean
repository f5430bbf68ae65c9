/- moraineref03.Order, cmp.Compare[string], words.Digit. -/
import Derived.WalkKit
import Derived.Below
import Derived.BigQuiet
import Derived.BigCall
import Derived.Lib.Hide
import Derived.IntWalk
import Derived.Lib.Strings
import Derived.Laws.Cover1
import Derived.Test.YtffoklhopmhjaaaGreatDoorProg
set_option linter.unusedSimpArgs false
set_option linter.unusedVariables false
namespace Go.Proofs.YtffoklhopmhjaaaGreatDoor
open Go Go.RowKit

def ordI (a b : Int) : Int := if a < b then -1 else if b < a then 1 else 0

set_option maxHeartbeats 1000000 in
theorem cmpInt_any (a b : Int) (w : World) : Calls Tryz.prog 67 #[.int .i64 a, .int .i64 b] w fun e w' => e = .returned (.int .i64 (ordI a b)) ∧ w = w' := by
  have nan : ∀ (x : Int) (w : World), Calls Tryz.prog 87 #[.int .i64 x] w fun e w' => e = .returned (.bool false) ∧ w = w' := by
    intro x w
    go_enter Tryz.func87, Tryz.ntmps87
    go_wp2
    go_ret
    exact ⟨rfl, rfl⟩
  unfold ordI
  by_cases h1 : a < b
  · rw [if_pos h1]
    go_enter Tryz.func67, Tryz.ntmps67
    go_wp2_with (go_at_call 87; refine (nan _ _).mono ?_; rintro e w1 ⟨rfl, rfl⟩)
    go_ret
    exact ⟨rfl, rfl⟩
  · rw [if_neg h1]
    by_cases h2 : b < a
    · rw [if_pos h2]
      go_enter Tryz.func67, Tryz.ntmps67
      go_wp2_with (go_at_call 87; refine (nan _ _).mono ?_; rintro e w1 ⟨rfl, rfl⟩)
      go_ret
      exact ⟨rfl, rfl⟩
    · rw [if_neg h2]
      go_enter Tryz.func67, Tryz.ntmps67
      go_wp2_with (go_at_call 87; refine (nan _ _).mono ?_; rintro e w1 ⟨rfl, rfl⟩)
      go_ret
      exact ⟨rfl, rfl⟩

set_option maxHeartbeats 1000000 in
theorem digit_any (c : Int) (w : World) : Calls Tryz.prog 86 #[.int .u8 c] w fun e w' => e = .returned (.bool (decide (48 ≤ c ∧ c ≤ 57))) ∧ w = w' := by
  generalize hr : decide (48 ≤ c ∧ c ≤ 57) = r
  have HR := Lib.hid hr; clear hr
  go_enter Tryz.func86, Tryz.ntmps86
  by_cases h1 : 48 ≤ c
  · by_cases h2 : c ≤ 57
    · go_wp2
      go_ret
      exact ⟨congrArg (fun b => Ending.returned (Value.bool b)) (by rw [← HR.out]; exact (decide_eq_true ⟨h1, h2⟩).symm), rfl⟩
    · go_wp2
      go_ret
      exact ⟨congrArg (fun b => Ending.returned (Value.bool b)) (by rw [← HR.out]; exact (decide_eq_false (by omega)).symm), rfl⟩
  · go_wp2
    go_ret
    exact ⟨congrArg (fun b => Ending.returned (Value.bool b)) (by rw [← HR.out]; exact (decide_eq_false (by omega)).symm), rfl⟩

/-- two texts, byte by byte -/
def ordS (a b : ByteArray) : Int := if Op.bytesLess a.toList b.toList = true then -1 else if (a.toList == b.toList) = true then 0 else 1

set_option maxHeartbeats 1000000 in
theorem cmpStr_any (a b : ByteArray) (w : World) : Calls Tryz.prog 68 #[.string a, .string b] w fun e w' => e = .returned (.int .i64 (ordS a b)) ∧ w = w' := by
  have nan : ∀ (x : ByteArray) (w : World), Calls Tryz.prog 88 #[.string x] w fun e w' => e = .returned (.bool false) ∧ w = w' := by
    intro x w
    go_enter Tryz.func88, Tryz.ntmps88
    go_wp2
    go_ret
    exact ⟨rfl, rfl⟩
  generalize hr : ordS a b = r
  have HR := Lib.hid hr; clear hr
  cases h1 : Op.bytesLess a.toList b.toList with
  | true =>
    have hr : r = -1 := by rw [← HR.out]; unfold ordS; rw [if_pos h1]
    have HRR := Lib.hid hr; clear hr
    go_enter Tryz.func68, Tryz.ntmps68
    go_wp2_with (go_at_call 88; refine (nan _ _).mono ?_; rintro e w1 ⟨rfl, rfl⟩)
    go_ret
    exact ⟨by rw [HRR.out]; rfl, rfl⟩
  | false =>
    cases h2 : (a.toList == b.toList) with
    | true =>
      have hr : r = 0 := by rw [← HR.out]; unfold ordS; rw [if_neg (by rw [h1]; decide), if_pos h2]
      have HRR := Lib.hid hr; clear hr
      have h3 : a.toList = b.toList := by simpa using h2
      have h4 := h1
      rw [h3] at h4
      go_enter Tryz.func68, Tryz.ntmps68
      go_wp2_with (go_at_call 88; refine (nan _ _).mono ?_; rintro e w1 ⟨rfl, rfl⟩)
      go_ret
      exact ⟨by rw [HRR.out]; rfl, rfl⟩
    | false =>
      have hr : r = 1 := by rw [← HR.out]; unfold ordS; rw [if_neg (by rw [h1]; decide), if_neg (by rw [h2]; decide)]
      have HRR := Lib.hid hr; clear hr
      have h3 : ¬ a.toList = b.toList := by simpa using h2
      go_enter Tryz.func68, Tryz.ntmps68
      go_wp2_with (go_at_call 88; refine (nan _ _).mono ?_; rintro e w1 ⟨rfl, rfl⟩)
      go_ret
      exact ⟨by rw [HRR.out]; rfl, rfl⟩

/-- the first that is not 0 -/
def orI : List Int → Int
  | [] => 0
  | x :: xs => if x = 0 then orI xs else x

theorem orI_take : ∀ (l : List Int) (k : Nat), (∀ x ∈ l.take k, x = 0) → orI l = orI (l.drop k)
  | l, 0, _ => rfl
  | [], k + 1, _ => by simp
  | x :: xs, k + 1, h => by
    show (if x = 0 then orI xs else x) = _
    rw [if_pos (h x (by simp)), List.drop_succ_cons]
    exact orI_take xs k (fun y hy => h y (by simp [hy]))

set_option maxHeartbeats 1000000 in
set_option maxRecDepth 100000 in
theorem cmpOr_any (b off c : Nat) (l : List Int) (hm : l.length ≤ 9223372036854775807) (w : World) (h : ∀ (j : Nat) (hj : j < l.length), w.cell? ⟨b, off + j, none⟩ = some (.int .i64 l[j])) :
    Calls Tryz.prog 66 #[.slice (some ⟨b, off, none⟩) l.length c] w fun e w' => e = .returned (.int .i64 (orI l)) ∧ w = w' := by
  have HH := Lib.hid h; clear h
  generalize hr : orI l = r
  have HR := Lib.hid hr; clear hr
  go_enter Tryz.func66, Tryz.ntmps66
  go_wp2
  go_loopw [8] (fun i wr => ∃ k : Nat, k ≤ l.length ∧ i = .int .i64 (k : Int) ∧ (∀ x ∈ l.take k, x = 0) ∧ w = wr) (fun i _ => l.length - (intOf i).toNat)
  case atStart => exact ⟨0, by omega, rfl, by simp, rfl⟩
  case round =>
    obtain ⟨k, hk, rfl, he, rfl⟩ := hrel
    have HE := Lib.hid he; clear he
    by_cases hlt : k < l.length
    · have hx : ∃ x, l[k] = x := ⟨_, rfl⟩
      obtain ⟨x, hx⟩ := hx
      have HX := Lib.hid hx; clear hx
      have c1 : w.cell? ⟨b, off + k, none⟩ = some (.int .i64 x) := by rw [HH.out k hlt, HX.out]
      have d0 : (0 : Int) ≤ (k : Int) := by omega
      have d2 : (k : Int) < (l.length : Int) := by omega
      have hdrop : l.drop k = x :: l.drop (k + 1) := by rw [List.drop_eq_getElem_cons hlt, HX.out]
      have HD := Lib.hid hdrop; clear hdrop
      by_cases h0 : x = 0
      · have d3 : (x == 0) = true := by rw [beq_iff_eq]; exact h0
        have hz : ∀ y ∈ l.take (k + 1), y = 0 := by
          intro y hy
          rw [List.take_succ_eq_append_getElem hlt, List.mem_append] at hy
          rcases hy with hy | hy
          · exact HE.out y hy
          · rw [HX.out] at hy; simp at hy; omega
        have HZ := Lib.hid hz; clear hz
        have H0 := Lib.hid h0; clear h0
        go_wp2_with fail
        exact ⟨⟨k + 1, by omega, by go_num, HZ.out, by trivial⟩, by simp [intOf]; omega⟩
      · have d3 : (x == 0) = false := by rw [beq_eq_false_iff_ne]; exact h0
        have hrr : r = x := by
          rw [← HR.out, orI_take l k HE.out, HD.out]
          show (if x = 0 then _ else x) = x
          rw [if_neg h0]
        have HRR := Lib.hid hrr; clear hrr
        go_wp2_with fail
        go_ret
        exact ⟨by rw [HRR.out]; rfl, rfl⟩
    · obtain rfl : k = l.length := by omega
      have hrr : r = 0 := by
        rw [← HR.out, orI_take l l.length HE.out, List.drop_length]
        rfl
      have HRR := Lib.hid hrr; clear hrr
      go_wp2
      go_ret
      exact ⟨by rw [HRR.out]; rfl, rfl⟩
end Go.Proofs.YtffoklhopmhjaaaGreatDoor
