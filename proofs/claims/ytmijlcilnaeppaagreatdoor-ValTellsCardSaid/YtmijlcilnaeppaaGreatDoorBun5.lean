/- Texts put together: ValSmall, ValRight, ValRightM, ValList, ValCmp, ValCompare. -/
import Derived.WalkKit
import Derived.Below
import Derived.BigQuiet
import Derived.BigCall
import Derived.Lib.Hide
import Derived.IntWalk
import Derived.Lib.Strings
import Derived.Laws.Cover1
import Derived.Test.YtmijlcilnaeppaaGreatDoorProg
import Derived.Test.YtmijlcilnaeppaaGreatDoorBun3
import Derived.Laws.Rows
import Derived.RangeFuncRecord
import Derived.Test.YtmijlcilnaeppaaGreatDoorBun4
import Derived.Deep.RegionHeld3
/- moraineref03.Order, cmp.Compare[string], words.Digit. -/
set_option linter.unusedSimpArgs false
set_option linter.unusedVariables false
namespace Go.Proofs.YtmijlcilnaeppaaGreatDoor
open Go Go.RowKit

def ordI (a b : Int) : Int := if a < b then -1 else if b < a then 1 else 0

set_option maxHeartbeats 1000000 in
theorem order_any (a b : Int) (w : World) : Calls Tryz.prog 45 #[.int .i64 a, .int .i64 b] w fun e w' => e = .returned (.int .i64 (ordI a b)) ∧ w = w' := by
  unfold ordI
  by_cases h1 : a < b
  · rw [if_pos h1]
    go_enter Tryz.func45, Tryz.ntmps45
    go_wp2
    go_ret
    exact ⟨rfl, rfl⟩
  · rw [if_neg h1]
    by_cases h2 : b < a
    · rw [if_pos h2]
      go_enter Tryz.func45, Tryz.ntmps45
      go_wp2
      go_ret
      exact ⟨rfl, rfl⟩
    · rw [if_neg h2]
      go_enter Tryz.func45, Tryz.ntmps45
      go_wp2
      go_ret
      exact ⟨rfl, rfl⟩

set_option maxHeartbeats 1000000 in
theorem cmpInt_any (a b : Int) (w : World) : Calls Tryz.prog 42 #[.int .i64 a, .int .i64 b] w fun e w' => e = .returned (.int .i64 (ordI a b)) ∧ w = w' := by
  have nan : ∀ (x : Int) (w : World), Calls Tryz.prog 70 #[.int .i64 x] w fun e w' => e = .returned (.bool false) ∧ w = w' := by
    intro x w
    go_enter Tryz.func70, Tryz.ntmps70
    go_wp2
    go_ret
    exact ⟨rfl, rfl⟩
  unfold ordI
  by_cases h1 : a < b
  · rw [if_pos h1]
    go_enter Tryz.func42, Tryz.ntmps42
    go_wp2_with (go_at_call 70; refine (nan _ _).mono ?_; rintro e w1 ⟨rfl, rfl⟩)
    go_ret
    exact ⟨rfl, rfl⟩
  · rw [if_neg h1]
    by_cases h2 : b < a
    · rw [if_pos h2]
      go_enter Tryz.func42, Tryz.ntmps42
      go_wp2_with (go_at_call 70; refine (nan _ _).mono ?_; rintro e w1 ⟨rfl, rfl⟩)
      go_ret
      exact ⟨rfl, rfl⟩
    · rw [if_neg h2]
      go_enter Tryz.func42, Tryz.ntmps42
      go_wp2_with (go_at_call 70; refine (nan _ _).mono ?_; rintro e w1 ⟨rfl, rfl⟩)
      go_ret
      exact ⟨rfl, rfl⟩

set_option maxHeartbeats 1000000 in
theorem digit_any (c : Int) (w : World) : Calls Tryz.prog 85 #[.int .u8 c] w fun e w' => e = .returned (.bool (decide (48 ≤ c ∧ c ≤ 57))) ∧ w = w' := by
  generalize hr : decide (48 ≤ c ∧ c ≤ 57) = r
  have HR := Lib.hid hr; clear hr
  go_enter Tryz.func85, Tryz.ntmps85
  by_cases h1 : 48 ≤ c
  · by_cases h2 : c ≤ 57
    · go_wp2
      go_ret
      exact ⟨congrArg (fun b => Ending.returned (Value.bool b)) (by rw [← HR.out]; exact (decide_eq_true ⟨h1, h2⟩).symm), rfl⟩
    · go_wp2
      go_ret
      exact ⟨congrArg (fun b => Ending.returned (Value.bool b)) (by rw [← HR.out]; exact (decide_eq_false (by omega)).symm), rfl⟩
  · go_wp2
    go_ret
    exact ⟨congrArg (fun b => Ending.returned (Value.bool b)) (by rw [← HR.out]; exact (decide_eq_false (by omega)).symm), rfl⟩

/-- two texts, byte by byte -/
def ordS (a b : ByteArray) : Int := if Op.bytesLess a.toList b.toList = true then -1 else if (a.toList == b.toList) = true then 0 else 1

set_option maxHeartbeats 1000000 in
theorem cmpStr_any (a b : ByteArray) (w : World) : Calls Tryz.prog 43 #[.string a, .string b] w fun e w' => e = .returned (.int .i64 (ordS a b)) ∧ w = w' := by
  have nan : ∀ (x : ByteArray) (w : World), Calls Tryz.prog 71 #[.string x] w fun e w' => e = .returned (.bool false) ∧ w = w' := by
    intro x w
    go_enter Tryz.func71, Tryz.ntmps71
    go_wp2
    go_ret
    exact ⟨rfl, rfl⟩
  generalize hr : ordS a b = r
  have HR := Lib.hid hr; clear hr
  cases h1 : Op.bytesLess a.toList b.toList with
  | true =>
    have hr : r = -1 := by rw [← HR.out]; unfold ordS; rw [if_pos h1]
    have HRR := Lib.hid hr; clear hr
    go_enter Tryz.func43, Tryz.ntmps43
    go_wp2_with (go_at_call 71; refine (nan _ _).mono ?_; rintro e w1 ⟨rfl, rfl⟩)
    go_ret
    exact ⟨by rw [HRR.out]; rfl, rfl⟩
  | false =>
    cases h2 : (a.toList == b.toList) with
    | true =>
      have hr : r = 0 := by rw [← HR.out]; unfold ordS; rw [if_neg (by rw [h1]; decide), if_pos h2]
      have HRR := Lib.hid hr; clear hr
      have h3 : a.toList = b.toList := by simpa using h2
      have h4 := h1
      rw [h3] at h4
      go_enter Tryz.func43, Tryz.ntmps43
      go_wp2_with (go_at_call 71; refine (nan _ _).mono ?_; rintro e w1 ⟨rfl, rfl⟩)
      go_ret
      exact ⟨by rw [HRR.out]; rfl, rfl⟩
    | false =>
      have hr : r = 1 := by rw [← HR.out]; unfold ordS; rw [if_neg (by rw [h1]; decide), if_neg (by rw [h2]; decide)]
      have HRR := Lib.hid hr; clear hr
      have h3 : ¬ a.toList = b.toList := by simpa using h2
      go_enter Tryz.func43, Tryz.ntmps43
      go_wp2_with (go_at_call 71; refine (nan _ _).mono ?_; rintro e w1 ⟨rfl, rfl⟩)
      go_ret
      exact ⟨by rw [HRR.out]; rfl, rfl⟩

/-- the first that is not 0 -/
def orI : List Int → Int
  | [] => 0
  | x :: xs => if x = 0 then orI xs else x

theorem orI_take : ∀ (l : List Int) (k : Nat), (∀ x ∈ l.take k, x = 0) → orI l = orI (l.drop k)
  | l, 0, _ => rfl
  | [], k + 1, _ => by simp
  | x :: xs, k + 1, h => by
    show (if x = 0 then orI xs else x) = _
    rw [if_pos (h x (by simp)), List.drop_succ_cons]
    exact orI_take xs k (fun y hy => h y (by simp [hy]))

set_option maxHeartbeats 1000000 in
set_option maxRecDepth 100000 in
theorem cmpOr_any (b off c : Nat) (l : List Int) (hm : l.length ≤ 9223372036854775807) (w : World) (h : ∀ (j : Nat) (hj : j < l.length), w.cell? ⟨b, off + j, none⟩ = some (.int .i64 l[j])) :
    Calls Tryz.prog 41 #[.slice (some ⟨b, off, none⟩) l.length c] w fun e w' => e = .returned (.int .i64 (orI l)) ∧ w = w' := by
  have HH := Lib.hid h; clear h
  generalize hr : orI l = r
  have HR := Lib.hid hr; clear hr
  go_enter Tryz.func41, Tryz.ntmps41
  go_wp2
  go_loopw [8] (fun i wr => ∃ k : Nat, k ≤ l.length ∧ i = .int .i64 (k : Int) ∧ (∀ x ∈ l.take k, x = 0) ∧ w = wr) (fun i _ => l.length - (intOf i).toNat)
  case atStart => exact ⟨0, by omega, rfl, by simp, rfl⟩
  case round =>
    obtain ⟨k, hk, rfl, he, rfl⟩ := hrel
    have HE := Lib.hid he; clear he
    by_cases hlt : k < l.length
    · have hx : ∃ x, l[k] = x := ⟨_, rfl⟩
      obtain ⟨x, hx⟩ := hx
      have HX := Lib.hid hx; clear hx
      have c1 : w.cell? ⟨b, off + k, none⟩ = some (.int .i64 x) := by rw [HH.out k hlt, HX.out]
      have d0 : (0 : Int) ≤ (k : Int) := by omega
      have d2 : (k : Int) < (l.length : Int) := by omega
      have hdrop : l.drop k = x :: l.drop (k + 1) := by rw [List.drop_eq_getElem_cons hlt, HX.out]
      have HD := Lib.hid hdrop; clear hdrop
      by_cases h0 : x = 0
      · have d3 : (x == 0) = true := by rw [beq_iff_eq]; exact h0
        have hz : ∀ y ∈ l.take (k + 1), y = 0 := by
          intro y hy
          rw [List.take_succ_eq_append_getElem hlt, List.mem_append] at hy
          rcases hy with hy | hy
          · exact HE.out y hy
          · rw [HX.out] at hy; simp at hy; omega
        have HZ := Lib.hid hz; clear hz
        have H0 := Lib.hid h0; clear h0
        go_wp2_with fail
        exact ⟨⟨k + 1, by omega, by go_num, HZ.out, by trivial⟩, by simp [intOf]; omega⟩
      · have d3 : (x == 0) = false := by rw [beq_eq_false_iff_ne]; exact h0
        have hrr : r = x := by
          rw [← HR.out, orI_take l k HE.out, HD.out]
          show (if x = 0 then _ else x) = x
          rw [if_neg h0]
        have HRR := Lib.hid hrr; clear hrr
        go_wp2_with fail
        go_ret
        exact ⟨by rw [HRR.out]; rfl, rfl⟩
    · obtain rfl : k = l.length := by omega
      have hrr : r = 0 := by
        rw [← HR.out, orI_take l l.length HE.out, List.drop_length]
        rfl
      have HRR := Lib.hid hrr; clear hrr
      go_wp2
      go_ret
      exact ⟨by rw [HRR.out]; rfl, rfl⟩
end Go.Proofs.YtmijlcilnaeppaaGreatDoor

/- val.Right. -/
set_option linter.unusedSimpArgs false
set_option linter.unusedVariables false
namespace Go.Proofs.YtmijlcilnaeppaaGreatDoor
open Go Go.RowKit Go.Shelf

abbrev valV (k n : Int) (s : ByteArray) (l : Value) : Value := .agg #[.int .i64 k, .int .i64 n, .string s, l]

theorem toList_nil (s : ByteArray) : (s.toList = []) ↔ s.size = 0 := by
  rw [Lib.toList_data]
  have e : s.data.toList.length = s.size := by simp
  constructor
  · intro h
    rw [← e, h]; rfl
  · intro h
    exact List.eq_nil_of_length_eq_zero (by omega)

/-- two blocks more -/
theorem below_two {w : World} (o o' : Obj) : Below w.heap.size w ((w.alloc o).alloc o') := ((Below.refl _ w).alloc (Nat.le_refl _) _).alloc (by simp) _

set_option maxHeartbeats 2000000 in
set_option maxRecDepth 100000 in
theorem right_nil (n : Int) (s : ByteArray) (p : Option Addr) (m c : Nat) (w : World) :
    Calls Tryz.prog 11 #[valV 0 n s (.slice p m c)] w fun e w' => e = .returned (.bool (decide (n = 0 ∧ s.size = 0 ∧ m = 0))) ∧ Below w.heap.size w w' := by
  generalize hr : decide (n = 0 ∧ s.size = 0 ∧ m = 0) = r
  have HR := Lib.hid hr; clear hr
  go_enter Tryz.func11, Tryz.ntmps11
  by_cases hn : n = 0
  · have d1 : ((0 : Int) == n) = true := by rw [beq_iff_eq]; omega
    by_cases hs : s.size = 0
    · have d2 : s.toList = [] := (toList_nil s).2 hs
      by_cases hm : m = 0
      · have d3 : ((0 : Int) == (m : Int)) = true := by rw [beq_iff_eq]; omega
        go_wp2
        go_ret
        exact ⟨congrArg (fun b => Ending.returned (Value.bool b)) (by rw [← HR.out]; first | exact (decide_eq_true (by omega)).symm | exact (decide_eq_false (by omega)).symm), below_two _ _⟩
      · have d3 : ((0 : Int) == (m : Int)) = false := by rw [beq_eq_false_iff_ne]; omega
        go_wp2
        go_ret
        exact ⟨congrArg (fun b => Ending.returned (Value.bool b)) (by rw [← HR.out]; first | exact (decide_eq_true (by omega)).symm | exact (decide_eq_false (by omega)).symm), below_two _ _⟩
    · have d2 : ¬ s.toList = [] := fun h => hs ((toList_nil s).1 h)
      go_wp2
      go_ret
      exact ⟨congrArg (fun b => Ending.returned (Value.bool b)) (by rw [← HR.out]; first | exact (decide_eq_true (by omega)).symm | exact (decide_eq_false (by omega)).symm), below_two _ _⟩
  · have d1 : ((0 : Int) == n) = false := by rw [beq_eq_false_iff_ne]; omega
    go_wp2
    go_ret
    exact ⟨congrArg (fun b => Ending.returned (Value.bool b)) (by rw [← HR.out]; first | exact (decide_eq_true (by omega)).symm | exact (decide_eq_false (by omega)).symm), below_two _ _⟩

set_option maxHeartbeats 2000000 in
set_option maxRecDepth 100000 in
theorem right_num (n : Int) (s : ByteArray) (p : Option Addr) (m c : Nat) (w : World) :
    Calls Tryz.prog 11 #[valV 1 n s (.slice p m c)] w fun e w' => e = .returned (.bool (decide ((-1000000000000000 ≤ n ∧ n ≤ 1000000000000000) ∧ s.size = 0 ∧ m = 0))) ∧ Below w.heap.size w w' := by
  generalize hr : decide ((-1000000000000000 ≤ n ∧ n ≤ 1000000000000000) ∧ s.size = 0 ∧ m = 0) = r
  have HR := Lib.hid hr; clear hr
  go_enter Tryz.func11, Tryz.ntmps11
  by_cases h1 : -1000000000000000 ≤ n
  · by_cases h2 : n ≤ 1000000000000000
    · skip
      by_cases hs : s.size = 0
      · have d2 : s.toList = [] := (toList_nil s).2 hs
        by_cases hm : m = 0
        · have d3 : ((0 : Int) == (m : Int)) = true := by rw [beq_iff_eq]; omega
          go_wp2
          go_ret
          exact ⟨congrArg (fun b => Ending.returned (Value.bool b)) (by rw [← HR.out]; first | exact (decide_eq_true (by omega)).symm | exact (decide_eq_false (by omega)).symm), below_two _ _⟩
        · have d3 : ((0 : Int) == (m : Int)) = false := by rw [beq_eq_false_iff_ne]; omega
          go_wp2
          go_ret
          exact ⟨congrArg (fun b => Ending.returned (Value.bool b)) (by rw [← HR.out]; first | exact (decide_eq_true (by omega)).symm | exact (decide_eq_false (by omega)).symm), below_two _ _⟩
      · have d2 : ¬ s.toList = [] := fun h => hs ((toList_nil s).1 h)
        go_wp2
        go_ret
        exact ⟨congrArg (fun b => Ending.returned (Value.bool b)) (by rw [← HR.out]; first | exact (decide_eq_true (by omega)).symm | exact (decide_eq_false (by omega)).symm), below_two _ _⟩
    · skip
      go_wp2
      go_ret
      exact ⟨congrArg (fun b => Ending.returned (Value.bool b)) (by rw [← HR.out]; first | exact (decide_eq_true (by omega)).symm | exact (decide_eq_false (by omega)).symm), below_two _ _⟩
  · skip
    go_wp2
    go_ret
    exact ⟨congrArg (fun b => Ending.returned (Value.bool b)) (by rw [← HR.out]; first | exact (decide_eq_true (by omega)).symm | exact (decide_eq_false (by omega)).symm), below_two _ _⟩

set_option maxHeartbeats 2000000 in
set_option maxRecDepth 100000 in
theorem right_ref (n : Int) (s : ByteArray) (p : Option Addr) (m c : Nat) (w : World) :
    Calls Tryz.prog 11 #[valV 3 n s (.slice p m c)] w fun e w' => e = .returned (.bool (decide ((1 ≤ n ∧ n ≤ 100000 ∨ -20 ≤ n ∧ n ≤ -1) ∧ s.size = 0 ∧ m = 0))) ∧ Below w.heap.size w w' := by
  generalize hr : decide ((1 ≤ n ∧ n ≤ 100000 ∨ -20 ≤ n ∧ n ≤ -1) ∧ s.size = 0 ∧ m = 0) = r
  have HR := Lib.hid hr; clear hr
  go_enter Tryz.func11, Tryz.ntmps11
  by_cases h1 : 1 ≤ n
  · by_cases h2 : n ≤ 100000
    · skip
      by_cases hs : s.size = 0
      · have d2 : s.toList = [] := (toList_nil s).2 hs
        by_cases hm : m = 0
        · have d3 : ((0 : Int) == (m : Int)) = true := by rw [beq_iff_eq]; omega
          go_wp2
          go_ret
          exact ⟨congrArg (fun b => Ending.returned (Value.bool b)) (by rw [← HR.out]; first | exact (decide_eq_true (by omega)).symm | exact (decide_eq_false (by omega)).symm), below_two _ _⟩
        · have d3 : ((0 : Int) == (m : Int)) = false := by rw [beq_eq_false_iff_ne]; omega
          go_wp2
          go_ret
          exact ⟨congrArg (fun b => Ending.returned (Value.bool b)) (by rw [← HR.out]; first | exact (decide_eq_true (by omega)).symm | exact (decide_eq_false (by omega)).symm), below_two _ _⟩
      · have d2 : ¬ s.toList = [] := fun h => hs ((toList_nil s).1 h)
        go_wp2
        go_ret
        exact ⟨congrArg (fun b => Ending.returned (Value.bool b)) (by rw [← HR.out]; first | exact (decide_eq_true (by omega)).symm | exact (decide_eq_false (by omega)).symm), below_two _ _⟩
    · have h3 : -20 ≤ n := by omega
      have h4 : ¬ n ≤ -1 := by omega
      go_wp2
      go_ret
      exact ⟨congrArg (fun b => Ending.returned (Value.bool b)) (by rw [← HR.out]; first | exact (decide_eq_true (by omega)).symm | exact (decide_eq_false (by omega)).symm), below_two _ _⟩
  · by_cases h3 : -20 ≤ n
    · by_cases h4 : n ≤ -1
      · skip
        by_cases hs : s.size = 0
        · have d2 : s.toList = [] := (toList_nil s).2 hs
          by_cases hm : m = 0
          · have d3 : ((0 : Int) == (m : Int)) = true := by rw [beq_iff_eq]; omega
            go_wp2
            go_ret
            exact ⟨congrArg (fun b => Ending.returned (Value.bool b)) (by rw [← HR.out]; first | exact (decide_eq_true (by omega)).symm | exact (decide_eq_false (by omega)).symm), below_two _ _⟩
          · have d3 : ((0 : Int) == (m : Int)) = false := by rw [beq_eq_false_iff_ne]; omega
            go_wp2
            go_ret
            exact ⟨congrArg (fun b => Ending.returned (Value.bool b)) (by rw [← HR.out]; first | exact (decide_eq_true (by omega)).symm | exact (decide_eq_false (by omega)).symm), below_two _ _⟩
        · have d2 : ¬ s.toList = [] := fun h => hs ((toList_nil s).1 h)
          go_wp2
          go_ret
          exact ⟨congrArg (fun b => Ending.returned (Value.bool b)) (by rw [← HR.out]; first | exact (decide_eq_true (by omega)).symm | exact (decide_eq_false (by omega)).symm), below_two _ _⟩
      · skip
        go_wp2
        go_ret
        exact ⟨congrArg (fun b => Ending.returned (Value.bool b)) (by rw [← HR.out]; first | exact (decide_eq_true (by omega)).symm | exact (decide_eq_false (by omega)).symm), below_two _ _⟩
    · skip
      go_wp2
      go_ret
      exact ⟨congrArg (fun b => Ending.returned (Value.bool b)) (by rw [← HR.out]; first | exact (decide_eq_true (by omega)).symm | exact (decide_eq_false (by omega)).symm), below_two _ _⟩

set_option maxHeartbeats 2000000 in
set_option maxRecDepth 100000 in
theorem right_weak (n : Int) (s : ByteArray) (p : Option Addr) (m c : Nat) (w : World) :
    Calls Tryz.prog 11 #[valV 4 n s (.slice p m c)] w fun e w' => e = .returned (.bool (decide ((1 ≤ n ∧ n ≤ 100000 ∨ -20 ≤ n ∧ n ≤ -1) ∧ s.size = 0 ∧ m = 0))) ∧ Below w.heap.size w w' := by
  generalize hr : decide ((1 ≤ n ∧ n ≤ 100000 ∨ -20 ≤ n ∧ n ≤ -1) ∧ s.size = 0 ∧ m = 0) = r
  have HR := Lib.hid hr; clear hr
  go_enter Tryz.func11, Tryz.ntmps11
  by_cases h1 : 1 ≤ n
  · by_cases h2 : n ≤ 100000
    · skip
      by_cases hs : s.size = 0
      · have d2 : s.toList = [] := (toList_nil s).2 hs
        by_cases hm : m = 0
        · have d3 : ((0 : Int) == (m : Int)) = true := by rw [beq_iff_eq]; omega
          go_wp2
          go_ret
          exact ⟨congrArg (fun b => Ending.returned (Value.bool b)) (by rw [← HR.out]; first | exact (decide_eq_true (by omega)).symm | exact (decide_eq_false (by omega)).symm), below_two _ _⟩
        · have d3 : ((0 : Int) == (m : Int)) = false := by rw [beq_eq_false_iff_ne]; omega
          go_wp2
          go_ret
          exact ⟨congrArg (fun b => Ending.returned (Value.bool b)) (by rw [← HR.out]; first | exact (decide_eq_true (by omega)).symm | exact (decide_eq_false (by omega)).symm), below_two _ _⟩
      · have d2 : ¬ s.toList = [] := fun h => hs ((toList_nil s).1 h)
        go_wp2
        go_ret
        exact ⟨congrArg (fun b => Ending.returned (Value.bool b)) (by rw [← HR.out]; first | exact (decide_eq_true (by omega)).symm | exact (decide_eq_false (by omega)).symm), below_two _ _⟩
    · have h3 : -20 ≤ n := by omega
      have h4 : ¬ n ≤ -1 := by omega
      go_wp2
      go_ret
      exact ⟨congrArg (fun b => Ending.returned (Value.bool b)) (by rw [← HR.out]; first | exact (decide_eq_true (by omega)).symm | exact (decide_eq_false (by omega)).symm), below_two _ _⟩
  · by_cases h3 : -20 ≤ n
    · by_cases h4 : n ≤ -1
      · skip
        by_cases hs : s.size = 0
        · have d2 : s.toList = [] := (toList_nil s).2 hs
          by_cases hm : m = 0
          · have d3 : ((0 : Int) == (m : Int)) = true := by rw [beq_iff_eq]; omega
            go_wp2
            go_ret
            exact ⟨congrArg (fun b => Ending.returned (Value.bool b)) (by rw [← HR.out]; first | exact (decide_eq_true (by omega)).symm | exact (decide_eq_false (by omega)).symm), below_two _ _⟩
          · have d3 : ((0 : Int) == (m : Int)) = false := by rw [beq_eq_false_iff_ne]; omega
            go_wp2
            go_ret
            exact ⟨congrArg (fun b => Ending.returned (Value.bool b)) (by rw [← HR.out]; first | exact (decide_eq_true (by omega)).symm | exact (decide_eq_false (by omega)).symm), below_two _ _⟩
        · have d2 : ¬ s.toList = [] := fun h => hs ((toList_nil s).1 h)
          go_wp2
          go_ret
          exact ⟨congrArg (fun b => Ending.returned (Value.bool b)) (by rw [← HR.out]; first | exact (decide_eq_true (by omega)).symm | exact (decide_eq_false (by omega)).symm), below_two _ _⟩
      · skip
        go_wp2
        go_ret
        exact ⟨congrArg (fun b => Ending.returned (Value.bool b)) (by rw [← HR.out]; first | exact (decide_eq_true (by omega)).symm | exact (decide_eq_false (by omega)).symm), below_two _ _⟩
    · skip
      go_wp2
      go_ret
      exact ⟨congrArg (fun b => Ending.returned (Value.bool b)) (by rw [← HR.out]; first | exact (decide_eq_true (by omega)).symm | exact (decide_eq_false (by omega)).symm), below_two _ _⟩

end Go.Proofs.YtmijlcilnaeppaaGreatDoor

/- val.Right, the other kinds. -/
set_option linter.unusedSimpArgs false
set_option linter.unusedVariables false
namespace Go.Proofs.YtmijlcilnaeppaaGreatDoor
open Go Go.RowKit Go.Shelf

set_option maxHeartbeats 2000000 in
set_option maxRecDepth 100000 in
theorem right_other (k n : Int) (hk : k ≠ 0 ∧ k ≠ 1 ∧ k ≠ 2 ∧ k ≠ 3 ∧ k ≠ 4 ∧ k ≠ 5) (s : ByteArray) (p : Option Addr) (m c : Nat) (w : World) :
    Calls Tryz.prog 11 #[valV k n s (.slice p m c)] w fun e w' => e = .returned (.bool false) ∧ Below w.heap.size w w' := by
  obtain ⟨k0, k1, k2, k3, k4, k5⟩ := hk
  have d0 : (k == 0) = false := by rw [beq_eq_false_iff_ne]; omega
  have d1 : (k == 1) = false := by rw [beq_eq_false_iff_ne]; omega
  have d2 : (k == 2) = false := by rw [beq_eq_false_iff_ne]; omega
  have d3 : (k == 3) = false := by rw [beq_eq_false_iff_ne]; omega
  have d4 : (k == 4) = false := by rw [beq_eq_false_iff_ne]; omega
  have d5 : (k == 5) = false := by rw [beq_eq_false_iff_ne]; omega
  go_enter Tryz.func11, Tryz.ntmps11
  go_wp2
  go_ret
  exact ⟨rfl, below_two _ _⟩

theorem cell_first (w : World) (A : Array Value) (t : TypeId) (o' : Obj) (i : Nat) : ((w.alloc (.cells A t)).alloc o').cell? ⟨w.heap.size, i, none⟩ = A[i]? := by
  have h : ((w.alloc (.cells A t)).alloc o').heap[w.heap.size]? = some (.cells A t) := heap_alloc2_old w _ _
  rw [Lib.cell_of_heap h]
theorem cell_second (w : World) (o : Obj) (A : Array Value) (t : TypeId) (i : Nat) : ((w.alloc o).alloc (.cells A t)).cell? ⟨w.heap.size + 1, i, none⟩ = A[i]? := by
  have h : ((w.alloc o).alloc (.cells A t)).heap[w.heap.size + 1]? = some (.cells A t) := by have := World.alloc_heap_new (w.alloc o) (.cells A t); rwa [show (w.alloc o).heap.size = w.heap.size + 1 from by simp] at this
  rw [Lib.cell_of_heap h]

theorem below_two' {w w' : World} (o o' : Obj) (h : Below ((w.alloc o).alloc o').heap.size ((w.alloc o).alloc o') w') : Below w.heap.size w w' :=
  (below_two o o').trans (h.mono (by simp; omega))

set_option maxHeartbeats 2000000 in
set_option maxRecDepth 100000 in
theorem right_text (n : Int) (s : ByteArray) (hsz : s.size ≤ 9223372036854775807) (p : Option Addr) (m c : Nat) (w : World) (hT : Tabs w) :
    Calls Tryz.prog 11 #[valV 2 n s (.slice p m c)] w fun e w' => e = .returned (.bool (decide (n = 0 ∧ (s.size ≤ 60 ∧ textOk s.data.toList = true) ∧ m = 0))) ∧ Below w.heap.size w w' := by
  generalize hr : decide (n = 0 ∧ (s.size ≤ 60 ∧ textOk s.data.toList = true) ∧ m = 0) = r
  have HR := Lib.hid hr; clear hr
  go_enter Tryz.func11, Tryz.ntmps11
  by_cases h1 : s.size ≤ 60
  · have d1 : (s.size : Int) ≤ 60 := by omega
    generalize ht : textOk s.data.toList = t
    have HTX := Lib.hid ht; clear ht
    go_wp2_with fail
    go_at_call 36
    refine (wordsText_any s _ hsz (hT.below (below_two _ _))).mono ?_
    rintro e W ⟨rfl, hB⟩
    rw [HTX.out]
    have hbw := below_two' _ _ hB
    have z2 : w.heap.size + 2 ≤ W.heap.size := by have := hB.size; simpa using this
    have g : ∀ k v, (k = w.heap.size ∨ k = w.heap.size + 1) → ∀ i, (World.cell? ((w.alloc (.cells #[.int .i64 2, .int .i64 n, .string s, .slice p m c] 30)).alloc (.cells #[.int .i64 2, .int .i64 0, .string s, .slice none 0 0] 30)) ⟨k, i, none⟩) = some v → W.cell? ⟨k, i, none⟩ = some v := by
      intro k v hk i hc
      rw [hB.cell (by simp; omega), hc]
    have c1 := g w.heap.size (.int .i64 n) (.inl rfl) 1 (cell_first _ _ _ _ _)
    have c2 := g w.heap.size (.string s) (.inl rfl) 2 (cell_first _ _ _ _ _)
    have c3 := g w.heap.size (.slice p m c) (.inl rfl) 3 (cell_first _ _ _ _ _)
    have b1 := g (w.heap.size + 1) (.int .i64 0) (.inr rfl) 1 (cell_second _ _ _ _ _)
    have b2 := g (w.heap.size + 1) (.string s) (.inr rfl) 2 (cell_second _ _ _ _ _)
    have b3 := g (w.heap.size + 1) (.slice none 0 0) (.inr rfl) 3 (cell_second _ _ _ _ _)
    clear g
    cases t with
    | true =>
      by_cases hn : n = 0
      · have d2 : ((0 : Int) == n) = true := by rw [beq_iff_eq]; omega
        by_cases hm : m = 0
        · have d3 : ((0 : Int) == (m : Int)) = true := by rw [beq_iff_eq]; omega
          go_wp2
          go_ret
          exact ⟨congrArg (fun b => Ending.returned (Value.bool b)) (by rw [← HR.out, HTX.out]; exact (decide_eq_true ⟨hn, ⟨h1, rfl⟩, hm⟩).symm), hbw⟩
        · have d3 : ((0 : Int) == (m : Int)) = false := by rw [beq_eq_false_iff_ne]; omega
          go_wp2
          go_ret
          exact ⟨congrArg (fun b => Ending.returned (Value.bool b)) (by rw [← HR.out]; exact (decide_eq_false (fun h => hm h.2.2)).symm), hbw⟩
      · have d2 : ((0 : Int) == n) = false := by rw [beq_eq_false_iff_ne]; omega
        go_wp2
        go_ret
        exact ⟨congrArg (fun b => Ending.returned (Value.bool b)) (by rw [← HR.out]; exact (decide_eq_false (fun h => hn h.1)).symm), hbw⟩
    | false =>
      go_wp2
      go_ret
      exact ⟨congrArg (fun b => Ending.returned (Value.bool b)) (by rw [← HR.out, HTX.out]; exact (decide_eq_false (fun h => Bool.noConfusion h.2.1.2)).symm), hbw⟩
  · have d1 : ¬ (s.size : Int) ≤ 60 := by omega
    go_wp2_with fail
    go_ret
    exact ⟨congrArg (fun b => Ending.returned (Value.bool b)) (by rw [← HR.out]; exact (decide_eq_false (by omega)).symm), below_two _ _⟩
end Go.Proofs.YtmijlcilnaeppaaGreatDoor

/- val.rightList, val.Right whole. -/
set_option linter.unusedSimpArgs false
set_option linter.unusedVariables false
namespace Go.Proofs.YtmijlcilnaeppaaGreatDoor
open Go Go.RowKit Go.Shelf

/-- what a value's four cells hold -/
structure It where
  k : Int
  n : Int
  s : ByteArray
  p : Option Addr
  m : Nat
  c : Nat
abbrev It.cells (x : It) : List Value := [.int .i64 x.k, .int .i64 x.n, .string x.s, .slice x.p x.m x.c]
abbrev It.v (x : It) : Value := valV x.k x.n x.s (.slice x.p x.m x.c)
def itsCells : List It → List Value
  | [] => []
  | x :: xs => x.cells ++ itsCells xs
theorem itsCells_length : ∀ xs : List It, (itsCells xs).length = xs.length * 4
  | [] => rfl
  | x :: xs => by
    show (x.cells ++ itsCells xs).length = _
    rw [List.length_append, itsCells_length xs]; simp; omega
theorem itsCells_at : ∀ (xs : List It) (i : Nat) (h : i < xs.length) (j : Nat) (v : Value), (xs[i].cells)[j]? = some v → (itsCells xs)[i * 4 + j]? = some v
  | x :: xs, 0, h, j, v, hv => by
    show (x.cells ++ itsCells xs)[0 * 4 + j]? = some v
    have hj : j < x.cells.length := (List.getElem?_eq_some_iff.1 hv).1
    rw [Nat.zero_mul, Nat.zero_add, List.getElem?_append_left hj]
    exact hv
  | x :: xs, i + 1, h, j, v, hv => by
    show (x.cells ++ itsCells xs)[(i + 1) * 4 + j]? = some v
    rw [List.getElem?_append_right (by simp; omega), show (i + 1) * 4 + j - x.cells.length = i * 4 + j from by simp; omega]
    exact itsCells_at xs i (by simpa using h) j v hv

/-- may a value be that is no list -/
def flatOk (k n : Int) (s : ByteArray) (m : Nat) : Bool :=
  if k = 0 then decide (n = 0 ∧ s.size = 0 ∧ m = 0)
  else if k = 1 then decide ((-1000000000000000 ≤ n ∧ n ≤ 1000000000000000) ∧ s.size = 0 ∧ m = 0)
  else if k = 2 then decide (n = 0 ∧ (s.size ≤ 60 ∧ textOk s.data.toList = true) ∧ m = 0)
  else if k = 3 ∨ k = 4 then decide ((1 ≤ n ∧ n ≤ 100000 ∨ -20 ≤ n ∧ n ≤ -1) ∧ s.size = 0 ∧ m = 0)
  else false

theorem right_flat (k n : Int) (hk : k ≠ 5) (s : ByteArray) (hsz : s.size ≤ 9223372036854775807) (p : Option Addr) (m c : Nat) (w : World) (hT : Tabs w) :
    Calls Tryz.prog 11 #[valV k n s (.slice p m c)] w fun e w' => e = .returned (.bool (flatOk k n s m)) ∧ Below w.heap.size w w' := by
  by_cases h0 : k = 0
  · subst h0; exact right_nil n s p m c w
  by_cases h1 : k = 1
  · subst h1; exact right_num n s p m c w
  by_cases h2 : k = 2
  · subst h2; exact right_text n s hsz p m c w hT
  by_cases h3 : k = 3
  · subst h3; exact right_ref n s p m c w
  by_cases h4 : k = 4
  · subst h4; exact right_weak n s p m c w
  have : flatOk k n s m = false := by
    unfold flatOk
    rw [if_neg h0, if_neg h1, if_neg h2, if_neg (by omega)]
  rw [this]
  exact right_other k n ⟨h0, h1, h2, h3, h4, hk⟩ s p m c w

def itemOk (x : It) : Bool := !(x.k == 5) && flatOk x.k x.n x.s x.m
def listOk (xs : List It) : Bool := decide (xs.length ≤ 12) && xs.all itemOk

theorem all_take_succ {xs : List It} {k : Nat} (h : k < xs.length) (ha : (xs.take k).all itemOk = true) (hx : itemOk xs[k] = true) : (xs.take (k + 1)).all itemOk = true := by
  rw [List.take_succ_eq_append_getElem h, List.all_append, ha]
  simp [hx]
theorem all_false {xs : List It} {k : Nat} (h : k < xs.length) (hx : itemOk xs[k] = false) : xs.all itemOk = false := by
  rw [List.all_eq_false]
  exact ⟨xs[k], List.getElem_mem h, by simp [hx]⟩

set_option maxHeartbeats 2000000 in
set_option maxRecDepth 100000 in
theorem rightList_some (b off c : Nat) (xs : List It) (hs : ∀ x ∈ xs, x.s.size ≤ 9223372036854775807) (hl : xs.length ≤ 12) (w : World) (hT : Tabs w) (hb : b < w.heap.size)
    (hc : ∀ (i : Nat) (h : i < xs.length) (j : Nat) (u : Value), (xs[i].cells)[j]? = some u → w.cell? ⟨b, off + i * 4 + j, none⟩ = some u) :
    Calls Tryz.prog 37 #[.slice (some ⟨b, off, none⟩) xs.length c] w fun e w' => e = .returned (.bool (listOk xs)) ∧ Below w.heap.size w w' := by
  have HC := Lib.hid hc; clear hc
  have HS := Lib.hid hs; clear hs
  generalize hr : listOk xs = r
  have HR := Lib.hid hr; clear hr
  have d1 : ¬ (12 : Int) < (xs.length : Int) := by omega
  go_enter Tryz.func37, Tryz.ntmps37
  go_wp2
  go_loopw [10] (fun i wr => ∃ k : Nat, k ≤ xs.length ∧ i = .int .i64 (k : Int) ∧ (xs.take k).all itemOk = true ∧ Below w.heap.size w wr) (fun i _ => xs.length - (intOf i).toNat)
  case atStart => exact ⟨0, by omega, rfl, rfl, Below.refl _ _⟩
  case round =>
    obtain ⟨k, hk, rfl, he, hB⟩ := hrel
    have HE := Lib.hid he; clear he
    by_cases hlt : k < xs.length
    · have hel : ∃ x, xs[k] = x := ⟨_, rfl⟩
      obtain ⟨x, hx⟩ := hel
      have HX := Lib.hid hx; clear hx
      have hcx : ∀ (j : Nat) (u : Value), (x.cells)[j]? = some u → wr.cell? ⟨b, off + k * 4 + j, none⟩ = some u := fun j u hu => by
        rw [hB.cell (p := ⟨b, off + k * 4 + j, none⟩) hb]; exact HC.out k hlt j u (by rw [HX.out]; exact hu)
      have c0 : wr.cell? ⟨b, off + k * 4, none⟩ = some (.int .i64 x.k) := hcx 0 _ rfl
      have c1 : wr.cell? ⟨b, off + k * 4 + 1, none⟩ = some (.int .i64 x.n) := hcx 1 _ rfl
      have c2 : wr.cell? ⟨b, off + k * 4 + 2, none⟩ = some (.string x.s) := hcx 2 _ rfl
      have c3 : wr.cell? ⟨b, off + k * 4 + 3, none⟩ = some (.slice x.p x.m x.c) := hcx 3 _ rfl
      have hxs : x.s.size ≤ 9223372036854775807 := HS.out x (by rw [← HX.out]; exact List.getElem_mem hlt)
      clear hcx
      have d0 : (0 : Int) ≤ (k : Int) := by omega
      have d2 : (k : Int) < (xs.length : Int) := by omega
      have hTr := hT.below hB
      have hTr2 : Tabs (wr.alloc (.cells #[.int .i64 x.k, .int .i64 x.n, .string x.s, .slice x.p x.m x.c] 30)) := hTr.below ((Below.refl _ _).alloc (Nat.le_refl _) _)
      have hz : w.heap.size ≤ wr.heap.size := hB.size
      by_cases h5 : x.k = 5
      · have d5 : (x.k == 5) = true := by rw [beq_iff_eq]; exact h5
        have hR : r = false := by
          rw [← HR.out]
          unfold listOk
          rw [all_false hlt (by rw [HX.out]; simp [itemOk, h5])]
          simp
        have HRF := Lib.hid hR; clear hR
        have H5 := Lib.hid h5; clear h5
        go_wp2_with fail
        go_ret
        exact ⟨by rw [HRF.out]; rfl, hB.alloc hz _⟩
      · have d5 : (x.k == 5) = false := by rw [beq_eq_false_iff_ne]; exact h5
        have hit : itemOk xs[k] = flatOk x.k x.n x.s x.m := by rw [HX.out]; simp [itemOk, h5]
        have HIT := Lib.hid hit; clear hit
        generalize hF : flatOk x.k x.n x.s x.m = F
        have HF := Lib.hid hF; clear hF
        have H5 := Lib.hid h5; clear h5
        go_wp2_with fail
        refine (right_flat _ _ H5.out _ hxs _ _ _ _ hTr2).mono ?_
        rintro e W ⟨rfl, hB2⟩
        rw [HF.out]
        have hBW : Below w.heap.size w W := (hB.alloc hz _).trans (hB2.mono (by simp; omega))
        cases F with
        | true =>
          have htk : (xs.take (k + 1)).all itemOk = true := all_take_succ hlt HE.out (by rw [HIT.out, HF.out])
          have HTK := Lib.hid htk; clear htk
          go_wp2_with fail
          exact ⟨⟨k + 1, by omega, by go_num, HTK.out, hBW⟩, by simp [intOf]; omega⟩
        | false =>
          have hR : r = false := by
            rw [← HR.out]
            unfold listOk
            rw [all_false hlt (by rw [HIT.out, HF.out])]
            simp
          have HRF := Lib.hid hR; clear hR
          go_wp2_with fail
          go_ret
          exact ⟨by rw [HRF.out]; rfl, hBW⟩
    · obtain rfl : k = xs.length := by omega
      have hR : r = true := by
        rw [← HR.out]
        unfold listOk
        have := HE.out
        rw [List.take_of_length_le (Nat.le_refl _)] at this
        rw [this, decide_eq_true hl]; rfl
      have HRT := Lib.hid hR; clear hR
      go_wp2
      go_ret
      exact ⟨by rw [HRT.out]; rfl, hB⟩

set_option maxHeartbeats 1000000 in
set_option maxRecDepth 100000 in
theorem rightList_long (p : Option Addr) (m c : Nat) (hm : 12 < m) (w : World) :
    Calls Tryz.prog 37 #[.slice p m c] w fun e w' => e = .returned (.bool false) ∧ Below w.heap.size w w' := by
  have d1 : (12 : Int) < (m : Int) := by omega
  go_enter Tryz.func37, Tryz.ntmps37
  go_wp2
  go_ret
  exact ⟨rfl, Below.refl _ _⟩

set_option maxHeartbeats 1000000 in
set_option maxRecDepth 100000 in
theorem rightList_zero (p : Option Addr) (c : Nat) (w : World) :
    Calls Tryz.prog 37 #[.slice p 0 c] w fun e w' => e = .returned (.bool true) ∧ Below w.heap.size w w' := by
  go_enter Tryz.func37, Tryz.ntmps37
  go_wp2
  go_loopw [10] (fun i wr => i = .int .i64 0 ∧ w = wr) (fun _ _ => 0)
  case atStart => exact ⟨rfl, rfl⟩
  case round =>
    obtain ⟨rfl, rfl⟩ := hrel
    go_wp2
    go_ret
    exact ⟨rfl, Below.refl _ _⟩

theorem rightList_any {v : Value} (xs : List It) (hs : ∀ x ∈ xs, x.s.size ≤ 9223372036854775807) (w : World) (hT : Tabs w) (h : Lies w v xs.length 4 (itsCells xs)) :
    Calls Tryz.prog 37 #[v] w fun e w' => e = .returned (.bool (listOk xs)) ∧ Below w.heap.size w w' := by
  by_cases hl : xs.length ≤ 12
  · rcases h.2 with ⟨h0, p, c, rfl⟩ | ⟨b, off, c, rfl, hb, hc⟩
    · obtain rfl : xs = [] := List.eq_nil_of_length_eq_zero h0
      exact rightList_zero p c w
    · exact rightList_some b off c xs hs hl w hT hb (fun i h j u hu => by rw [Nat.add_assoc]; exact hc _ _ (itsCells_at xs i h j u hu))
  · have : listOk xs = false := by unfold listOk; rw [decide_eq_false hl]; rfl
    rw [this]
    rcases h.2 with ⟨h0, p, c, rfl⟩ | ⟨b, off, c, rfl, hb, hc⟩
    · omega
    · exact rightList_long _ _ _ (by omega) w

set_option maxHeartbeats 2000000 in
set_option maxRecDepth 100000 in
theorem right_list (n : Int) (s : ByteArray) (p : Option Addr) (c : Nat) (xs : List It) (hs : ∀ x ∈ xs, x.s.size ≤ 9223372036854775807) (w : World) (hT : Tabs w) (h : Lies w (.slice p xs.length c) xs.length 4 (itsCells xs)) :
    Calls Tryz.prog 11 #[valV 5 n s (.slice p xs.length c)] w fun e w' => e = .returned (.bool (decide (n = 0 ∧ s.size = 0) && listOk xs)) ∧ Below w.heap.size w w' := by
  generalize hr : (decide (n = 0 ∧ s.size = 0) && listOk xs) = r
  have HR := Lib.hid hr; clear hr
  generalize hF : listOk xs = F
  have HF := Lib.hid hF; clear hF
  go_enter Tryz.func11, Tryz.ntmps11
  go_wp2_with fail
  refine (rightList_any xs hs _ (hT.below (below_two _ _)) (h.below (below_two _ _))).mono ?_
  rintro e W ⟨rfl, hB⟩
  rw [HF.out]
  have hbw := below_two' _ _ hB
  have z2 : w.heap.size + 2 ≤ W.heap.size := by have := hB.size; simpa using this
  have g : ∀ k v, (k = w.heap.size ∨ k = w.heap.size + 1) → ∀ i, (World.cell? ((w.alloc (.cells #[.int .i64 5, .int .i64 n, .string s, .slice p xs.length c] 30)).alloc (.cells #[.int .i64 5, .int .i64 0, .string ⟨#[]⟩, .slice p xs.length c] 30)) ⟨k, i, none⟩) = some v → W.cell? ⟨k, i, none⟩ = some v := by
    intro k v hk i hc
    rw [hB.cell (by simp; omega), hc]
  have c1 := g w.heap.size (.int .i64 n) (.inl rfl) 1 (cell_first _ _ _ _ _)
  have c2 := g w.heap.size (.string s) (.inl rfl) 2 (cell_first _ _ _ _ _)
  have c3 := g w.heap.size (.slice p xs.length c) (.inl rfl) 3 (cell_first _ _ _ _ _)
  have b1 := g (w.heap.size + 1) (.int .i64 0) (.inr rfl) 1 (cell_second _ _ _ _ _)
  have b2 := g (w.heap.size + 1) (.string ⟨#[]⟩) (.inr rfl) 2 (cell_second _ _ _ _ _)
  have b3 := g (w.heap.size + 1) (.slice p xs.length c) (.inr rfl) 3 (cell_second _ _ _ _ _)
  clear g
  cases F with
  | true =>
    by_cases hn : n = 0
    · have d2 : ((0 : Int) == n) = true := by rw [beq_iff_eq]; omega
      by_cases hz : s.size = 0
      · have d3 : s.toList = [] := (toList_nil s).2 hz
        go_wp2
        go_ret
        exact ⟨congrArg (fun b => Ending.returned (Value.bool b)) (by rw [← HR.out, HF.out, decide_eq_true ⟨hn, hz⟩]; rfl), hbw⟩
      · have d3 : ¬ s.toList = [] := fun h => hz ((toList_nil s).1 h)
        go_wp2
        go_ret
        exact ⟨congrArg (fun b => Ending.returned (Value.bool b)) (by rw [← HR.out, decide_eq_false (fun h => hz h.2)]; rfl), hbw⟩
    · have d2 : ((0 : Int) == n) = false := by rw [beq_eq_false_iff_ne]; omega
      go_wp2
      go_ret
      exact ⟨congrArg (fun b => Ending.returned (Value.bool b)) (by rw [← HR.out, decide_eq_false (fun h => hn h.1)]; rfl), hbw⟩
  | false =>
    go_wp2
    go_ret
    exact ⟨congrArg (fun b => Ending.returned (Value.bool b)) (by rw [← HR.out, HF.out, Bool.and_false]), hbw⟩

/-- may a value be -/
def rightOf (x : It) (xs : List It) : Bool := if x.k = 5 then decide (x.n = 0 ∧ x.s.size = 0) && listOk xs else flatOk x.k x.n x.s x.m

theorem right_any (x : It) (xs : List It) (hx : x.s.size ≤ 9223372036854775807) (hs : ∀ y ∈ xs, y.s.size ≤ 9223372036854775807) (w : World) (hT : Tabs w) (h : x.k = 5 → x.m = xs.length ∧ Lies w (.slice x.p x.m x.c) xs.length 4 (itsCells xs)) :
    Calls Tryz.prog 11 #[x.v] w fun e w' => e = .returned (.bool (rightOf x xs)) ∧ Below w.heap.size w w' := by
  obtain ⟨k, n, s, p, m, c⟩ := x
  unfold rightOf
  by_cases h5 : k = 5
  · subst h5
    obtain ⟨hm, hL⟩ := h rfl
    simp only at hm hL
    subst hm
    rw [if_pos rfl]
    exact right_list n s p c xs hs w hT hL
  · rw [if_neg h5]
    exact right_flat k n h5 s hx p m c w hT
end Go.Proofs.YtmijlcilnaeppaaGreatDoor

/- val.compareLists, val.Compare. -/
set_option linter.unusedSimpArgs false
set_option linter.unusedVariables false
namespace Go.Proofs.YtmijlcilnaeppaaGreatDoor
open Go Go.RowKit Go.Shelf

/-- a value -/
inductive V where
  | mk (k n : Int) (s : ByteArray) (l : List V)
def V.k : V → Int | .mk k _ _ _ => k
def V.n : V → Int | .mk _ n _ _ => n
def V.s : V → ByteArray | .mk _ _ s _ => s
def V.l : V → List V | .mk _ _ _ l => l

/-- what every value of Go's keeps -/
structure V.fine (v : V) : Prop where
  k : -9223372036854775808 ≤ v.k ∧ v.k ≤ 9223372036854775807
  n : -9223372036854775808 ≤ v.n ∧ v.n ≤ 9223372036854775807
  s : v.s.size ≤ 9223372036854775807
  l : v.l.length ≤ 9223372036854775807
/-- a value lies, its items as J says -/
def VTop (W : World) (v : V) (x : It) (J : V → It → Prop) : Prop :=
  v.fine ∧ x.k = v.k ∧ x.n = v.n ∧ x.s = v.s ∧ ∃ ys : List It, ys.length = v.l.length ∧ Lies W (.slice x.p x.m x.c) ys.length 4 (itsCells ys) ∧ ∀ (i : Nat) (h : i < ys.length) (h' : i < v.l.length), J v.l[i] ys[i]
def VAt : Nat → World → V → It → Prop
  | 0, W, v, x => VTop W v x (fun _ _ => False)
  | d + 1, W, v, x => VTop W v x (VAt d W)
/-- the items of a value of this depth -/
def VIn : Nat → World → V → It → Prop
  | 0, _ => fun _ _ => False
  | d + 1, W => VAt d W
theorem VAt.top {d : Nat} {W : World} {v : V} {x : It} (h : VAt d W v x) : VTop W v x (VIn d W) := by cases d <;> exact h
theorem VTop.mono {W W' : World} {v : V} {x : It} {J J' : V → It → Prop} (h : VTop W v x J) (hb : Below W.heap.size W W') (hJ : ∀ v x, J v x → J' v x) : VTop W' v x J' := by
  obtain ⟨h0, h1, h2, h3, ys, h4, h5, h6⟩ := h
  exact ⟨h0, h1, h2, h3, ys, h4, h5.below hb, fun i a b => hJ _ _ (h6 i a b)⟩
theorem VTop.len {W : World} {v : V} {x : It} {J : V → It → Prop} (h : VTop W v x J) : x.m = v.l.length := by
  obtain ⟨h0, h1, h2, h3, ys, h4, h5, h6⟩ := h
  rcases h5.2 with ⟨e, p, c, hv⟩ | ⟨b, off, c, hv, _⟩
  · injection hv with _ h _; omega
  · injection hv with _ h _; omega
theorem VTop.room {W : World} {v : V} {x : It} {J : V → It → Prop} (h : VTop W v x J) : x.m ≤ 9223372036854775807 := by
  rw [h.len]; exact h.1.l
theorem VAt.below : ∀ {d : Nat} {W W' : World} {v : V} {x : It}, VAt d W v x → Below W.heap.size W W' → VAt d W' v x
  | 0, _, _, _, _, h, hb => VTop.mono h hb (fun _ _ h => h)
  | d + 1, _, _, _, _, h, hb => VTop.mono h hb (fun _ _ h => VAt.below h hb)
theorem VIn.below {d : Nat} {W W' : World} {v : V} {x : It} (h : VIn d W v x) (hb : Below W.heap.size W W') : VIn d W' v x := by
  cases d with
  | zero => exact h
  | succ d => exact VAt.below h hb

/-- two lists, item by item -/
def cmpL (f : V → V → Int) : List V → List V → Int
  | [], [] => 0
  | [], _ :: _ => -1
  | _ :: _, [] => 1
  | x :: xs, y :: ys => if f x y = 0 then cmpL f xs ys else f x y
def cmpV : Nat → V → V → Int
  | 0, a, b => orI [ordI a.k b.k, ordI a.n b.n, ordS a.s b.s, cmpL (fun _ _ => 0) a.l b.l]
  | d + 1, a, b => orI [ordI a.k b.k, ordI a.n b.n, ordS a.s b.s, cmpL (cmpV d) a.l b.l]
def cmpIn : Nat → V → V → Int
  | 0 => fun _ _ => 0
  | d + 1 => cmpV d
theorem cmpV_top (d : Nat) (a b : V) : cmpV d a b = orI [ordI a.k b.k, ordI a.n b.n, ordS a.s b.s, cmpL (cmpIn d) a.l b.l] := by cases d <;> rfl

theorem cmpL_end (f : V → V → Int) : ∀ (a b : List V) (k : Nat), k ≤ a.length → k ≤ b.length → (k = a.length ∨ k = b.length) → cmpL f (a.drop k) (b.drop k) = ordI a.length b.length := by
  intro a b k h1 h2 h3
  rcases h3 with rfl | rfl
  · rw [List.drop_length]
    rcases Nat.lt_or_ge a.length b.length with h | h
    · obtain ⟨y, ys, hy⟩ : ∃ y ys, b.drop a.length = y :: ys := ⟨_, _, List.drop_eq_getElem_cons h⟩
      rw [hy]
      unfold ordI
      rw [if_pos (by omega)]; rfl
    · have e : b.drop a.length = [] := List.drop_eq_nil_of_le h
      rw [e]
      unfold ordI
      rw [if_neg (by omega), if_neg (by omega)]; rfl
  · rw [List.drop_length]
    rcases Nat.lt_or_ge b.length a.length with h | h
    · obtain ⟨y, ys, hy⟩ : ∃ y ys, a.drop b.length = y :: ys := ⟨_, _, List.drop_eq_getElem_cons h⟩
      rw [hy]
      unfold ordI
      rw [if_neg (by omega), if_pos (by omega)]; rfl
    · have e : a.drop b.length = [] := List.drop_eq_nil_of_le h
      rw [e]
      unfold ordI
      rw [if_neg (by omega), if_neg (by omega)]; rfl

theorem cmpL_step (f : V → V → Int) (a b : List V) (k : Nat) (h1 : k < a.length) (h2 : k < b.length) : cmpL f (a.drop k) (b.drop k) = if f a[k] b[k] = 0 then cmpL f (a.drop (k + 1)) (b.drop (k + 1)) else f a[k] b[k] := by
  rw [List.drop_eq_getElem_cons h1, List.drop_eq_getElem_cons h2]
  rfl

theorem cell_four {W : World} {b off k : Nat} {x : It} (h : ∀ (j : Nat) (u : Value), (x.cells)[j]? = some u → W.cell? ⟨b, off + k * 4 + j, none⟩ = some u) :
    W.cell? ⟨b, off + k * 4, none⟩ = some (.int .i64 x.k) ∧ W.cell? ⟨b, off + k * 4 + 1, none⟩ = some (.int .i64 x.n) ∧ W.cell? ⟨b, off + k * 4 + 2, none⟩ = some (.string x.s) ∧ W.cell? ⟨b, off + k * 4 + 3, none⟩ = some (.slice x.p x.m x.c) :=
  ⟨h 0 _ rfl, h 1 _ rfl, h 2 _ rfl, h 3 _ rfl⟩

/-- Compare's contract at a depth -/
def CmpAt (d : Nat) : Prop := ∀ (u v : V) (x y : It) (W : World), VIn d W u x → VIn d W v y →
  Calls Tryz.prog 18 #[x.v, y.v] W fun e W' => e = .returned (.int .i64 (cmpIn d u v)) ∧ Below W.heap.size W W'

set_option maxHeartbeats 4000000 in
set_option maxRecDepth 100000 in
theorem lists_some (d : Nat) (hC : CmpAt d) (b off c b' off' c' : Nat) (us vs : List V) (xs ys : List It) (hx : xs.length = us.length) (hy : ys.length = vs.length) (hxm : xs.length ≤ 9223372036854775807) (hym : ys.length ≤ 9223372036854775807)
    (w : World) (hb : b < w.heap.size) (hb' : b' < w.heap.size)
    (h1 : ∀ (i : Nat) (h : i < xs.length) (j : Nat) (u : Value), (xs[i].cells)[j]? = some u → w.cell? ⟨b, off + i * 4 + j, none⟩ = some u)
    (h2 : ∀ (i : Nat) (h : i < ys.length) (j : Nat) (u : Value), (ys[i].cells)[j]? = some u → w.cell? ⟨b', off' + i * 4 + j, none⟩ = some u)
    (j1 : ∀ (i : Nat) (h : i < xs.length) (h' : i < us.length), VIn d w us[i] xs[i]) (j2 : ∀ (i : Nat) (h : i < ys.length) (h' : i < vs.length), VIn d w vs[i] ys[i]) :
    Calls Tryz.prog 44 #[.slice (some ⟨b, off, none⟩) xs.length c, .slice (some ⟨b', off', none⟩) ys.length c', .func (.func 18) #[] #[]] w fun e w' => e = .returned (.int .i64 (cmpL (cmpIn d) us vs)) ∧ Below w.heap.size w w' := by
  have H1 := Lib.hid h1; clear h1
  have H2 := Lib.hid h2; clear h2
  have J1 := Lib.hid j1; clear j1
  have J2 := Lib.hid j2; clear j2
  have HX := Lib.hid hx; clear hx
  have HY := Lib.hid hy; clear hy
  generalize hr : cmpL (cmpIn d) us vs = r
  have HR := Lib.hid hr; clear hr
  go_enter Tryz.func44, Tryz.ntmps44
  obtain ⟨M, hM, hM1, hM2, hM3⟩ : ∃ M : Nat, (if (xs.length : Int) < (ys.length : Int) then (xs.length : Int) else (ys.length : Int)) = (M : Int) ∧ M ≤ xs.length ∧ M ≤ ys.length ∧ (M = xs.length ∨ M = ys.length) := by
    by_cases h : xs.length < ys.length
    · exact ⟨xs.length, by rw [if_pos (by omega)], by omega, by omega, .inl rfl⟩
    · exact ⟨ys.length, by rw [if_neg (by omega)], by omega, by omega, .inr rfl⟩
  go_wp2_with fail
  go_loopw [14] (fun i wr => ∃ k : Nat, k ≤ M ∧ i = .int .i64 (k : Int) ∧ cmpL (cmpIn d) (us.drop k) (vs.drop k) = r ∧ Below w.heap.size w wr) (fun i _ => M - (intOf i).toNat)
  case atStart => exact ⟨0, by omega, rfl, HR.out, Below.refl _ _⟩
  case round =>
    obtain ⟨k, hk, rfl, he, hB⟩ := hrel
    have HE := Lib.hid he; clear he
    have hz : w.heap.size ≤ wr.heap.size := hB.size
    by_cases hlt : k < M
    · have hkx : k < xs.length := by omega
      have hky : k < ys.length := by omega
      have hku : k < us.length := by rw [← HX.out]; exact hkx
      have hkv : k < vs.length := by rw [← HY.out]; exact hky
      obtain ⟨x, hx⟩ : ∃ x, xs[k] = x := ⟨_, rfl⟩
      obtain ⟨y, hy⟩ : ∃ y, ys[k] = y := ⟨_, rfl⟩
      have hx1 : VIn d wr us[k] x := by rw [← hx]; exact (J1.out k hkx hku).below hB
      have hy1 : VIn d wr vs[k] y := by rw [← hy]; exact (J2.out k hky hkv).below hB
      obtain ⟨c0, c1, c2, c3⟩ := cell_four (W := wr) (b := b) (off := off) (k := k) (x := x) (fun j u hu => by
        rw [hB.cell (p := ⟨b, off + k * 4 + j, none⟩) hb]; exact H1.out k hkx j u (by rw [hx]; exact hu))
      obtain ⟨e0, e1, e2, e3⟩ := cell_four (W := wr) (b := b') (off := off') (k := k) (x := y) (fun j u hu => by
        rw [hB.cell (p := ⟨b', off' + k * 4 + j, none⟩) hb']; exact H2.out k hky j u (by rw [hy]; exact hu))
      have hstep := cmpL_step (cmpIn d) us vs k hku hkv
      obtain ⟨q, hq⟩ : ∃ q, cmpIn d us[k] vs[k] = q := ⟨_, rfl⟩
      rw [hq] at hstep
      have hcc : ∀ W, Below wr.heap.size wr W → Calls Tryz.prog 18 #[x.v, y.v] W fun e W' => e = .returned (.int .i64 q) ∧ Below wr.heap.size wr W' := fun W hW => by
        rw [← hq]
        refine (hC _ _ x y W (hx1.below hW) (hy1.below hW)).mono ?_
        rintro e W' ⟨rfl, h⟩
        exact ⟨rfl, hW.trans (h.mono hW.size)⟩
      have HST := Lib.hid hstep
      have HCC := Lib.hid hcc
      clear hstep hcc hx hy hq hx1 hy1
      have d0 : (0 : Int) ≤ (k : Int) := by omega
      have d1 : (k : Int) < (xs.length : Int) := by omega
      have d2 : (k : Int) < (ys.length : Int) := by omega
      have d3 : (k : Int) < (M : Int) := by omega
      have hS : (fun W' : World => W'.cell? ⟨b, off + k * 4, none⟩ = some (.int .i64 x.k) ∧ W'.cell? ⟨b, off + k * 4 + 1, none⟩ = some (.int .i64 x.n) ∧ W'.cell? ⟨b, off + k * 4 + 2, none⟩ = some (.string x.s) ∧ W'.cell? ⟨b, off + k * 4 + 3, none⟩ = some (.slice x.p x.m x.c) ∧ W'.cell? ⟨b', off' + k * 4, none⟩ = some (.int .i64 y.k) ∧ W'.cell? ⟨b', off' + k * 4 + 1, none⟩ = some (.int .i64 y.n) ∧ W'.cell? ⟨b', off' + k * 4 + 2, none⟩ = some (.string y.s) ∧ W'.cell? ⟨b', off' + k * 4 + 3, none⟩ = some (.slice y.p y.m y.c)) wr := ⟨c0, c1, c2, c3, e0, e1, e2, e3⟩
      have hsw : ∀ W', Below wr.heap.size wr W' → W'.cell? ⟨b, off + k * 4, none⟩ = some (.int .i64 x.k) ∧ W'.cell? ⟨b, off + k * 4 + 1, none⟩ = some (.int .i64 x.n) ∧ W'.cell? ⟨b, off + k * 4 + 2, none⟩ = some (.string x.s) ∧ W'.cell? ⟨b, off + k * 4 + 3, none⟩ = some (.slice x.p x.m x.c) ∧ W'.cell? ⟨b', off' + k * 4, none⟩ = some (.int .i64 y.k) ∧ W'.cell? ⟨b', off' + k * 4 + 1, none⟩ = some (.int .i64 y.n) ∧ W'.cell? ⟨b', off' + k * 4 + 2, none⟩ = some (.string y.s) ∧ W'.cell? ⟨b', off' + k * 4 + 3, none⟩ = some (.slice y.p y.m y.c) := fun W' h => by
        have g : ∀ (p : Addr) (v : Value), p.block < wr.heap.size → wr.cell? p = some v → W'.cell? p = some v := fun p v hp hv => (h.cell hp).trans hv
        exact ⟨g _ _ (by simpa using Nat.lt_of_lt_of_le hb hz) c0, g _ _ (by simpa using Nat.lt_of_lt_of_le hb hz) c1, g _ _ (by simpa using Nat.lt_of_lt_of_le hb hz) c2, g _ _ (by simpa using Nat.lt_of_lt_of_le hb hz) c3, g _ _ (by simpa using Nat.lt_of_lt_of_le hb' hz) e0, g _ _ (by simpa using Nat.lt_of_lt_of_le hb' hz) e1, g _ _ (by simpa using Nat.lt_of_lt_of_le hb' hz) e2, g _ _ (by simpa using Nat.lt_of_lt_of_le hb' hz) e3⟩
      have HSW := Lib.hid hsw; clear hsw
      go_wp2_with fail
      go_region_held3 (fun W' : World => W'.cell? ⟨b, off + k * 4, none⟩ = some (.int .i64 x.k) ∧ W'.cell? ⟨b, off + k * 4 + 1, none⟩ = some (.int .i64 x.n) ∧ W'.cell? ⟨b, off + k * 4 + 2, none⟩ = some (.string x.s) ∧ W'.cell? ⟨b, off + k * 4 + 3, none⟩ = some (.slice x.p x.m x.c) ∧ W'.cell? ⟨b', off' + k * 4, none⟩ = some (.int .i64 y.k) ∧ W'.cell? ⟨b', off' + k * 4 + 1, none⟩ = some (.int .i64 y.n) ∧ W'.cell? ⟨b', off' + k * 4 + 2, none⟩ = some (.string y.s) ∧ W'.cell? ⟨b', off' + k * 4 + 3, none⟩ = some (.slice y.p y.m y.c))
        (first | assumption | exact HSW.out _ (by assumption))
        (first | (go_at_call 18; (refine (HCC.out _ (Below.refl _ wr).drew).mono ?_); rintro e W1 ⟨rfl, hB1⟩))
      have hBW : Below w.heap.size w W1 := hB.trans (hB1.mono hz)
      by_cases h0 : q = 0
      · have d4 : (q == 0) = true := by rw [beq_iff_eq]; exact h0
        have hn : cmpL (cmpIn d) (us.drop (k + 1)) (vs.drop (k + 1)) = r := by rw [← HE.out, HST.out, if_pos h0]
        have HN := Lib.hid hn; clear hn
        have H0 := Lib.hid h0; clear h0
        go_wp2_with fail
        exact ⟨⟨k + 1, by omega, by go_num, HN.out, hBW⟩, by simp [intOf]; omega⟩
      · have d4 : (q == 0) = false := by rw [beq_eq_false_iff_ne]; exact h0
        have hn : r = q := by rw [← HE.out, HST.out, if_neg h0]
        have HN := Lib.hid hn; clear hn
        go_wp2_with fail
        go_ret
        exact ⟨by rw [HN.out]; rfl, hBW⟩
    · obtain rfl : k = M := by omega
      have hrr : r = ordI us.length vs.length := by rw [← HE.out]; exact cmpL_end _ us vs k (by rw [← HX.out]; exact hM1) (by rw [← HY.out]; exact hM2) (by rw [← HX.out, ← HY.out]; exact hM3)
      rw [← HX.out, ← HY.out] at hrr
      have HRR := Lib.hid hrr; clear hrr
      go_wp2_with (go_at_call 42; refine (cmpInt_any _ _ _).mono ?_; rintro e w1 ⟨rfl, rfl⟩)
      go_ret
      exact ⟨by rw [HRR.out]; rfl, hB⟩
end Go.Proofs.YtmijlcilnaeppaaGreatDoor

/- val.Compare, val.Same. -/
set_option linter.unusedSimpArgs false
set_option linter.unusedVariables false
namespace Go.Proofs.YtmijlcilnaeppaaGreatDoor
open Go Go.RowKit Go.Shelf

set_option maxHeartbeats 2000000 in
set_option maxRecDepth 100000 in
theorem lists_zero (p q : Option Addr) (n m c c' : Nat) (hz : n = 0 ∨ m = 0) (hn : n ≤ 9223372036854775807) (hm : m ≤ 9223372036854775807) (w : World) :
    Calls Tryz.prog 44 #[.slice p n c, .slice q m c', .func (.func 18) #[] #[]] w fun e w' => e = .returned (.int .i64 (ordI n m)) ∧ Below w.heap.size w w' := by
  have hmin : ¬ (0 : Int) < min (n : Int) (m : Int) := by omega
  go_enter Tryz.func44, Tryz.ntmps44
  go_wp2_with fail
  go_loopw [14] (fun i wr => i = .int .i64 0 ∧ w = wr) (fun i _ => 0)
  case atStart => exact ⟨rfl, rfl⟩
  case round =>
    obtain ⟨rfl, rfl⟩ := hrel
    go_wp2_with (go_at_call 42; refine (cmpInt_any _ _ _).mono ?_; rintro e w1 ⟨rfl, rfl⟩)
    go_ret
    exact ⟨rfl, Below.refl _ _⟩

theorem lists_any (d : Nat) (hC : CmpAt d) (a b : V) (x y : It) (w : World) (hx : VTop w a x (VIn d w)) (hy : VTop w b y (VIn d w)) (hxm : x.m ≤ 9223372036854775807) (hym : y.m ≤ 9223372036854775807) :
    Calls Tryz.prog 44 #[.slice x.p x.m x.c, .slice y.p y.m y.c, .func (.func 18) #[] #[]] w fun e w' => e = .returned (.int .i64 (cmpL (cmpIn d) a.l b.l)) ∧ Below w.heap.size w w' := by
  obtain ⟨_, _, _, _, xs, x4, x5, x6⟩ := hx
  obtain ⟨_, _, _, _, ys, y4, y5, y6⟩ := hy
  have hend : (a.l.length = 0 ∨ b.l.length = 0) → cmpL (cmpIn d) a.l b.l = ordI a.l.length b.l.length := fun h => by
    have := cmpL_end (cmpIn d) a.l b.l 0 (by omega) (by omega) (by omega)
    simpa using this
  rcases x5.2 with ⟨x0, p, c, hxe⟩ | ⟨b1, off, c, hxe, hb, hc⟩
  · have hm0 : x.m = 0 := by injection hxe
    have hym2 : y.m = b.l.length := by
      rcases y5.2 with ⟨y0, q, c', hye⟩ | ⟨b2, off', c', hye, _, _⟩
      · injection hye with _ h _; omega
      · injection hye with _ h _; omega
    rw [hend (.inl (by omega)), show a.l.length = x.m from by omega, ← hym2]
    exact lists_zero _ _ _ _ _ _ (.inl hm0) hxm hym w
  · rcases y5.2 with ⟨y0, q, c', hye⟩ | ⟨b2, off', c', hye, hb', hc'⟩
    · have hm0 : y.m = 0 := by injection hye
      have hxm2 : x.m = a.l.length := by injection hxe with _ h _; omega
      rw [hend (.inr (by omega)), show b.l.length = y.m from by omega, ← hxm2]
      exact lists_zero _ _ _ _ _ _ (.inr hm0) hxm hym w
    · rw [hxe, hye]
      have e1 : x.m = xs.length := by injection hxe
      have e2 : y.m = ys.length := by injection hye
      exact lists_some d hC b1 off c b2 off' c' a.l b.l xs ys x4 y4 (by omega) (by omega) w hb hb' (fun i h j u hu => by rw [Nat.add_assoc]; exact hc _ _ (itsCells_at xs i h j u hu)) (fun i h j u hu => by rw [Nat.add_assoc]; exact hc' _ _ (itsCells_at ys i h j u hu)) x6 y6

set_option maxHeartbeats 4000000 in
set_option maxRecDepth 100000 in
theorem compare_step (d : Nat) (hC : CmpAt d) (a b : V) (x y : It) (w : World) (hx : VTop w a x (VIn d w)) (hy : VTop w b y (VIn d w)) (hxm : x.m ≤ 9223372036854775807) (hym : y.m ≤ 9223372036854775807) :
    Calls Tryz.prog 18 #[x.v, y.v] w fun e w' => e = .returned (.int .i64 (cmpV d a b)) ∧ Below w.heap.size w w' := by
  have hll : ∀ W, Below w.heap.size w W → Calls Tryz.prog 44 #[.slice x.p x.m x.c, .slice y.p y.m y.c, .func (.func 18) #[] #[]] W fun e w' => e = .returned (.int .i64 (cmpL (cmpIn d) a.l b.l)) ∧ Below W.heap.size W w' :=
    fun W hW => lists_any d hC a b x y W (hx.mono hW (fun _ _ h => h.below hW)) (hy.mono hW (fun _ _ h => h.below hW)) hxm hym
  rw [cmpV_top]
  have h1 := hx.2.1; have h2 := hx.2.2.1; have h3 := hx.2.2.2.1
  have g1 := hy.2.1; have g2 := hy.2.2.1; have g3 := hy.2.2.2.1
  rw [← h1, ← h2, ← h3, ← g1, ← g2, ← g3]
  generalize cmpL (cmpIn d) a.l b.l = q4 at hll ⊢
  clear hx hy h1 h2 h3 g1 g2 g3 hC
  obtain ⟨k, n, s, p, m, c⟩ := x
  obtain ⟨k', n', s', p', m', c'⟩ := y
  simp only at hll ⊢
  obtain ⟨q1, hq1⟩ : ∃ q, ordI k k' = q := ⟨_, rfl⟩
  obtain ⟨q2, hq2⟩ : ∃ q, ordI n n' = q := ⟨_, rfl⟩
  obtain ⟨q3, hq3⟩ : ∃ q, ordS s s' = q := ⟨_, rfl⟩
  have k1 : ∀ w : World, Calls Tryz.prog 42 #[.int .i64 k, .int .i64 k'] w fun e w' => e = .returned (.int .i64 q1) ∧ w = w' := fun w => hq1 ▸ cmpInt_any k k' w
  have k2 : ∀ w : World, Calls Tryz.prog 42 #[.int .i64 n, .int .i64 n'] w fun e w' => e = .returned (.int .i64 q2) ∧ w = w' := fun w => hq2 ▸ cmpInt_any n n' w
  have k3 : ∀ w : World, Calls Tryz.prog 43 #[.string s, .string s'] w fun e w' => e = .returned (.int .i64 q3) ∧ w = w' := fun w => hq3 ▸ cmpStr_any s s' w
  rw [hq1, hq2, hq3]
  generalize hr : orI [q1, q2, q3, q4] = r
  have k5 : ∀ (g : Nat) (w : World), (∀ (j : Nat) (hj : j < [q1, q2, q3, q4].length), w.cell? ⟨g, 0 + j, none⟩ = some (.int .i64 [q1, q2, q3, q4][j])) → Calls Tryz.prog 41 #[.slice (some ⟨g, 0, none⟩) 4 4] w fun e w' => e = .returned (.int .i64 r) ∧ w = w' := fun g w h => hr ▸ cmpOr_any g 0 4 [q1, q2, q3, q4] (by simp) w h
  have HLL := Lib.hid hll
  have K1 := Lib.hid k1
  have K2 := Lib.hid k2
  have K3 := Lib.hid k3
  have K5 := Lib.hid k5
  clear hll k1 k2 k3 k5 hq1 hq2 hq3 hr
  go_enter Tryz.func18, Tryz.ntmps18
  have hsw : ∀ W W', (W.cell? ⟨w.heap.size, 0, none⟩ = some (.int .i64 k) ∧ W.cell? ⟨w.heap.size, 1, none⟩ = some (.int .i64 n) ∧ W.cell? ⟨w.heap.size, 2, none⟩ = some (.string s) ∧ W.cell? ⟨w.heap.size, 3, none⟩ = some (.slice p m c) ∧ W.cell? ⟨w.heap.size + 1, 0, none⟩ = some (.int .i64 k') ∧ W.cell? ⟨w.heap.size + 1, 1, none⟩ = some (.int .i64 n') ∧ W.cell? ⟨w.heap.size + 1, 2, none⟩ = some (.string s') ∧ W.cell? ⟨w.heap.size + 1, 3, none⟩ = some (.slice p' m' c') ∧ w.heap.size + 2 ≤ W.heap.size ∧ Below w.heap.size w W) → Below W.heap.size W W' → (W'.cell? ⟨w.heap.size, 0, none⟩ = some (.int .i64 k) ∧ W'.cell? ⟨w.heap.size, 1, none⟩ = some (.int .i64 n) ∧ W'.cell? ⟨w.heap.size, 2, none⟩ = some (.string s) ∧ W'.cell? ⟨w.heap.size, 3, none⟩ = some (.slice p m c) ∧ W'.cell? ⟨w.heap.size + 1, 0, none⟩ = some (.int .i64 k') ∧ W'.cell? ⟨w.heap.size + 1, 1, none⟩ = some (.int .i64 n') ∧ W'.cell? ⟨w.heap.size + 1, 2, none⟩ = some (.string s') ∧ W'.cell? ⟨w.heap.size + 1, 3, none⟩ = some (.slice p' m' c') ∧ w.heap.size + 2 ≤ W'.heap.size ∧ Below w.heap.size w W') := by
    rintro W W' ⟨a0, a1, a2, a3, a4, a5, a6, a7, a8, a9⟩ hB
    have g : ∀ (q : Addr) (v : Value), q.block < W.heap.size → W.cell? q = some v → W'.cell? q = some v := fun q v hq hv => (hB.cell hq).trans hv
    have z1 : w.heap.size < W.heap.size := by omega
    have z2 : w.heap.size + 1 < W.heap.size := by omega
    exact ⟨g _ _ z1 a0, g _ _ z1 a1, g _ _ z1 a2, g _ _ z1 a3, g _ _ z2 a4, g _ _ z2 a5, g _ _ z2 a6, g _ _ z2 a7, Nat.le_trans a8 hB.size, a9.trans (hB.mono (by omega))⟩
  have h0 : ∀ W, W = (w.alloc (.cells #[.int .i64 k, .int .i64 n, .string s, .slice p m c] 30)).alloc (.cells #[.int .i64 k', .int .i64 n', .string s', .slice p' m' c'] 30) → (W.cell? ⟨w.heap.size, 0, none⟩ = some (.int .i64 k) ∧ W.cell? ⟨w.heap.size, 1, none⟩ = some (.int .i64 n) ∧ W.cell? ⟨w.heap.size, 2, none⟩ = some (.string s) ∧ W.cell? ⟨w.heap.size, 3, none⟩ = some (.slice p m c) ∧ W.cell? ⟨w.heap.size + 1, 0, none⟩ = some (.int .i64 k') ∧ W.cell? ⟨w.heap.size + 1, 1, none⟩ = some (.int .i64 n') ∧ W.cell? ⟨w.heap.size + 1, 2, none⟩ = some (.string s') ∧ W.cell? ⟨w.heap.size + 1, 3, none⟩ = some (.slice p' m' c') ∧ w.heap.size + 2 ≤ W.heap.size ∧ Below w.heap.size w W) := by
    rintro W rfl
    exact ⟨cell_first _ _ _ _ _, cell_first _ _ _ _ _, cell_first _ _ _ _ _, cell_first _ _ _ _ _, cell_second _ _ _ _ _, cell_second _ _ _ _ _, cell_second _ _ _ _ _, cell_second _ _ _ _ _, by simp, below_two _ _⟩
  have hc4 : ∀ (W : World) (j : Nat) (hj : j < [q1, q2, q3, q4].length), (W.alloc (.cells #[.int .i64 q1, .int .i64 q2, .int .i64 q3, .int .i64 q4] 3)).cell? ⟨W.heap.size, 0 + j, none⟩ = some (.int .i64 [q1, q2, q3, q4][j]) := by
    intro W j hj
    rw [World.cell?_alloc_new]
    match j, hj with
    | 0, _ => rfl
    | 1, _ => rfl
    | 2, _ => rfl
    | 3, _ => rfl
  have HSW := Lib.hid hsw
  have H0 := Lib.hid h0
  have HC4 := Lib.hid hc4
  clear hsw h0 hc4
  go_wp2_with fail
  generalize hW0 : (w.alloc (.cells #[.int .i64 k, .int .i64 n, .string s, .slice p m c] 30)).alloc (.cells #[.int .i64 k', .int .i64 n', .string s', .slice p' m' c'] 30) = W0
  have hS0 := H0.out W0 hW0.symm
  have hS1 := HSW.out W0 W0.drew hS0 (Below.refl _ _).drew
  clear hW0 H0
  go_region_held3 (fun W' : World => (W'.cell? ⟨w.heap.size, 0, none⟩ = some (.int .i64 k) ∧ W'.cell? ⟨w.heap.size, 1, none⟩ = some (.int .i64 n) ∧ W'.cell? ⟨w.heap.size, 2, none⟩ = some (.string s) ∧ W'.cell? ⟨w.heap.size, 3, none⟩ = some (.slice p m c) ∧ W'.cell? ⟨w.heap.size + 1, 0, none⟩ = some (.int .i64 k') ∧ W'.cell? ⟨w.heap.size + 1, 1, none⟩ = some (.int .i64 n') ∧ W'.cell? ⟨w.heap.size + 1, 2, none⟩ = some (.string s') ∧ W'.cell? ⟨w.heap.size + 1, 3, none⟩ = some (.slice p' m' c') ∧ w.heap.size + 2 ≤ W'.heap.size ∧ Below w.heap.size w W'))
    (first | assumption | (refine HSW.out _ _ (by assumption) ((Below.refl _ _).alloc (Nat.le_refl _) _)))
    (first
      | (go_at_call 42; (first | (with_reducible refine (K1.out _).mono ?_) | (with_reducible refine (K2.out _).mono ?_)); rintro e w1 ⟨rfl, rfl⟩)
      | (go_at_call 43; (with_reducible refine (K3.out _).mono ?_); rintro e w1 ⟨rfl, rfl⟩)
      | (go_at_call 44; (with_reducible refine (HLL.out _ hS1.2.2.2.2.2.2.2.2.2).mono ?_); rintro e W1 ⟨rfl, hB1⟩; have hS2 := HSW.out _ _ hS1 hB1)
      | (go_at_call 41; (with_reducible refine (K5.out _ _ (HC4.out _)).mono ?_); rintro e w1 ⟨rfl, rfl⟩))
  all_goals
    go_wp2_with fail
    go_ret
    exact ⟨rfl, hS2.2.2.2.2.2.2.2.2.2.alloc (by omega) _⟩

theorem compare_at : ∀ d, CmpAt d
  | 0 => fun u v x y W h _ => h.elim
  | d + 1 => fun u v x y W hx hy => by
    have tx := VAt.top hx
    have ty := VAt.top hy
    exact compare_step d (compare_at d) u v x y W tx ty tx.room ty.room

/-- val.Compare, of any two values that lie -/
theorem compare_any (d : Nat) (a b : V) (x y : It) (w : World) (hx : VAt d w a x) (hy : VAt d w b y) :
    Calls Tryz.prog 18 #[x.v, y.v] w fun e w' => e = .returned (.int .i64 (cmpV d a b)) ∧ Below w.heap.size w w' := compare_at (d + 1) a b x y w hx hy

set_option maxHeartbeats 1000000 in
set_option maxRecDepth 100000 in
theorem same_any (d : Nat) (a b : V) (x y : It) (w : World) (hx : VAt d w a x) (hy : VAt d w b y) :
    Calls Tryz.prog 20 #[x.v, y.v] w fun e w' => e = .returned (.bool (cmpV d a b == 0)) ∧ Below w.heap.size w w' := by
  obtain ⟨q, hq⟩ : ∃ q, cmpV d a b = q := ⟨_, rfl⟩
  have hc : ∀ W, Below w.heap.size w W → Calls Tryz.prog 18 #[x.v, y.v] W fun e w' => e = .returned (.int .i64 q) ∧ Below W.heap.size W w' := fun W h => hq ▸ compare_any d a b x y W (hx.below h) (hy.below h)
  rw [hq]
  have HC := Lib.hid hc
  clear hc hx hy hq
  obtain ⟨k, n, s, p, m, c⟩ := x
  obtain ⟨k', n', s', p', m', c'⟩ := y
  go_enter Tryz.func20, Tryz.ntmps20
  go_wp2_with fail
  refine (HC.out _ (below_two _ _)).mono ?_
  rintro e W ⟨rfl, hB⟩
  have hbw := below_two' _ _ hB
  go_wp2_with fail
  go_ret
  exact ⟨rfl, hbw⟩
end Go.Proofs.YtmijlcilnaeppaaGreatDoor
