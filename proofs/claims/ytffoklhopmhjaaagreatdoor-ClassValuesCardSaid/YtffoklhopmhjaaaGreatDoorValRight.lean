/- val.Right. -/
import Derived.WalkKit
import Derived.Below
import Derived.BigQuiet
import Derived.BigCall
import Derived.Lib.Hide
import Derived.IntWalk
import Derived.Lib.Strings
import Derived.Test.YtffoklhopmhjaaaGreatDoorWords
set_option linter.unusedSimpArgs false
set_option linter.unusedVariables false
namespace Go.Proofs.YtffoklhopmhjaaaGreatDoor
open Go Go.RowKit Go.Shelf

abbrev valV (k n : Int) (s : ByteArray) (l : Value) : Value := .agg #[.int .i64 k, .int .i64 n, .string s, l]

theorem toList_nil (s : ByteArray) : (s.toList = []) ↔ s.size = 0 := by
  rw [Lib.toList_data]
  have e : s.data.toList.length = s.size := by simp
  constructor
  · intro h
    rw [← e, h]; rfl
  · intro h
    exact List.eq_nil_of_length_eq_zero (by omega)

/-- two blocks more -/
theorem below_two {w : World} (o o' : Obj) : Below w.heap.size w ((w.alloc o).alloc o') := ((Below.refl _ w).alloc (Nat.le_refl _) _).alloc (by simp) _

set_option maxHeartbeats 2000000 in
set_option maxRecDepth 100000 in
theorem right_nil (n : Int) (s : ByteArray) (p : Option Addr) (m c : Nat) (w : World) :
    Calls Tryz.prog 25 #[valV 0 n s (.slice p m c)] w fun e w' => e = .returned (.bool (decide (n = 0 ∧ s.size = 0 ∧ m = 0))) ∧ Below w.heap.size w w' := by
  generalize hr : decide (n = 0 ∧ s.size = 0 ∧ m = 0) = r
  have HR := Lib.hid hr; clear hr
  go_enter Tryz.func25, Tryz.ntmps25
  by_cases hn : n = 0
  · have d1 : ((0 : Int) == n) = true := by rw [beq_iff_eq]; omega
    by_cases hs : s.size = 0
    · have d2 : s.toList = [] := (toList_nil s).2 hs
      by_cases hm : m = 0
      · have d3 : ((0 : Int) == (m : Int)) = true := by rw [beq_iff_eq]; omega
        go_wp2
        go_ret
        exact ⟨congrArg (fun b => Ending.returned (Value.bool b)) (by rw [← HR.out]; first | exact (decide_eq_true (by omega)).symm | exact (decide_eq_false (by omega)).symm), below_two _ _⟩
      · have d3 : ((0 : Int) == (m : Int)) = false := by rw [beq_eq_false_iff_ne]; omega
        go_wp2
        go_ret
        exact ⟨congrArg (fun b => Ending.returned (Value.bool b)) (by rw [← HR.out]; first | exact (decide_eq_true (by omega)).symm | exact (decide_eq_false (by omega)).symm), below_two _ _⟩
    · have d2 : ¬ s.toList = [] := fun h => hs ((toList_nil s).1 h)
      go_wp2
      go_ret
      exact ⟨congrArg (fun b => Ending.returned (Value.bool b)) (by rw [← HR.out]; first | exact (decide_eq_true (by omega)).symm | exact (decide_eq_false (by omega)).symm), below_two _ _⟩
  · have d1 : ((0 : Int) == n) = false := by rw [beq_eq_false_iff_ne]; omega
    go_wp2
    go_ret
    exact ⟨congrArg (fun b => Ending.returned (Value.bool b)) (by rw [← HR.out]; first | exact (decide_eq_true (by omega)).symm | exact (decide_eq_false (by omega)).symm), below_two _ _⟩

set_option maxHeartbeats 2000000 in
set_option maxRecDepth 100000 in
theorem right_num (n : Int) (s : ByteArray) (p : Option Addr) (m c : Nat) (w : World) :
    Calls Tryz.prog 25 #[valV 1 n s (.slice p m c)] w fun e w' => e = .returned (.bool (decide ((-1000000000000000 ≤ n ∧ n ≤ 1000000000000000) ∧ s.size = 0 ∧ m = 0))) ∧ Below w.heap.size w w' := by
  generalize hr : decide ((-1000000000000000 ≤ n ∧ n ≤ 1000000000000000) ∧ s.size = 0 ∧ m = 0) = r
  have HR := Lib.hid hr; clear hr
  go_enter Tryz.func25, Tryz.ntmps25
  by_cases h1 : -1000000000000000 ≤ n
  · by_cases h2 : n ≤ 1000000000000000
    · skip
      by_cases hs : s.size = 0
      · have d2 : s.toList = [] := (toList_nil s).2 hs
        by_cases hm : m = 0
        · have d3 : ((0 : Int) == (m : Int)) = true := by rw [beq_iff_eq]; omega
          go_wp2
          go_ret
          exact ⟨congrArg (fun b => Ending.returned (Value.bool b)) (by rw [← HR.out]; first | exact (decide_eq_true (by omega)).symm | exact (decide_eq_false (by omega)).symm), below_two _ _⟩
        · have d3 : ((0 : Int) == (m : Int)) = false := by rw [beq_eq_false_iff_ne]; omega
          go_wp2
          go_ret
          exact ⟨congrArg (fun b => Ending.returned (Value.bool b)) (by rw [← HR.out]; first | exact (decide_eq_true (by omega)).symm | exact (decide_eq_false (by omega)).symm), below_two _ _⟩
      · have d2 : ¬ s.toList = [] := fun h => hs ((toList_nil s).1 h)
        go_wp2
        go_ret
        exact ⟨congrArg (fun b => Ending.returned (Value.bool b)) (by rw [← HR.out]; first | exact (decide_eq_true (by omega)).symm | exact (decide_eq_false (by omega)).symm), below_two _ _⟩
    · skip
      go_wp2
      go_ret
      exact ⟨congrArg (fun b => Ending.returned (Value.bool b)) (by rw [← HR.out]; first | exact (decide_eq_true (by omega)).symm | exact (decide_eq_false (by omega)).symm), below_two _ _⟩
  · skip
    go_wp2
    go_ret
    exact ⟨congrArg (fun b => Ending.returned (Value.bool b)) (by rw [← HR.out]; first | exact (decide_eq_true (by omega)).symm | exact (decide_eq_false (by omega)).symm), below_two _ _⟩

set_option maxHeartbeats 2000000 in
set_option maxRecDepth 100000 in
theorem right_ref (n : Int) (s : ByteArray) (p : Option Addr) (m c : Nat) (w : World) :
    Calls Tryz.prog 25 #[valV 3 n s (.slice p m c)] w fun e w' => e = .returned (.bool (decide ((1 ≤ n ∧ n ≤ 100000 ∨ -20 ≤ n ∧ n ≤ -1) ∧ s.size = 0 ∧ m = 0))) ∧ Below w.heap.size w w' := by
  generalize hr : decide ((1 ≤ n ∧ n ≤ 100000 ∨ -20 ≤ n ∧ n ≤ -1) ∧ s.size = 0 ∧ m = 0) = r
  have HR := Lib.hid hr; clear hr
  go_enter Tryz.func25, Tryz.ntmps25
  by_cases h1 : 1 ≤ n
  · by_cases h2 : n ≤ 100000
    · skip
      by_cases hs : s.size = 0
      · have d2 : s.toList = [] := (toList_nil s).2 hs
        by_cases hm : m = 0
        · have d3 : ((0 : Int) == (m : Int)) = true := by rw [beq_iff_eq]; omega
          go_wp2
          go_ret
          exact ⟨congrArg (fun b => Ending.returned (Value.bool b)) (by rw [← HR.out]; first | exact (decide_eq_true (by omega)).symm | exact (decide_eq_false (by omega)).symm), below_two _ _⟩
        · have d3 : ((0 : Int) == (m : Int)) = false := by rw [beq_eq_false_iff_ne]; omega
          go_wp2
          go_ret
          exact ⟨congrArg (fun b => Ending.returned (Value.bool b)) (by rw [← HR.out]; first | exact (decide_eq_true (by omega)).symm | exact (decide_eq_false (by omega)).symm), below_two _ _⟩
      · have d2 : ¬ s.toList = [] := fun h => hs ((toList_nil s).1 h)
        go_wp2
        go_ret
        exact ⟨congrArg (fun b => Ending.returned (Value.bool b)) (by rw [← HR.out]; first | exact (decide_eq_true (by omega)).symm | exact (decide_eq_false (by omega)).symm), below_two _ _⟩
    · have h3 : -20 ≤ n := by omega
      have h4 : ¬ n ≤ -1 := by omega
      go_wp2
      go_ret
      exact ⟨congrArg (fun b => Ending.returned (Value.bool b)) (by rw [← HR.out]; first | exact (decide_eq_true (by omega)).symm | exact (decide_eq_false (by omega)).symm), below_two _ _⟩
  · by_cases h3 : -20 ≤ n
    · by_cases h4 : n ≤ -1
      · skip
        by_cases hs : s.size = 0
        · have d2 : s.toList = [] := (toList_nil s).2 hs
          by_cases hm : m = 0
          · have d3 : ((0 : Int) == (m : Int)) = true := by rw [beq_iff_eq]; omega
            go_wp2
            go_ret
            exact ⟨congrArg (fun b => Ending.returned (Value.bool b)) (by rw [← HR.out]; first | exact (decide_eq_true (by omega)).symm | exact (decide_eq_false (by omega)).symm), below_two _ _⟩
          · have d3 : ((0 : Int) == (m : Int)) = false := by rw [beq_eq_false_iff_ne]; omega
            go_wp2
            go_ret
            exact ⟨congrArg (fun b => Ending.returned (Value.bool b)) (by rw [← HR.out]; first | exact (decide_eq_true (by omega)).symm | exact (decide_eq_false (by omega)).symm), below_two _ _⟩
        · have d2 : ¬ s.toList = [] := fun h => hs ((toList_nil s).1 h)
          go_wp2
          go_ret
          exact ⟨congrArg (fun b => Ending.returned (Value.bool b)) (by rw [← HR.out]; first | exact (decide_eq_true (by omega)).symm | exact (decide_eq_false (by omega)).symm), below_two _ _⟩
      · skip
        go_wp2
        go_ret
        exact ⟨congrArg (fun b => Ending.returned (Value.bool b)) (by rw [← HR.out]; first | exact (decide_eq_true (by omega)).symm | exact (decide_eq_false (by omega)).symm), below_two _ _⟩
    · skip
      go_wp2
      go_ret
      exact ⟨congrArg (fun b => Ending.returned (Value.bool b)) (by rw [← HR.out]; first | exact (decide_eq_true (by omega)).symm | exact (decide_eq_false (by omega)).symm), below_two _ _⟩

set_option maxHeartbeats 2000000 in
set_option maxRecDepth 100000 in
theorem right_weak (n : Int) (s : ByteArray) (p : Option Addr) (m c : Nat) (w : World) :
    Calls Tryz.prog 25 #[valV 4 n s (.slice p m c)] w fun e w' => e = .returned (.bool (decide ((1 ≤ n ∧ n ≤ 100000 ∨ -20 ≤ n ∧ n ≤ -1) ∧ s.size = 0 ∧ m = 0))) ∧ Below w.heap.size w w' := by
  generalize hr : decide ((1 ≤ n ∧ n ≤ 100000 ∨ -20 ≤ n ∧ n ≤ -1) ∧ s.size = 0 ∧ m = 0) = r
  have HR := Lib.hid hr; clear hr
  go_enter Tryz.func25, Tryz.ntmps25
  by_cases h1 : 1 ≤ n
  · by_cases h2 : n ≤ 100000
    · skip
      by_cases hs : s.size = 0
      · have d2 : s.toList = [] := (toList_nil s).2 hs
        by_cases hm : m = 0
        · have d3 : ((0 : Int) == (m : Int)) = true := by rw [beq_iff_eq]; omega
          go_wp2
          go_ret
          exact ⟨congrArg (fun b => Ending.returned (Value.bool b)) (by rw [← HR.out]; first | exact (decide_eq_true (by omega)).symm | exact (decide_eq_false (by omega)).symm), below_two _ _⟩
        · have d3 : ((0 : Int) == (m : Int)) = false := by rw [beq_eq_false_iff_ne]; omega
          go_wp2
          go_ret
          exact ⟨congrArg (fun b => Ending.returned (Value.bool b)) (by rw [← HR.out]; first | exact (decide_eq_true (by omega)).symm | exact (decide_eq_false (by omega)).symm), below_two _ _⟩
      · have d2 : ¬ s.toList = [] := fun h => hs ((toList_nil s).1 h)
        go_wp2
        go_ret
        exact ⟨congrArg (fun b => Ending.returned (Value.bool b)) (by rw [← HR.out]; first | exact (decide_eq_true (by omega)).symm | exact (decide_eq_false (by omega)).symm), below_two _ _⟩
    · have h3 : -20 ≤ n := by omega
      have h4 : ¬ n ≤ -1 := by omega
      go_wp2
      go_ret
      exact ⟨congrArg (fun b => Ending.returned (Value.bool b)) (by rw [← HR.out]; first | exact (decide_eq_true (by omega)).symm | exact (decide_eq_false (by omega)).symm), below_two _ _⟩
  · by_cases h3 : -20 ≤ n
    · by_cases h4 : n ≤ -1
      · skip
        by_cases hs : s.size = 0
        · have d2 : s.toList = [] := (toList_nil s).2 hs
          by_cases hm : m = 0
          · have d3 : ((0 : Int) == (m : Int)) = true := by rw [beq_iff_eq]; omega
            go_wp2
            go_ret
            exact ⟨congrArg (fun b => Ending.returned (Value.bool b)) (by rw [← HR.out]; first | exact (decide_eq_true (by omega)).symm | exact (decide_eq_false (by omega)).symm), below_two _ _⟩
          · have d3 : ((0 : Int) == (m : Int)) = false := by rw [beq_eq_false_iff_ne]; omega
            go_wp2
            go_ret
            exact ⟨congrArg (fun b => Ending.returned (Value.bool b)) (by rw [← HR.out]; first | exact (decide_eq_true (by omega)).symm | exact (decide_eq_false (by omega)).symm), below_two _ _⟩
        · have d2 : ¬ s.toList = [] := fun h => hs ((toList_nil s).1 h)
          go_wp2
          go_ret
          exact ⟨congrArg (fun b => Ending.returned (Value.bool b)) (by rw [← HR.out]; first | exact (decide_eq_true (by omega)).symm | exact (decide_eq_false (by omega)).symm), below_two _ _⟩
      · skip
        go_wp2
        go_ret
        exact ⟨congrArg (fun b => Ending.returned (Value.bool b)) (by rw [← HR.out]; first | exact (decide_eq_true (by omega)).symm | exact (decide_eq_false (by omega)).symm), below_two _ _⟩
    · skip
      go_wp2
      go_ret
      exact ⟨congrArg (fun b => Ending.returned (Value.bool b)) (by rw [← HR.out]; first | exact (decide_eq_true (by omega)).symm | exact (decide_eq_false (by omega)).symm), below_two _ _⟩

end Go.Proofs.YtffoklhopmhjaaaGreatDoor
