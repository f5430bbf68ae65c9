/- Texts put together: RefRight, RefFits, RefNum, RefBy. -/
import Derived.Test.YtmijlcilnaeppaaGreatDoorBun11
import Derived.Test.YtmijlcilnaeppaaGreatDoorBun6
import Derived.Test.YtmijlcilnaeppaaGreatDoorBun7
import Derived.Test.YtmijlcilnaeppaaGreatDoorBun1
import Derived.Test.YtmijlcilnaeppaaGreatDoorBun12
/- moraineref03.Right. -/
set_option linter.unusedSimpArgs false
set_option linter.unusedVariables false
namespace Go.Proofs.YtmijlcilnaeppaaGreatDoor
open Go Go.RowKit Go.Shelf

set_option maxHeartbeats 4000000 in
set_option maxRecDepth 100000 in
theorem rright_nil (n : Int) (s : ByteArray) (p : Option Addr) (m c : Nat) (w : World) :
    Calls Tryz.prog 12 #[valV 0 n s (.slice p m c)] w fun e w' => e = .returned (.bool (decide (n = 0 ∧ s.size = 0 ∧ m = 0))) ∧ Below w.heap.size w w' := by
  generalize hr : decide (n = 0 ∧ s.size = 0 ∧ m = 0) = r
  have HR := Lib.hid hr; clear hr
  have hb : Below w.heap.size w (w.alloc (.cells #[.int .i64 0, .int .i64 n, .string s, .slice p m c] 30)) := (Below.refl _ _).alloc (Nat.le_refl _) _
  obtain ⟨⟨c0, c1, c2, c3⟩, _⟩ := (VBox.new w 0 n s (.slice p m c)).facts
  go_enter Tryz.func12, Tryz.ntmps12
  by_cases hn : n = 0
  · skip
    have d1 : (n == 0) = true := by rw [beq_iff_eq]; omega
    by_cases hs : s.size = 0
    · skip
      have d2 : s.toList = [] := (toList_nil s).2 hs
      by_cases hm : m = 0
      · skip
        have d3 : ((m : Int) == 0) = true := by rw [beq_iff_eq]; omega
        go_wp2
        go_ret
        exact ⟨congrArg (fun b => Ending.returned (Value.bool b)) (by rw [← HR.out]; first | exact (decide_eq_true (by omega)).symm | exact (decide_eq_false (by omega)).symm), (Below.refl _ _).alloc (Nat.le_refl _) _⟩
      · skip
        have d3 : ((m : Int) == 0) = false := by rw [beq_eq_false_iff_ne]; omega
        go_wp2
        go_ret
        exact ⟨congrArg (fun b => Ending.returned (Value.bool b)) (by rw [← HR.out]; first | exact (decide_eq_true (by omega)).symm | exact (decide_eq_false (by omega)).symm), (Below.refl _ _).alloc (Nat.le_refl _) _⟩
    · skip
      have d2 : ¬ s.toList = [] := fun h => hs ((toList_nil s).1 h)
      go_wp2
      go_ret
      exact ⟨congrArg (fun b => Ending.returned (Value.bool b)) (by rw [← HR.out]; first | exact (decide_eq_true (by omega)).symm | exact (decide_eq_false (by omega)).symm), (Below.refl _ _).alloc (Nat.le_refl _) _⟩
  · skip
    have d1 : (n == 0) = false := by rw [beq_eq_false_iff_ne]; omega
    go_wp2
    go_ret
    exact ⟨congrArg (fun b => Ending.returned (Value.bool b)) (by rw [← HR.out]; first | exact (decide_eq_true (by omega)).symm | exact (decide_eq_false (by omega)).symm), (Below.refl _ _).alloc (Nat.le_refl _) _⟩

set_option maxHeartbeats 4000000 in
set_option maxRecDepth 100000 in
theorem rright_num (n : Int) (s : ByteArray) (p : Option Addr) (m c : Nat) (w : World) :
    Calls Tryz.prog 12 #[valV 1 n s (.slice p m c)] w fun e w' => e = .returned (.bool (decide ((-1000000000000000 ≤ n ∧ n ≤ 1000000000000000) ∧ s.size = 0 ∧ m = 0))) ∧ Below w.heap.size w w' := by
  generalize hr : decide ((-1000000000000000 ≤ n ∧ n ≤ 1000000000000000) ∧ s.size = 0 ∧ m = 0) = r
  have HR := Lib.hid hr; clear hr
  have hb : Below w.heap.size w (w.alloc (.cells #[.int .i64 1, .int .i64 n, .string s, .slice p m c] 30)) := (Below.refl _ _).alloc (Nat.le_refl _) _
  obtain ⟨⟨c0, c1, c2, c3⟩, _⟩ := (VBox.new w 1 n s (.slice p m c)).facts
  go_enter Tryz.func12, Tryz.ntmps12
  by_cases h1 : -1000000000000000 ≤ n
  · skip
    by_cases h2 : n ≤ 1000000000000000
    · skip
      by_cases hs : s.size = 0
      · skip
        have d2 : s.toList = [] := (toList_nil s).2 hs
        by_cases hm : m = 0
        · skip
          have d3 : ((m : Int) == 0) = true := by rw [beq_iff_eq]; omega
          go_wp2
          go_ret
          exact ⟨congrArg (fun b => Ending.returned (Value.bool b)) (by rw [← HR.out]; first | exact (decide_eq_true (by omega)).symm | exact (decide_eq_false (by omega)).symm), (Below.refl _ _).alloc (Nat.le_refl _) _⟩
        · skip
          have d3 : ((m : Int) == 0) = false := by rw [beq_eq_false_iff_ne]; omega
          go_wp2
          go_ret
          exact ⟨congrArg (fun b => Ending.returned (Value.bool b)) (by rw [← HR.out]; first | exact (decide_eq_true (by omega)).symm | exact (decide_eq_false (by omega)).symm), (Below.refl _ _).alloc (Nat.le_refl _) _⟩
      · skip
        have d2 : ¬ s.toList = [] := fun h => hs ((toList_nil s).1 h)
        go_wp2
        go_ret
        exact ⟨congrArg (fun b => Ending.returned (Value.bool b)) (by rw [← HR.out]; first | exact (decide_eq_true (by omega)).symm | exact (decide_eq_false (by omega)).symm), (Below.refl _ _).alloc (Nat.le_refl _) _⟩
    · skip
      go_wp2
      go_ret
      exact ⟨congrArg (fun b => Ending.returned (Value.bool b)) (by rw [← HR.out]; first | exact (decide_eq_true (by omega)).symm | exact (decide_eq_false (by omega)).symm), (Below.refl _ _).alloc (Nat.le_refl _) _⟩
  · skip
    go_wp2
    go_ret
    exact ⟨congrArg (fun b => Ending.returned (Value.bool b)) (by rw [← HR.out]; first | exact (decide_eq_true (by omega)).symm | exact (decide_eq_false (by omega)).symm), (Below.refl _ _).alloc (Nat.le_refl _) _⟩

set_option maxHeartbeats 4000000 in
set_option maxRecDepth 100000 in
theorem rright_ref (n : Int) (s : ByteArray) (p : Option Addr) (m c : Nat) (w : World) :
    Calls Tryz.prog 12 #[valV 3 n s (.slice p m c)] w fun e w' => e = .returned (.bool (decide ((1 ≤ n ∧ n ≤ 100000 ∨ -20 ≤ n ∧ n ≤ -1) ∧ s.size = 0 ∧ m = 0))) ∧ Below w.heap.size w w' := by
  generalize hr : decide ((1 ≤ n ∧ n ≤ 100000 ∨ -20 ≤ n ∧ n ≤ -1) ∧ s.size = 0 ∧ m = 0) = r
  have HR := Lib.hid hr; clear hr
  have hb : Below w.heap.size w (w.alloc (.cells #[.int .i64 3, .int .i64 n, .string s, .slice p m c] 30)) := (Below.refl _ _).alloc (Nat.le_refl _) _
  obtain ⟨⟨c0, c1, c2, c3⟩, _⟩ := (VBox.new w 3 n s (.slice p m c)).facts
  go_enter Tryz.func12, Tryz.ntmps12
  by_cases h1 : 1 ≤ n
  · skip
    by_cases h2 : n ≤ 100000
    · skip
      by_cases hs : s.size = 0
      · skip
        have d2 : s.toList = [] := (toList_nil s).2 hs
        by_cases hm : m = 0
        · skip
          have d3 : ((m : Int) == 0) = true := by rw [beq_iff_eq]; omega
          go_wp2
          go_ret
          exact ⟨congrArg (fun b => Ending.returned (Value.bool b)) (by rw [← HR.out]; first | exact (decide_eq_true (by omega)).symm | exact (decide_eq_false (by omega)).symm), (Below.refl _ _).alloc (Nat.le_refl _) _⟩
        · skip
          have d3 : ((m : Int) == 0) = false := by rw [beq_eq_false_iff_ne]; omega
          go_wp2
          go_ret
          exact ⟨congrArg (fun b => Ending.returned (Value.bool b)) (by rw [← HR.out]; first | exact (decide_eq_true (by omega)).symm | exact (decide_eq_false (by omega)).symm), (Below.refl _ _).alloc (Nat.le_refl _) _⟩
      · skip
        have d2 : ¬ s.toList = [] := fun h => hs ((toList_nil s).1 h)
        go_wp2
        go_ret
        exact ⟨congrArg (fun b => Ending.returned (Value.bool b)) (by rw [← HR.out]; first | exact (decide_eq_true (by omega)).symm | exact (decide_eq_false (by omega)).symm), (Below.refl _ _).alloc (Nat.le_refl _) _⟩
    · skip
      by_cases h3 : -20 ≤ n
      · skip
        by_cases h4 : n ≤ -1
        · skip
          exfalso; omega
        · skip
          go_wp2
          go_ret
          exact ⟨congrArg (fun b => Ending.returned (Value.bool b)) (by rw [← HR.out]; first | exact (decide_eq_true (by omega)).symm | exact (decide_eq_false (by omega)).symm), (Below.refl _ _).alloc (Nat.le_refl _) _⟩
      · skip
        exfalso; omega
  · skip
    by_cases h3 : -20 ≤ n
    · skip
      by_cases h4 : n ≤ -1
      · skip
        by_cases hs : s.size = 0
        · skip
          have d2 : s.toList = [] := (toList_nil s).2 hs
          by_cases hm : m = 0
          · skip
            have d3 : ((m : Int) == 0) = true := by rw [beq_iff_eq]; omega
            go_wp2
            go_ret
            exact ⟨congrArg (fun b => Ending.returned (Value.bool b)) (by rw [← HR.out]; first | exact (decide_eq_true (by omega)).symm | exact (decide_eq_false (by omega)).symm), (Below.refl _ _).alloc (Nat.le_refl _) _⟩
          · skip
            have d3 : ((m : Int) == 0) = false := by rw [beq_eq_false_iff_ne]; omega
            go_wp2
            go_ret
            exact ⟨congrArg (fun b => Ending.returned (Value.bool b)) (by rw [← HR.out]; first | exact (decide_eq_true (by omega)).symm | exact (decide_eq_false (by omega)).symm), (Below.refl _ _).alloc (Nat.le_refl _) _⟩
        · skip
          have d2 : ¬ s.toList = [] := fun h => hs ((toList_nil s).1 h)
          go_wp2
          go_ret
          exact ⟨congrArg (fun b => Ending.returned (Value.bool b)) (by rw [← HR.out]; first | exact (decide_eq_true (by omega)).symm | exact (decide_eq_false (by omega)).symm), (Below.refl _ _).alloc (Nat.le_refl _) _⟩
      · skip
        go_wp2
        go_ret
        exact ⟨congrArg (fun b => Ending.returned (Value.bool b)) (by rw [← HR.out]; first | exact (decide_eq_true (by omega)).symm | exact (decide_eq_false (by omega)).symm), (Below.refl _ _).alloc (Nat.le_refl _) _⟩
    · skip
      go_wp2
      go_ret
      exact ⟨congrArg (fun b => Ending.returned (Value.bool b)) (by rw [← HR.out]; first | exact (decide_eq_true (by omega)).symm | exact (decide_eq_false (by omega)).symm), (Below.refl _ _).alloc (Nat.le_refl _) _⟩

set_option maxHeartbeats 4000000 in
set_option maxRecDepth 100000 in
theorem rright_weak (n : Int) (s : ByteArray) (p : Option Addr) (m c : Nat) (w : World) :
    Calls Tryz.prog 12 #[valV 4 n s (.slice p m c)] w fun e w' => e = .returned (.bool (decide ((1 ≤ n ∧ n ≤ 100000 ∨ -20 ≤ n ∧ n ≤ -1) ∧ s.size = 0 ∧ m = 0))) ∧ Below w.heap.size w w' := by
  generalize hr : decide ((1 ≤ n ∧ n ≤ 100000 ∨ -20 ≤ n ∧ n ≤ -1) ∧ s.size = 0 ∧ m = 0) = r
  have HR := Lib.hid hr; clear hr
  have hb : Below w.heap.size w (w.alloc (.cells #[.int .i64 4, .int .i64 n, .string s, .slice p m c] 30)) := (Below.refl _ _).alloc (Nat.le_refl _) _
  obtain ⟨⟨c0, c1, c2, c3⟩, _⟩ := (VBox.new w 4 n s (.slice p m c)).facts
  go_enter Tryz.func12, Tryz.ntmps12
  by_cases h1 : 1 ≤ n
  · skip
    by_cases h2 : n ≤ 100000
    · skip
      by_cases hs : s.size = 0
      · skip
        have d2 : s.toList = [] := (toList_nil s).2 hs
        by_cases hm : m = 0
        · skip
          have d3 : ((m : Int) == 0) = true := by rw [beq_iff_eq]; omega
          go_wp2
          go_ret
          exact ⟨congrArg (fun b => Ending.returned (Value.bool b)) (by rw [← HR.out]; first | exact (decide_eq_true (by omega)).symm | exact (decide_eq_false (by omega)).symm), (Below.refl _ _).alloc (Nat.le_refl _) _⟩
        · skip
          have d3 : ((m : Int) == 0) = false := by rw [beq_eq_false_iff_ne]; omega
          go_wp2
          go_ret
          exact ⟨congrArg (fun b => Ending.returned (Value.bool b)) (by rw [← HR.out]; first | exact (decide_eq_true (by omega)).symm | exact (decide_eq_false (by omega)).symm), (Below.refl _ _).alloc (Nat.le_refl _) _⟩
      · skip
        have d2 : ¬ s.toList = [] := fun h => hs ((toList_nil s).1 h)
        go_wp2
        go_ret
        exact ⟨congrArg (fun b => Ending.returned (Value.bool b)) (by rw [← HR.out]; first | exact (decide_eq_true (by omega)).symm | exact (decide_eq_false (by omega)).symm), (Below.refl _ _).alloc (Nat.le_refl _) _⟩
    · skip
      by_cases h3 : -20 ≤ n
      · skip
        by_cases h4 : n ≤ -1
        · skip
          exfalso; omega
        · skip
          go_wp2
          go_ret
          exact ⟨congrArg (fun b => Ending.returned (Value.bool b)) (by rw [← HR.out]; first | exact (decide_eq_true (by omega)).symm | exact (decide_eq_false (by omega)).symm), (Below.refl _ _).alloc (Nat.le_refl _) _⟩
      · skip
        exfalso; omega
  · skip
    by_cases h3 : -20 ≤ n
    · skip
      by_cases h4 : n ≤ -1
      · skip
        by_cases hs : s.size = 0
        · skip
          have d2 : s.toList = [] := (toList_nil s).2 hs
          by_cases hm : m = 0
          · skip
            have d3 : ((m : Int) == 0) = true := by rw [beq_iff_eq]; omega
            go_wp2
            go_ret
            exact ⟨congrArg (fun b => Ending.returned (Value.bool b)) (by rw [← HR.out]; first | exact (decide_eq_true (by omega)).symm | exact (decide_eq_false (by omega)).symm), (Below.refl _ _).alloc (Nat.le_refl _) _⟩
          · skip
            have d3 : ((m : Int) == 0) = false := by rw [beq_eq_false_iff_ne]; omega
            go_wp2
            go_ret
            exact ⟨congrArg (fun b => Ending.returned (Value.bool b)) (by rw [← HR.out]; first | exact (decide_eq_true (by omega)).symm | exact (decide_eq_false (by omega)).symm), (Below.refl _ _).alloc (Nat.le_refl _) _⟩
        · skip
          have d2 : ¬ s.toList = [] := fun h => hs ((toList_nil s).1 h)
          go_wp2
          go_ret
          exact ⟨congrArg (fun b => Ending.returned (Value.bool b)) (by rw [← HR.out]; first | exact (decide_eq_true (by omega)).symm | exact (decide_eq_false (by omega)).symm), (Below.refl _ _).alloc (Nat.le_refl _) _⟩
      · skip
        go_wp2
        go_ret
        exact ⟨congrArg (fun b => Ending.returned (Value.bool b)) (by rw [← HR.out]; first | exact (decide_eq_true (by omega)).symm | exact (decide_eq_false (by omega)).symm), (Below.refl _ _).alloc (Nat.le_refl _) _⟩
    · skip
      go_wp2
      go_ret
      exact ⟨congrArg (fun b => Ending.returned (Value.bool b)) (by rw [← HR.out]; first | exact (decide_eq_true (by omega)).symm | exact (decide_eq_false (by omega)).symm), (Below.refl _ _).alloc (Nat.le_refl _) _⟩

set_option maxHeartbeats 4000000 in
set_option maxRecDepth 100000 in
theorem rright_other (k n : Int) (hk : k ≠ 0 ∧ k ≠ 1 ∧ k ≠ 2 ∧ k ≠ 3 ∧ k ≠ 4 ∧ k ≠ 5) (s : ByteArray) (p : Option Addr) (m c : Nat) (w : World) :
    Calls Tryz.prog 12 #[valV k n s (.slice p m c)] w fun e w' => e = .returned (.bool false) ∧ Below w.heap.size w w' := by
  obtain ⟨k0, k1, k2, k3, k4, k5⟩ := hk
  have d0 : (k == 0) = false := by rw [beq_eq_false_iff_ne]; omega
  have d1 : (k == 1) = false := by rw [beq_eq_false_iff_ne]; omega
  have d2 : (k == 2) = false := by rw [beq_eq_false_iff_ne]; omega
  have d3 : (k == 3) = false := by rw [beq_eq_false_iff_ne]; omega
  have d4 : (k == 4) = false := by rw [beq_eq_false_iff_ne]; omega
  have d5 : (k == 5) = false := by rw [beq_eq_false_iff_ne]; omega
  have hb : Below w.heap.size w (w.alloc (.cells #[.int .i64 k, .int .i64 n, .string s, .slice p m c] 30)) := (Below.refl _ _).alloc (Nat.le_refl _) _
  obtain ⟨⟨c0, c1, c2, c3⟩, _⟩ := (VBox.new w k n s (.slice p m c)).facts
  go_enter Tryz.func12, Tryz.ntmps12
  go_wp2
  go_ret
  exact ⟨rfl, (Below.refl _ _).alloc (Nat.le_refl _) _⟩

set_option maxHeartbeats 4000000 in
set_option maxRecDepth 100000 in
theorem rright_text (n : Int) (s : ByteArray) (hsz : s.size ≤ 9223372036854775800) (p : Option Addr) (m c : Nat) (w : World) :
    Calls Tryz.prog 12 #[valV 2 n s (.slice p m c)] w fun e w' => e = .returned (.bool (decide (n = 0 ∧ (s.size ≤ 60 ∧ textOk s.data.toList = true) ∧ m = 0))) ∧ Below w.heap.size w w' := by
  generalize hr : decide (n = 0 ∧ (s.size ≤ 60 ∧ textOk s.data.toList = true) ∧ m = 0) = r
  have HR := Lib.hid hr; clear hr
  have hit := fun W => isText_any s hsz W
  generalize ht : textOk s.data.toList = t
  rw [ht] at hit
  have HTX := Lib.hid ht
  have HIT := Lib.hid hit
  clear ht hit
  have hb : Below w.heap.size w (w.alloc (.cells #[.int .i64 2, .int .i64 n, .string s, .slice p m c] 30)) := (Below.refl _ _).alloc (Nat.le_refl _) _
  obtain ⟨⟨c0, c1, c2, c3⟩, _⟩ := (VBox.new w 2 n s (.slice p m c)).facts
  go_enter Tryz.func12, Tryz.ntmps12
  go_wp2_with fail
  refine (HIT.out _).mono ?_
  rintro e W1 ⟨rfl, rfl⟩
  by_cases hn : n = 0
  · have d1 : (n == 0) = true := by rw [beq_iff_eq]; omega
    cases t with
    | false =>
      go_wp2
      go_ret
      exact ⟨congrArg (fun b => Ending.returned (Value.bool b)) (by rw [← HR.out, HTX.out]; exact (decide_eq_false (fun h => Bool.noConfusion h.2.1.2)).symm), (Below.refl _ _).alloc (Nat.le_refl _) _⟩
    | true =>
      by_cases h1 : s.size ≤ 60
      · have h1' : (s.size : Int) ≤ 60 := by omega
        by_cases hm : m = 0
        · have d3 : ((m : Int) == 0) = true := by rw [beq_iff_eq]; omega
          go_wp2
          go_ret
          exact ⟨congrArg (fun b => Ending.returned (Value.bool b)) (by rw [← HR.out, HTX.out]; exact (decide_eq_true ⟨hn, ⟨h1, rfl⟩, hm⟩).symm), (Below.refl _ _).alloc (Nat.le_refl _) _⟩
        · have d3 : ((m : Int) == 0) = false := by rw [beq_eq_false_iff_ne]; omega
          go_wp2
          go_ret
          exact ⟨congrArg (fun b => Ending.returned (Value.bool b)) (by rw [← HR.out]; exact (decide_eq_false (fun h => hm h.2.2)).symm), (Below.refl _ _).alloc (Nat.le_refl _) _⟩
      · have h1' : ¬ (s.size : Int) ≤ 60 := by omega
        go_wp2
        go_ret
        exact ⟨congrArg (fun b => Ending.returned (Value.bool b)) (by rw [← HR.out]; exact (decide_eq_false (fun h => h1 h.2.1.1)).symm), (Below.refl _ _).alloc (Nat.le_refl _) _⟩
  · have d1 : (n == 0) = false := by rw [beq_eq_false_iff_ne]; omega
    go_wp2
    go_ret
    exact ⟨congrArg (fun b => Ending.returned (Value.bool b)) (by rw [← HR.out]; exact (decide_eq_false (fun h => hn h.1)).symm), (Below.refl _ _).alloc (Nat.le_refl _) _⟩

theorem rright_flat (k n : Int) (hk : k ≠ 5) (s : ByteArray) (hsz : s.size ≤ 9223372036854775800) (p : Option Addr) (m c : Nat) (w : World) :
    Calls Tryz.prog 12 #[valV k n s (.slice p m c)] w fun e w' => e = .returned (.bool (flatOk k n s m)) ∧ Below w.heap.size w w' := by
  by_cases h0 : k = 0
  · subst h0; exact rright_nil n s p m c w
  by_cases h1 : k = 1
  · subst h1; exact rright_num n s p m c w
  by_cases h2 : k = 2
  · subst h2; exact rright_text n s hsz p m c w
  by_cases h3 : k = 3
  · subst h3; exact rright_ref n s p m c w
  by_cases h4 : k = 4
  · subst h4; exact rright_weak n s p m c w
  have : flatOk k n s m = false := by
    unfold flatOk
    rw [if_neg h0, if_neg h1, if_neg h2, if_neg (by omega)]
  rw [this]
  exact rright_other k n ⟨h0, h1, h2, h3, h4, hk⟩ s p m c w

set_option maxHeartbeats 4000000 in
set_option maxRecDepth 100000 in
theorem rright_list (n : Int) (s : ByteArray) (p : Option Addr) (c : Nat) (xs : List It) (hs : ∀ x ∈ xs, x.s.size ≤ 9223372036854775800) (w : World) (h : Lies w (.slice p xs.length c) xs.length 4 (itsCells xs)) :
    Calls Tryz.prog 12 #[valV 5 n s (.slice p xs.length c)] w fun e w' => e = .returned (.bool (decide (n = 0 ∧ s.size = 0) && listOk xs)) ∧ Below w.heap.size w w' := by
  generalize hr : (decide (n = 0 ∧ s.size = 0) && listOk xs) = r
  have HR := Lib.hid hr; clear hr
  have HL := Lib.hid h; clear h
  have HS := Lib.hid hs; clear hs
  have hb : Below w.heap.size w (w.alloc (.cells #[.int .i64 5, .int .i64 n, .string s, .slice p xs.length c] 30)) := (Below.refl _ _).alloc (Nat.le_refl _) _
  have hV := VBox.new w 5 n s (.slice p xs.length c)
  obtain ⟨⟨c0, c1, c2, c3⟩, _⟩ := hV.facts
  have HV := Lib.hid hV; clear hV
  go_enter Tryz.func12, Tryz.ntmps12
  by_cases hn : n = 0
  · subst hn
    have d1 : ((0 : Int) != 0) = false := rfl
    by_cases hs : s.size = 0
    · have d2 : s.toList = [] := (toList_nil s).2 hs
      by_cases hl : xs.length ≤ 12
      · have d3 : ¬ (12 : Int) < (xs.length : Int) := by omega
        go_wp2_with fail
        clear c0 c1 c2 c3
        go_loopw [4] (fun i wr => ∃ k : Nat, k ≤ xs.length ∧ i = .int .i64 (k : Int) ∧ (xs.take k).all itemOk = true ∧ Below w.heap.size w wr ∧ VBox wr w.heap.size 5 0 s (.slice p xs.length c)) (fun i _ => xs.length - (intOf i).toNat)
        case atStart => exact ⟨0, by omega, rfl, rfl, hb, HV.out⟩
        case round =>
          obtain ⟨k, hk, rfl, he, hB, hV⟩ := hrel
          have HE := Lib.hid he; clear he
          obtain ⟨⟨c0, c1, c2, c3⟩, _⟩ := hV.facts
          have hz : w.heap.size + 1 ≤ wr.heap.size := hV.lt
          have HVV := Lib.hid hV; clear hV
          by_cases hlt : k < xs.length
          · have e0 : (0 : Int) ≤ (k : Int) := by omega
            have e1 : (k : Int) < (xs.length : Int) := by omega
            have e2 : decide ((k : Int) < (xs.length : Int)) = true := decide_eq_true e1
            obtain ⟨b, off, rfl, hbb, hc⟩ := HL.out.at (by omega)
            have hcx : ∀ (j : Nat) (u : Value), ((xs[k]'hlt).cells)[j]? = some u → wr.cell? ⟨b, off + k * 4 + j, none⟩ = some u := fun j u hu => by
              rw [hB.cell (p := ⟨b, off + k * 4 + j, none⟩) hbb, Nat.add_assoc]
              exact hc _ _ (itsCells_at xs k hlt j u hu)
            have hsx := HS.out _ (List.getElem_mem hlt)
            have htk := fun h => all_take_succ hlt HE.out h
            have hfl := fun h => all_false (xs := xs) hlt h
            generalize xs[k]'hlt = x at hcx hsx htk hfl
            obtain ⟨xk, xn, xs', xp, xm, xc⟩ := x
            simp only at hsx
            have z0 : wr.cell? ⟨b, off + k * 4, none⟩ = some (.int .i64 xk) := hcx 0 _ rfl
            have z1 := hcx 1 _ rfl
            have z2 := hcx 2 _ rfl
            have z3 := hcx 3 _ rfl
            clear hcx hc
            by_cases h5 : xk = 5
            · have d5 : (xk == 5) = true := by rw [beq_iff_eq]; exact h5
              have hR : r = false := by
                rw [← HR.out]
                unfold listOk
                rw [hfl (by simp [itemOk, h5])]
                simp
              have HRF := Lib.hid hR; clear hR hfl htk h5
              go_wp2_with fail
              go_ret
              exact ⟨by rw [HRF.out]; rfl, hB⟩
            · have d5 : (xk == 5) = false := by rw [beq_eq_false_iff_ne]; exact h5
              have hit : itemOk ⟨xk, xn, xs', xp, xm, xc⟩ = flatOk xk xn xs' xm := by simp [itemOk, h5]
              have hcall := fun W => rright_flat xk xn h5 xs' hsx xp xm xc W
              rw [hit] at htk hfl
              generalize hF : flatOk xk xn xs' xm = F at hcall htk hfl
              have HC := Lib.hid hcall
              have HTK := Lib.hid htk
              have HFL := Lib.hid hfl
              have HB := Lib.hid hB
              clear hit hcall htk hfl h5 hB hF
              go_wp2_with fail
              refine (HC.out _).mono ?_
              rintro e W ⟨rfl, hB2⟩
              have hBW := HB.out.trans (hB2.mono (by omega))
              have hVW := HVV.out.below hB2
              cases F with
              | true =>
                have htk := HTK.out rfl
                have HTK2 := Lib.hid htk; clear htk
                go_wp2_with fail
                exact ⟨⟨k + 1, by omega, by go_num, HTK2.out, hBW, hVW⟩, by simp [intOf]; omega⟩
              | false =>
                have hR : r = false := by
                  rw [← HR.out]
                  unfold listOk
                  rw [HFL.out rfl]
                  simp
                have HRF := Lib.hid hR; clear hR
                go_wp2_with fail
                go_ret
                exact ⟨by rw [HRF.out]; rfl, hBW⟩
          · obtain rfl : k = xs.length := by omega
            have e2 : decide ((xs.length : Int) < (xs.length : Int)) = false := decide_eq_false (by omega)
            have hR : r = true := by
              rw [← HR.out]
              unfold listOk
              have := HE.out
              rw [List.take_of_length_le (Nat.le_refl _)] at this
              rw [this, decide_eq_true hl, decide_eq_true ⟨by trivial, hs⟩]; rfl
            have HRT := Lib.hid hR; clear hR
            go_wp2_with fail
            go_ret
            exact ⟨by rw [HRT.out]; rfl, hB⟩
      · have d3 : (12 : Int) < (xs.length : Int) := by omega
        go_wp2
        go_ret
        exact ⟨congrArg (fun b => Ending.returned (Value.bool b)) (by rw [← HR.out]; unfold listOk; rw [decide_eq_false hl]; simp), (Below.refl _ _).alloc (Nat.le_refl _) _⟩
    · have d2 : ¬ s.toList = [] := fun h => hs ((toList_nil s).1 h)
      go_wp2
      go_ret
      exact ⟨congrArg (fun b => Ending.returned (Value.bool b)) (by rw [← HR.out, decide_eq_false (fun h => hs h.2)]; rfl), (Below.refl _ _).alloc (Nat.le_refl _) _⟩
  · have d1 : (n != 0) = true := by simpa using hn
    go_wp2
    go_ret
    exact ⟨congrArg (fun b => Ending.returned (Value.bool b)) (by rw [← HR.out, decide_eq_false (fun h => hn h.1)]; rfl), (Below.refl _ _).alloc (Nat.le_refl _) _⟩

theorem rright_any (x : It) (xs : List It) (hx : x.s.size ≤ 9223372036854775800) (hs : ∀ y ∈ xs, y.s.size ≤ 9223372036854775800) (w : World) (h : x.k = 5 → x.m = xs.length ∧ Lies w (.slice x.p x.m x.c) xs.length 4 (itsCells xs)) :
    Calls Tryz.prog 12 #[x.v] w fun e w' => e = .returned (.bool (rightOf x xs)) ∧ Below w.heap.size w w' := by
  obtain ⟨k, n, s, p, m, c⟩ := x
  unfold rightOf
  by_cases h5 : k = 5
  · subst h5
    obtain ⟨hm, hL⟩ := h rfl
    simp only at hm hL
    subst hm
    rw [if_pos rfl]
    exact rright_list n s p c xs hs w hL
  · rw [if_neg h5]
    exact rright_flat k n h5 s hx p m c w

/-- texts of few bytes -/
def V.short (v : V) : Prop := v.s.size ≤ 100 ∧ ∀ u ∈ v.l, u.s.size ≤ 100
/-- moraineref03.Right, of any value that lies -/
theorem rright_V (d : Nat) (v : V) (x : It) (w : World) (hx : VAt d w v x) (hsh : v.short) :
    Calls Tryz.prog 12 #[x.v] w fun e w' => e = .returned (.bool v.ok) ∧ Below w.heap.size w w' := by
  obtain ⟨h1, h2, h3, h4, ys, h5, h6, h7, h8, _, h9⟩ := items_of hx
  rw [← h7]
  exact rright_any x ys (by rw [h3]; have := hsh.1; omega) (fun y hy => by obtain ⟨u, hu, _, _, e, _⟩ := h9 y hy; rw [e]; have := hsh.2 u hu; omega) w (fun _ => ⟨by omega, h6⟩)
end Go.Proofs.YtmijlcilnaeppaaGreatDoor

/- moraineref03.plain, RightType, kind, Fits, Zero. -/
set_option linter.unusedSimpArgs false
set_option linter.unusedVariables false
namespace Go.Proofs.YtmijlcilnaeppaaGreatDoor
open Go Go.RowKit Go.Shelf

def plB (k : Int) : Bool := decide (1 ≤ k ∧ k ≤ 4)
set_option maxHeartbeats 1000000 in
set_option maxRecDepth 100000 in
theorem plain_any (k : Int) (w : World) :
    Calls Tryz.prog 72 #[.int .i64 k] w fun e w' => e = .returned (.bool (plB k)) ∧ w = w' := by
  have hb : ∀ r, r = plB k → ∀ (e : Ending) (w' : World), (e = .returned (.bool r) ∧ w = w') → (e = .returned (.bool (plB k)) ∧ w = w') := fun r hr e w' h => by rw [← hr]; exact h
  by_cases h1 : 1 ≤ k
  · by_cases h2 : k ≤ 4
    · refine Calls.mono ?_ (hb true (decide_eq_true ⟨h1, h2⟩).symm)
      clear hb
      go_enter Tryz.func72, Tryz.ntmps72
      go_wp2_with fail
      go_ret
      exact ⟨rfl, rfl⟩
    · refine Calls.mono ?_ (hb false (decide_eq_false (by omega)).symm)
      clear hb
      go_enter Tryz.func72, Tryz.ntmps72
      go_wp2_with fail
      go_ret
      exact ⟨rfl, rfl⟩
  · refine Calls.mono ?_ (hb false (decide_eq_false (by omega)).symm)
    clear hb
    go_enter Tryz.func72, Tryz.ntmps72
    go_wp2_with fail
    go_ret
    exact ⟨rfl, rfl⟩

set_option maxHeartbeats 2000000 in
set_option maxRecDepth 100000 in
theorem rrightType_any (k o : Int) (w : World) :
    Calls Tryz.prog 48 #[.agg #[.int .i64 k, .int .i64 o]] w fun e w' => e = .returned (.bool (rtB k o)) ∧ Below w.heap.size w w' := by
  have hb : ∀ r, r = rtB k o → ∀ (e : Ending) (w' : World), (e = .returned (.bool r) ∧ Below w.heap.size w w') → (e = .returned (.bool (rtB k o)) ∧ Below w.heap.size w w') := fun r hr e w' h => by rw [← hr]; exact h
  have hB : Below w.heap.size w (w.alloc (.cells #[.int .i64 k, .int .i64 o] 26)) := (Below.refl _ _).alloc (Nat.le_refl _) _
  obtain ⟨c0, c1⟩ := (TBox.new w k o).facts
  have hk := fun W => plain_any k W
  have ho := fun W => plain_any o W
  by_cases h5 : k = 5
  · have d5 : (k == 5) = true := beq_iff_eq.2 h5
    have hr : plB o = rtB k o := by unfold rtB plB; rw [if_pos h5]
    generalize plB o = q at hr ho
    refine Calls.mono ?_ (hb q hr)
    have HO := Lib.hid ho
    clear hb hk ho hr h5
    go_enter Tryz.func48, Tryz.ntmps48
    go_wp2_with fail
    refine (HO.out _).mono ?_
    rintro e W1 ⟨rfl, rfl⟩
    go_wp2_with fail
    go_ret
    exact ⟨rfl, hB⟩
  · have d5 : (k == 5) = false := beq_eq_false_iff_ne.2 h5
    have hr : (plB k && (o == 0)) = rtB k o := by
      unfold rtB plB
      rw [if_neg h5]
      by_cases ho : o = 0
      · rw [beq_iff_eq.2 ho, Bool.and_true]; congr 1; simp [ho]
      · rw [beq_eq_false_iff_ne.2 ho, Bool.and_false]; exact (decide_eq_false (fun h => ho h.2)).symm
    generalize plB k = q at hr hk
    cases q with
    | false =>
      refine Calls.mono ?_ (hb false hr)
      have HK := Lib.hid hk
      clear hb hk ho hr h5
      go_enter Tryz.func48, Tryz.ntmps48
      go_wp2_with fail
      refine (HK.out _).mono ?_
      rintro e W1 ⟨rfl, rfl⟩
      go_wp2_with fail
      go_ret
      exact ⟨rfl, hB⟩
    | true =>
      have hr' : (o == 0) = rtB k o := hr
      generalize hq : (o == 0) = q at hr'
      refine Calls.mono ?_ (hb q hr')
      have HK := Lib.hid hk
      clear hb hk ho hr h5 hr'
      go_enter Tryz.func48, Tryz.ntmps48
      go_wp2_with fail
      refine (HK.out _).mono ?_
      rintro e W1 ⟨rfl, rfl⟩
      go_wp2_with fail
      go_ret
      exact ⟨by first | rfl | rw [hq], hB⟩

set_option maxHeartbeats 2000000 in
set_option maxRecDepth 100000 in
theorem rkind_any (x : It) (k : Int) (w : World) :
    Calls Tryz.prog 49 #[x.v, .int .i64 k] w fun e w' => e = .returned (.bool (fkB x.k k)) ∧ Below w.heap.size w w' := by
  obtain ⟨a, n, s, p, m, c⟩ := x
  simp only
  have hb : ∀ r, r = fkB a k → ∀ (e : Ending) (w' : World), (e = .returned (.bool r) ∧ Below w.heap.size w w') → (e = .returned (.bool (fkB a k)) ∧ Below w.heap.size w w') := fun r hr e w' h => by rw [← hr]; exact h
  have hB : Below w.heap.size w (w.alloc (.cells #[.int .i64 a, .int .i64 n, .string s, .slice p m c] 30)) := (Below.refl _ _).alloc (Nat.le_refl _) _
  obtain ⟨⟨c0, c1, c2, c3⟩, _⟩ := (VBox.new w a n s (.slice p m c)).facts
  by_cases h1 : a = k
  · have d1 : (a == k) = true := beq_iff_eq.2 h1
    refine Calls.mono ?_ (hb true (decide_eq_true (.inl h1)).symm)
    clear hb h1
    go_enter Tryz.func49, Tryz.ntmps49
    go_wp2_with fail
    go_ret
    exact ⟨rfl, hB⟩
  · have d1 : (a == k) = false := beq_eq_false_iff_ne.2 h1
    by_cases h2 : a = 0
    · have d2 : (a == 0) = true := beq_iff_eq.2 h2
      by_cases h3 : k = 3
      · have d3 : (k == 3) = true := beq_iff_eq.2 h3
        refine Calls.mono ?_ (hb true (decide_eq_true (.inr ⟨h2, .inl h3⟩)).symm)
        clear hb h1 h2 h3
        go_enter Tryz.func49, Tryz.ntmps49
        go_wp2_with fail
        go_ret
        exact ⟨rfl, hB⟩
      · have d3 : (k == 3) = false := beq_eq_false_iff_ne.2 h3
        by_cases h4 : k = 4
        · have d4 : (k == 4) = true := beq_iff_eq.2 h4
          refine Calls.mono ?_ (hb true (decide_eq_true (.inr ⟨h2, .inr h4⟩)).symm)
          clear hb h1 h2 h3 h4
          go_enter Tryz.func49, Tryz.ntmps49
          go_wp2_with fail
          go_ret
          exact ⟨rfl, hB⟩
        · have d4 : (k == 4) = false := beq_eq_false_iff_ne.2 h4
          refine Calls.mono ?_ (hb false (decide_eq_false (by omega)).symm)
          clear hb h1 h2 h3 h4
          go_enter Tryz.func49, Tryz.ntmps49
          go_wp2_with fail
          go_ret
          exact ⟨rfl, hB⟩
    · have d2 : (a == 0) = false := beq_eq_false_iff_ne.2 h2
      refine Calls.mono ?_ (hb false (decide_eq_false (by omega)).symm)
      clear hb h1 h2
      go_enter Tryz.func49, Tryz.ntmps49
      go_wp2_with fail
      go_ret
      exact ⟨rfl, hB⟩

theorem fitsB_ref (v : V) (k o : Int) : fitsB v k o = (v.ok && (rtB k o && (fkB v.k k && v.l.all (fun u => fkB u.k o)))) := by
  unfold fitsB
  cases hr : rtB k o with
  | false => simp
  | true =>
    cases hok : v.ok with
    | false => simp
    | true =>
      simp only [Bool.true_and, Bool.and_true]
      by_cases h5 : k = 5
      · rw [if_pos h5, Bool.and_comm]
        congr 1
        unfold fkB
        rw [h5]
        by_cases hv : v.k = 5
        · rw [beq_iff_eq.2 hv, decide_eq_true (.inl hv)]
        · rw [beq_eq_false_iff_ne.2 hv, decide_eq_false (by omega)]
      · rw [if_neg h5]
        cases hf : fkB v.k k with
        | false => rfl
        | true =>
          have hf := of_decide_eq_true hf
          have hv5 : v.k ≠ 5 := by omega
          have hl : v.l = [] := by
            have := (flatOk_parts (ok_flat hok hv5)).2.2.1
            exact List.eq_nil_of_length_eq_zero this
          rw [hl]; rfl

set_option maxHeartbeats 4000000 in
set_option maxRecDepth 100000 in
theorem rfits_V (d : Nat) (v : V) (x : It) (k o : Int) (w : World) (hx : VAt d w v x) (hsh : v.short) :
    Calls Tryz.prog 24 #[x.v, .agg #[.int .i64 k, .int .i64 o]] w fun e w' => e = .returned (.bool (fitsB v k o)) ∧ Below w.heap.size w w' := by
  rw [fitsB_ref]
  have hright := fun W (hb : Below w.heap.size w W) => rright_V d v x W (hx.below hb) hsh
  obtain ⟨hfine, hk, hn, hs, ys, hlen, hlies, hin⟩ := hx.top
  have hym : x.m = ys.length := by have := hx.top.len; omega
  have hyk : ∀ (i : Nat) (h : i < ys.length) (h' : i < v.l.length), ys[i].k = v.l[i].k := fun i h h' => (hin i h h').same.1
  have hlm : ys.length ≤ 9223372036854775807 := by rw [hlen]; exact hfine.l
  have hall : v.l.all (fun u => fkB u.k o) = ys.all (fun y => fkB y.k o) := by
    have g1 : v.l.all (fun u => fkB u.k o) = (v.l.map V.k).all (fun a => fkB a o) := by rw [List.all_map]; rfl
    have g2 : ys.all (fun y => fkB y.k o) = (ys.map It.k).all (fun a => fkB a o) := by rw [List.all_map]; rfl
    rw [g1, g2, items_map (It.k) (V.k) hlen (fun i a b => hyk i a b)]
  rw [hall, ← hk]
  generalize v.ok = rt at hright ⊢
  clear hall hyk hin hlen hfine hx hk hn hs
  have hkind := fun W => rkind_any x k W
  have hkinds := fun (y : It) W => rkind_any y o W
  have hrty := fun W => rrightType_any k o W
  generalize fkB x.k k = fk at hkind ⊢
  obtain ⟨a, n, s, p, m, c⟩ := x
  simp only at hym hright hlies hkind ⊢
  subst hym
  generalize rtB k o = t at hrty ⊢
  generalize hr : (rt && (t && (fk && ys.all (fun y => fkB y.k o)))) = r
  have hb2 : Below w.heap.size w ((w.alloc (.cells #[.int .i64 a, .int .i64 n, .string s, .slice p ys.length c] 30)).alloc (.cells #[.int .i64 k, .int .i64 o] 26)) := below_two _ _
  have hV0 := (VBox.new w a n s (.slice p ys.length c)).alloc (.cells #[.int .i64 k, .int .i64 o] 26)
  have hT0 := TBox.new (w.alloc (.cells #[.int .i64 a, .int .i64 n, .string s, .slice p ys.length c] 30)) k o
  rw [World.size_alloc] at hT0
  have HR := Lib.hid hr
  have HRIGHT := Lib.hid hright
  have HLIES := Lib.hid hlies
  have HKIND := Lib.hid hkind
  have HKINDS := Lib.hid hkinds
  have HRTY := Lib.hid hrty
  have HB2 := Lib.hid hb2
  have HV0 := Lib.hid hV0
  have HT0 := Lib.hid hT0
  clear hr hright hlies hb2 hV0 hT0 hkind hkinds hrty
  have h01 : w.heap.size ≠ w.heap.size + 1 := by omega
  go_enter Tryz.func24, Tryz.ntmps24
  obtain ⟨⟨c0, c1, c2, c3⟩, f0, f1, f2, f3⟩ := HV0.out.facts
  go_wp2_with fail
  refine (HRIGHT.out _ HB2.out).mono ?_
  rintro e W1 ⟨rfl, hB1⟩
  have hbw := HB2.out.trans (hB1.mono (by simp; omega))
  have hV1 := HV0.out.below hB1
  have hT1 := HT0.out.below hB1
  clear c0 c1 c2 c3 f0 f1 f2 f3
  generalize ((w.alloc (.cells #[.int .i64 a, .int .i64 n, .string s, .slice p ys.length c] 30)).alloc (.cells #[.int .i64 k, .int .i64 o] 26)) = W0 at hB1
  clear hB1 HB2 HV0 HT0
  obtain ⟨e0, e1⟩ := hT1.facts
  have HV1 := Lib.hid hV1
  have HT1 := Lib.hid hT1
  have HBW := Lib.hid hbw
  clear hV1 hT1 hbw
  go_wp2_with fail
  refine (HRTY.out _).mono ?_
  rintro e W2 ⟨rfl, hB2⟩
  have hV2 := HV1.out.below hB2
  have hT2 := HT1.out.below hB2
  have hbw2 := HBW.out.trans (hB2.mono HBW.out.size)
  clear hB2 e0 e1 HV1 HT1 HBW HRIGHT HRTY
  cases rt with
  | false =>
    have hz : r = false := by rw [← HR.out]; rfl
    have HZ := Lib.hid hz
    have HBW := Lib.hid hbw2
    clear hz hbw2 hV2 hT2
    go_wp2_with fail
    go_ret
    exact ⟨by rw [HZ.out]; rfl, HBW.out⟩
  | true =>
    cases t with
    | false =>
      have hz : r = false := by rw [← HR.out]; rfl
      have HZ := Lib.hid hz
      have HBW := Lib.hid hbw2
      clear hz hbw2 hV2 hT2
      go_wp2_with fail
      go_ret
      exact ⟨by rw [HZ.out]; rfl, HBW.out⟩
    | true =>
      obtain ⟨⟨c0, c1, c2, c3⟩, f0, f1, f2, f3⟩ := hV2.facts
      obtain ⟨e0, e1⟩ := hT2.facts
      have HV2 := Lib.hid hV2
      have HT2 := Lib.hid hT2
      have HBW := Lib.hid hbw2
      clear hV2 hT2 hbw2
      go_wp2_with fail
      refine (HKIND.out _).mono ?_
      rintro e W3 ⟨rfl, hB3⟩
      have hV3 := HV2.out.below hB3
      have hT3 := HT2.out.below hB3
      have hbw3 := HBW.out.trans (hB3.mono HBW.out.size)
      clear hB3 c0 c1 c2 c3 f0 f1 f2 f3 e0 e1 HV2 HT2 HBW HKIND
      have HV3 := Lib.hid hV3
      have HT3 := Lib.hid hT3
      have HBW := Lib.hid hbw3
      clear hV3 hT3 hbw3
      cases fk with
      | false =>
        have hz : r = false := by rw [← HR.out]; rfl
        have HZ := Lib.hid hz
        clear hz
        go_wp2_with fail
        go_ret
        exact ⟨by rw [HZ.out]; rfl, HBW.out⟩
      | true =>
        have hr : r = ys.all (fun y => fkB y.k o) := by rw [← HR.out]; rfl
        have HR5 := Lib.hid hr
        clear hr HR
        go_wp2_with fail
        go_loopw [7] (fun i wr => ∃ j : Nat, j ≤ ys.length ∧ i = .int .i64 (j : Int) ∧ (ys.take j).all (fun y => fkB y.k o) = true ∧ Below w.heap.size w wr ∧ VBox wr w.heap.size a n s (.slice p ys.length c) ∧ TBox wr (w.heap.size + 1) k o) (fun i _ => ys.length - (intOf i).toNat)
        case atStart => exact ⟨0, by omega, rfl, rfl, HBW.out, HV3.out, HT3.out⟩
        case round =>
          obtain ⟨j, hj, rfl, he, hB, hVr, hTr⟩ := hrel
          clear HV3 HT3 HBW
          have HE := Lib.hid he; clear he
          obtain ⟨⟨c0, c1, c2, c3⟩, f0, f1, f2, f3⟩ := hVr.facts
          by_cases hlt : j < ys.length
          · have d0 : (0 : Int) ≤ (j : Int) := by omega
            have d2 : (j : Int) < (ys.length : Int) := by omega
            have d2' : decide ((j : Int) < (ys.length : Int)) = true := decide_eq_true d2
            obtain ⟨b, off, rfl, hb, hc⟩ := HLIES.out.at (by omega)
            obtain ⟨y, hy⟩ : ∃ y, ys[j] = y := ⟨_, rfl⟩
            have hcx : ∀ (i : Nat) (u : Value), (y.cells)[i]? = some u → wr.cell? ⟨b, off + j * 4 + i, none⟩ = some u := fun i u hu => by
              rw [hB.cell (p := ⟨b, off + j * 4 + i, none⟩) hb, Nat.add_assoc]
              exact hc _ _ (itsCells_at ys j hlt i u (by rw [hy]; exact hu))
            obtain ⟨z0, z1, z2, z3⟩ := cell_four (W := wr) (b := b) (off := off) (k := j) (x := y) hcx
            obtain ⟨e0, e1⟩ := hTr.facts
            have hno : fkB y.k o = false → r = false := fun h => by rw [HR5.out, all_no hlt (f := fun y => fkB y.k o) (by show fkB ys[j].k o = false; rw [hy]; exact h)]
            have hyes : fkB y.k o = true → (ys.take (j + 1)).all (fun y => fkB y.k o) = true := fun h => all_take hlt HE.out (by show fkB ys[j].k o = true; rw [hy]; exact h)
            have hcall : ∀ W', Below wr.heap.size wr W' → Calls Tryz.prog 49 #[y.v, .int .i64 o] W' fun e W'' => e = .returned (.bool (fkB y.k o)) ∧ Below wr.heap.size wr W'' := fun W' h => (HKINDS.out y W').mono (fun e W'' h2 => ⟨h2.1, h.trans (h2.2.mono h.size)⟩)
            generalize fkB y.k o = q at hno hyes hcall
            obtain ⟨yk, yn, yss, yp, ym, yc⟩ := y
            simp only at z0 z1 z2 z3 hcall
            have hTS : wr.cell? ⟨w.heap.size, 3, none⟩ = some (.slice (some ⟨b, off, none⟩) ys.length c) ∧ wr.cell? ⟨w.heap.size + 1, 1, none⟩ = some (.int .i64 o) ∧ wr.cell? ⟨b, off + j * 4, none⟩ = some (.int .i64 yk) ∧ wr.cell? ⟨b, off + j * 4 + 1, none⟩ = some (.int .i64 yn) ∧ wr.cell? ⟨b, off + j * 4 + 2, none⟩ = some (.string yss) ∧ wr.cell? ⟨b, off + j * 4 + 3, none⟩ = some (.slice yp ym yc) ∧ VBox wr w.heap.size a n s (.slice (some ⟨b, off, none⟩) ys.length c) ∧ TBox wr (w.heap.size + 1) k o ∧ Below w.heap.size w wr := ⟨c3, e1, z0, z1, z2, z3, hVr, hTr, hB⟩
            have hTW : ∀ W', Below wr.heap.size wr W' → W'.cell? ⟨w.heap.size, 3, none⟩ = some (.slice (some ⟨b, off, none⟩) ys.length c) ∧ W'.cell? ⟨w.heap.size + 1, 1, none⟩ = some (.int .i64 o) ∧ W'.cell? ⟨b, off + j * 4, none⟩ = some (.int .i64 yk) ∧ W'.cell? ⟨b, off + j * 4 + 1, none⟩ = some (.int .i64 yn) ∧ W'.cell? ⟨b, off + j * 4 + 2, none⟩ = some (.string yss) ∧ W'.cell? ⟨b, off + j * 4 + 3, none⟩ = some (.slice yp ym yc) ∧ VBox W' w.heap.size a n s (.slice (some ⟨b, off, none⟩) ys.length c) ∧ TBox W' (w.heap.size + 1) k o ∧ Below w.heap.size w W' := by
              intro W' hB'
              have z1' : w.heap.size < wr.heap.size := hVr.lt
              have z2' : w.heap.size + 1 < wr.heap.size := hTr.lt
              have z3' : b < wr.heap.size := by omega
              have g : ∀ (q : Addr) (v : Value), q.block < wr.heap.size → wr.cell? q = some v → W'.cell? q = some v := fun q v hq hv => (hB'.cell hq).trans hv
              exact ⟨g _ _ z1' c3, g _ _ z2' e1, g _ _ z3' z0, g _ _ z3' z1, g _ _ z3' z2, g _ _ z3' z3, hVr.below hB', hTr.below hB', hB.trans (hB'.mono hB.size)⟩
            have HNO := Lib.hid hno
            have HYES := Lib.hid hyes
            have HC := Lib.hid hcall
            have HTW := Lib.hid hTW
            have HTS := Lib.hid hTS
            clear hno hyes hcall hTW hVr hTr hy hcx hc hB f0 f1 f2 f3 c0 c1 c2 e0
            go_wp2_with fail
            have hTS := HTS.out
            go_region_held3 (fun W' : World => W'.cell? ⟨w.heap.size, 3, none⟩ = some (.slice (some ⟨b, off, none⟩) ys.length c) ∧ W'.cell? ⟨w.heap.size + 1, 1, none⟩ = some (.int .i64 o) ∧ W'.cell? ⟨b, off + j * 4, none⟩ = some (.int .i64 yk) ∧ W'.cell? ⟨b, off + j * 4 + 1, none⟩ = some (.int .i64 yn) ∧ W'.cell? ⟨b, off + j * 4 + 2, none⟩ = some (.string yss) ∧ W'.cell? ⟨b, off + j * 4 + 3, none⟩ = some (.slice yp ym yc) ∧ VBox W' w.heap.size a n s (.slice (some ⟨b, off, none⟩) ys.length c) ∧ TBox W' (w.heap.size + 1) k o ∧ Below w.heap.size w W')
              (first | assumption | exact HTW.out _ (Below.refl _ wr).drew | exact HTW.out _ (by assumption))
              (first | (go_at_call 49; (refine (HC.out _ (Below.refl _ wr).drew).mono ?_); rintro e W1 ⟨rfl, hB1⟩))
            all_goals
              obtain ⟨_, _, _, _, _, _, hVq, hTq, hBW⟩ := HTW.out _ hB1
              cases q with
              | true =>
                have htk := HYES.out rfl
                have HTK := Lib.hid htk
                clear htk
                go_wp2_with fail
                exact ⟨⟨j + 1, by omega, by go_num, HTK.out, hBW, hVq, hTq⟩, by simp [intOf]; omega⟩
              | false =>
                have hz := HNO.out rfl
                have HZ := Lib.hid hz
                clear hz
                go_wp2_with fail
                go_ret
                exact ⟨by rw [HZ.out]; rfl, hBW⟩
          · obtain rfl : j = ys.length := by omega
            have d2' : decide ((ys.length : Int) < (ys.length : Int)) = false := decide_eq_false (by omega)
            have hr : r = true := by
              rw [HR5.out]
              have := HE.out
              rwa [List.take_of_length_le (Nat.le_refl _)] at this
            have HQ := Lib.hid hr
            clear hr
            go_wp2_with fail
            go_ret
            exact ⟨by rw [HQ.out]; rfl, hB⟩

set_option maxHeartbeats 4000000 in
set_option maxRecDepth 100000 in
theorem rzero_bad (k o : Int) (w : World) (ht : rtB k o = false) :
    Calls Tryz.prog 26 #[.agg #[.int .i64 k, .int .i64 o]] w fun e w' => e = .returned (valV 0 0 ⟨#[]⟩ (.slice none 0 0)) ∧ Below w.heap.size w w' := by
  have hT0 := (TBox.new w k o).alloc (.cells #[.int .i64 0, .int .i64 0, .string ⟨#[]⟩, .slice none 0 0] 30)
  have hV0 := VBox.new (w.alloc (.cells #[.int .i64 k, .int .i64 o] 26)) 0 0 ⟨#[]⟩ (.slice none 0 0)
  rw [World.size_alloc] at hV0
  have hb2 : Below w.heap.size w ((w.alloc (.cells #[.int .i64 k, .int .i64 o] 26)).alloc (.cells #[.int .i64 0, .int .i64 0, .string ⟨#[]⟩, .slice none 0 0] 30)) := below_two _ _
  have hc := fun W => rrightType_any k o W
  rw [ht] at hc
  have fin : ∀ (W1 : World), Below ((w.alloc (.cells #[.int .i64 k, .int .i64 o] 26)).alloc (.cells #[.int .i64 0, .int .i64 0, .string ⟨#[]⟩, .slice none 0 0] 30)).heap.size ((w.alloc (.cells #[.int .i64 k, .int .i64 o] 26)).alloc (.cells #[.int .i64 0, .int .i64 0, .string ⟨#[]⟩, .slice none 0 0] 30)) W1 → ∀ q : Int, VBox (putBox W1 (w.heap.size + 1) q 0 ⟨#[]⟩ (.slice none 0 0)) (w.heap.size + 1) q 0 ⟨#[]⟩ (.slice none 0 0) ∧ Below w.heap.size w (putBox W1 (w.heap.size + 1) q 0 ⟨#[]⟩ (.slice none 0 0)) := fun W1 hB q =>
    ⟨(hV0.below hB).put q 0 ⟨#[]⟩ (.slice none 0 0), below_put (hb2.trans (hB.mono (by simp; omega))) (Nat.le_succ _) q 0 ⟨#[]⟩ (.slice none 0 0)⟩
  have HT0 := Lib.hid hT0
  have HV0 := Lib.hid hV0
  have HC := Lib.hid hc
  have FIN := Lib.hid fin
  clear hT0 hV0 hb2 hc fin ht
  have h01 : w.heap.size ≠ w.heap.size + 1 := by omega
  go_enter Tryz.func26, Tryz.ntmps26
  go_wp2_with fail
  refine (HC.out _).mono ?_
  rintro e W1 ⟨rfl, hB1⟩
  obtain ⟨hV, hB⟩ := FIN.out W1 hB1 0
  obtain ⟨e0, e1⟩ := (HT0.out.below hB1).facts
  obtain ⟨_, f0, f1, f2, f3⟩ := (HV0.out.below hB1).facts
  have HVV := Lib.hid hV
  have HBB := Lib.hid hB
  clear hV hB hB1
  go_wp2_with fail
  have hV := HVV.out
  have hB := HBB.out
  unfold putBox at hV hB
  generalize ((((W1.setCell ⟨w.heap.size + 1, 0, none⟩ (.int .i64 0)).setCell ⟨w.heap.size + 1, 1, none⟩ (.int .i64 0)).setCell ⟨w.heap.size + 1, 2, none⟩ (.string ⟨#[]⟩)).setCell ⟨w.heap.size + 1, 3, none⟩ (.slice none 0 0)) = W9 at hV hB ⊢
  obtain ⟨⟨x0, x1, x2, x3⟩, _⟩ := hV.facts
  exact bodyPost_ret (v := valV 0 0 ⟨#[]⟩ (.slice none 0 0)) (by simp [results, Tryz.results26, go_sem, x0, x1, x2, x3]) rfl ⟨rfl, hB⟩
set_option maxHeartbeats 4000000 in
set_option maxRecDepth 100000 in
theorem rzero_1 (k o : Int) (w : World) (ht : rtB k o = true) (h1 : k = 1) :
    Calls Tryz.prog 26 #[.agg #[.int .i64 k, .int .i64 o]] w fun e w' => e = .returned (valV 1 0 ⟨#[]⟩ (.slice none 0 0)) ∧ Below w.heap.size w w' := by
  have hT0 := (TBox.new w k o).alloc (.cells #[.int .i64 0, .int .i64 0, .string ⟨#[]⟩, .slice none 0 0] 30)
  have hV0 := VBox.new (w.alloc (.cells #[.int .i64 k, .int .i64 o] 26)) 0 0 ⟨#[]⟩ (.slice none 0 0)
  rw [World.size_alloc] at hV0
  have hb2 : Below w.heap.size w ((w.alloc (.cells #[.int .i64 k, .int .i64 o] 26)).alloc (.cells #[.int .i64 0, .int .i64 0, .string ⟨#[]⟩, .slice none 0 0] 30)) := below_two _ _
  have hc := fun W => rrightType_any k o W
  rw [ht] at hc
  have fin : ∀ (W1 : World), Below ((w.alloc (.cells #[.int .i64 k, .int .i64 o] 26)).alloc (.cells #[.int .i64 0, .int .i64 0, .string ⟨#[]⟩, .slice none 0 0] 30)).heap.size ((w.alloc (.cells #[.int .i64 k, .int .i64 o] 26)).alloc (.cells #[.int .i64 0, .int .i64 0, .string ⟨#[]⟩, .slice none 0 0] 30)) W1 → ∀ q : Int, VBox (putBox W1 (w.heap.size + 1) q 0 ⟨#[]⟩ (.slice none 0 0)) (w.heap.size + 1) q 0 ⟨#[]⟩ (.slice none 0 0) ∧ Below w.heap.size w (putBox W1 (w.heap.size + 1) q 0 ⟨#[]⟩ (.slice none 0 0)) := fun W1 hB q =>
    ⟨(hV0.below hB).put q 0 ⟨#[]⟩ (.slice none 0 0), below_put (hb2.trans (hB.mono (by simp; omega))) (Nat.le_succ _) q 0 ⟨#[]⟩ (.slice none 0 0)⟩
  have HT0 := Lib.hid hT0
  have HV0 := Lib.hid hV0
  have HC := Lib.hid hc
  have FIN := Lib.hid fin
  clear hT0 hV0 hb2 hc fin ht
  have h01 : w.heap.size ≠ w.heap.size + 1 := by omega
  have d1 : (k == 1) = true := beq_iff_eq.2 h1
  clear h1
  go_enter Tryz.func26, Tryz.ntmps26
  go_wp2_with fail
  refine (HC.out _).mono ?_
  rintro e W1 ⟨rfl, hB1⟩
  obtain ⟨hV, hB⟩ := FIN.out W1 hB1 1
  obtain ⟨e0, e1⟩ := (HT0.out.below hB1).facts
  obtain ⟨_, f0, f1, f2, f3⟩ := (HV0.out.below hB1).facts
  have HVV := Lib.hid hV
  have HBB := Lib.hid hB
  clear hV hB hB1
  go_wp2_with fail
  have hV := HVV.out
  have hB := HBB.out
  unfold putBox at hV hB
  generalize ((((W1.setCell ⟨w.heap.size + 1, 0, none⟩ (.int .i64 1)).setCell ⟨w.heap.size + 1, 1, none⟩ (.int .i64 0)).setCell ⟨w.heap.size + 1, 2, none⟩ (.string ⟨#[]⟩)).setCell ⟨w.heap.size + 1, 3, none⟩ (.slice none 0 0)) = W9 at hV hB ⊢
  obtain ⟨⟨x0, x1, x2, x3⟩, _⟩ := hV.facts
  exact bodyPost_ret (v := valV 1 0 ⟨#[]⟩ (.slice none 0 0)) (by simp [results, Tryz.results26, go_sem, x0, x1, x2, x3]) rfl ⟨rfl, hB⟩
set_option maxHeartbeats 4000000 in
set_option maxRecDepth 100000 in
theorem rzero_2 (k o : Int) (w : World) (ht : rtB k o = true) (h1 : k ≠ 1) (h2 : k = 2) :
    Calls Tryz.prog 26 #[.agg #[.int .i64 k, .int .i64 o]] w fun e w' => e = .returned (valV 2 0 ⟨#[]⟩ (.slice none 0 0)) ∧ Below w.heap.size w w' := by
  have hT0 := (TBox.new w k o).alloc (.cells #[.int .i64 0, .int .i64 0, .string ⟨#[]⟩, .slice none 0 0] 30)
  have hV0 := VBox.new (w.alloc (.cells #[.int .i64 k, .int .i64 o] 26)) 0 0 ⟨#[]⟩ (.slice none 0 0)
  rw [World.size_alloc] at hV0
  have hb2 : Below w.heap.size w ((w.alloc (.cells #[.int .i64 k, .int .i64 o] 26)).alloc (.cells #[.int .i64 0, .int .i64 0, .string ⟨#[]⟩, .slice none 0 0] 30)) := below_two _ _
  have hc := fun W => rrightType_any k o W
  rw [ht] at hc
  have fin : ∀ (W1 : World), Below ((w.alloc (.cells #[.int .i64 k, .int .i64 o] 26)).alloc (.cells #[.int .i64 0, .int .i64 0, .string ⟨#[]⟩, .slice none 0 0] 30)).heap.size ((w.alloc (.cells #[.int .i64 k, .int .i64 o] 26)).alloc (.cells #[.int .i64 0, .int .i64 0, .string ⟨#[]⟩, .slice none 0 0] 30)) W1 → ∀ q : Int, VBox (putBox W1 (w.heap.size + 1) q 0 ⟨#[]⟩ (.slice none 0 0)) (w.heap.size + 1) q 0 ⟨#[]⟩ (.slice none 0 0) ∧ Below w.heap.size w (putBox W1 (w.heap.size + 1) q 0 ⟨#[]⟩ (.slice none 0 0)) := fun W1 hB q =>
    ⟨(hV0.below hB).put q 0 ⟨#[]⟩ (.slice none 0 0), below_put (hb2.trans (hB.mono (by simp; omega))) (Nat.le_succ _) q 0 ⟨#[]⟩ (.slice none 0 0)⟩
  have HT0 := Lib.hid hT0
  have HV0 := Lib.hid hV0
  have HC := Lib.hid hc
  have FIN := Lib.hid fin
  clear hT0 hV0 hb2 hc fin ht
  have h01 : w.heap.size ≠ w.heap.size + 1 := by omega
  have d1 : (k == 1) = false := beq_eq_false_iff_ne.2 h1
  have d2 : (k == 2) = true := beq_iff_eq.2 h2
  clear h1 h2
  go_enter Tryz.func26, Tryz.ntmps26
  go_wp2_with fail
  refine (HC.out _).mono ?_
  rintro e W1 ⟨rfl, hB1⟩
  obtain ⟨hV, hB⟩ := FIN.out W1 hB1 2
  obtain ⟨e0, e1⟩ := (HT0.out.below hB1).facts
  obtain ⟨_, f0, f1, f2, f3⟩ := (HV0.out.below hB1).facts
  have HVV := Lib.hid hV
  have HBB := Lib.hid hB
  clear hV hB hB1
  go_wp2_with fail
  have hV := HVV.out
  have hB := HBB.out
  unfold putBox at hV hB
  generalize ((((W1.setCell ⟨w.heap.size + 1, 0, none⟩ (.int .i64 2)).setCell ⟨w.heap.size + 1, 1, none⟩ (.int .i64 0)).setCell ⟨w.heap.size + 1, 2, none⟩ (.string ⟨#[]⟩)).setCell ⟨w.heap.size + 1, 3, none⟩ (.slice none 0 0)) = W9 at hV hB ⊢
  obtain ⟨⟨x0, x1, x2, x3⟩, _⟩ := hV.facts
  exact bodyPost_ret (v := valV 2 0 ⟨#[]⟩ (.slice none 0 0)) (by simp [results, Tryz.results26, go_sem, x0, x1, x2, x3]) rfl ⟨rfl, hB⟩
set_option maxHeartbeats 4000000 in
set_option maxRecDepth 100000 in
theorem rzero_5 (k o : Int) (w : World) (ht : rtB k o = true) (h1 : k ≠ 1) (h2 : k ≠ 2) (h5 : k = 5) :
    Calls Tryz.prog 26 #[.agg #[.int .i64 k, .int .i64 o]] w fun e w' => e = .returned (valV 5 0 ⟨#[]⟩ (.slice none 0 0)) ∧ Below w.heap.size w w' := by
  have hT0 := (TBox.new w k o).alloc (.cells #[.int .i64 0, .int .i64 0, .string ⟨#[]⟩, .slice none 0 0] 30)
  have hV0 := VBox.new (w.alloc (.cells #[.int .i64 k, .int .i64 o] 26)) 0 0 ⟨#[]⟩ (.slice none 0 0)
  rw [World.size_alloc] at hV0
  have hb2 : Below w.heap.size w ((w.alloc (.cells #[.int .i64 k, .int .i64 o] 26)).alloc (.cells #[.int .i64 0, .int .i64 0, .string ⟨#[]⟩, .slice none 0 0] 30)) := below_two _ _
  have hc := fun W => rrightType_any k o W
  rw [ht] at hc
  have fin : ∀ (W1 : World), Below ((w.alloc (.cells #[.int .i64 k, .int .i64 o] 26)).alloc (.cells #[.int .i64 0, .int .i64 0, .string ⟨#[]⟩, .slice none 0 0] 30)).heap.size ((w.alloc (.cells #[.int .i64 k, .int .i64 o] 26)).alloc (.cells #[.int .i64 0, .int .i64 0, .string ⟨#[]⟩, .slice none 0 0] 30)) W1 → ∀ q : Int, VBox (putBox W1 (w.heap.size + 1) q 0 ⟨#[]⟩ (.slice none 0 0)) (w.heap.size + 1) q 0 ⟨#[]⟩ (.slice none 0 0) ∧ Below w.heap.size w (putBox W1 (w.heap.size + 1) q 0 ⟨#[]⟩ (.slice none 0 0)) := fun W1 hB q =>
    ⟨(hV0.below hB).put q 0 ⟨#[]⟩ (.slice none 0 0), below_put (hb2.trans (hB.mono (by simp; omega))) (Nat.le_succ _) q 0 ⟨#[]⟩ (.slice none 0 0)⟩
  have HT0 := Lib.hid hT0
  have HV0 := Lib.hid hV0
  have HC := Lib.hid hc
  have FIN := Lib.hid fin
  clear hT0 hV0 hb2 hc fin ht
  have h01 : w.heap.size ≠ w.heap.size + 1 := by omega
  have d1 : (k == 1) = false := beq_eq_false_iff_ne.2 h1
  have d2 : (k == 2) = false := beq_eq_false_iff_ne.2 h2
  have d5 : (k == 5) = true := beq_iff_eq.2 h5
  clear h1 h2 h5
  go_enter Tryz.func26, Tryz.ntmps26
  go_wp2_with fail
  refine (HC.out _).mono ?_
  rintro e W1 ⟨rfl, hB1⟩
  obtain ⟨hV, hB⟩ := FIN.out W1 hB1 5
  obtain ⟨e0, e1⟩ := (HT0.out.below hB1).facts
  obtain ⟨_, f0, f1, f2, f3⟩ := (HV0.out.below hB1).facts
  have HVV := Lib.hid hV
  have HBB := Lib.hid hB
  clear hV hB hB1
  go_wp2_with fail
  have hV := HVV.out
  have hB := HBB.out
  unfold putBox at hV hB
  generalize ((((W1.setCell ⟨w.heap.size + 1, 0, none⟩ (.int .i64 5)).setCell ⟨w.heap.size + 1, 1, none⟩ (.int .i64 0)).setCell ⟨w.heap.size + 1, 2, none⟩ (.string ⟨#[]⟩)).setCell ⟨w.heap.size + 1, 3, none⟩ (.slice none 0 0)) = W9 at hV hB ⊢
  obtain ⟨⟨x0, x1, x2, x3⟩, _⟩ := hV.facts
  exact bodyPost_ret (v := valV 5 0 ⟨#[]⟩ (.slice none 0 0)) (by simp [results, Tryz.results26, go_sem, x0, x1, x2, x3]) rfl ⟨rfl, hB⟩
set_option maxHeartbeats 4000000 in
set_option maxRecDepth 100000 in
theorem rzero_0 (k o : Int) (w : World) (ht : rtB k o = true) (h1 : k ≠ 1) (h2 : k ≠ 2) (h5 : k ≠ 5) :
    Calls Tryz.prog 26 #[.agg #[.int .i64 k, .int .i64 o]] w fun e w' => e = .returned (valV 0 0 ⟨#[]⟩ (.slice none 0 0)) ∧ Below w.heap.size w w' := by
  have hT0 := (TBox.new w k o).alloc (.cells #[.int .i64 0, .int .i64 0, .string ⟨#[]⟩, .slice none 0 0] 30)
  have hV0 := VBox.new (w.alloc (.cells #[.int .i64 k, .int .i64 o] 26)) 0 0 ⟨#[]⟩ (.slice none 0 0)
  rw [World.size_alloc] at hV0
  have hb2 : Below w.heap.size w ((w.alloc (.cells #[.int .i64 k, .int .i64 o] 26)).alloc (.cells #[.int .i64 0, .int .i64 0, .string ⟨#[]⟩, .slice none 0 0] 30)) := below_two _ _
  have hc := fun W => rrightType_any k o W
  rw [ht] at hc
  have fin : ∀ (W1 : World), Below ((w.alloc (.cells #[.int .i64 k, .int .i64 o] 26)).alloc (.cells #[.int .i64 0, .int .i64 0, .string ⟨#[]⟩, .slice none 0 0] 30)).heap.size ((w.alloc (.cells #[.int .i64 k, .int .i64 o] 26)).alloc (.cells #[.int .i64 0, .int .i64 0, .string ⟨#[]⟩, .slice none 0 0] 30)) W1 → ∀ q : Int, VBox (putBox W1 (w.heap.size + 1) q 0 ⟨#[]⟩ (.slice none 0 0)) (w.heap.size + 1) q 0 ⟨#[]⟩ (.slice none 0 0) ∧ Below w.heap.size w (putBox W1 (w.heap.size + 1) q 0 ⟨#[]⟩ (.slice none 0 0)) := fun W1 hB q =>
    ⟨(hV0.below hB).put q 0 ⟨#[]⟩ (.slice none 0 0), below_put (hb2.trans (hB.mono (by simp; omega))) (Nat.le_succ _) q 0 ⟨#[]⟩ (.slice none 0 0)⟩
  have HT0 := Lib.hid hT0
  have HV0 := Lib.hid hV0
  have HC := Lib.hid hc
  have FIN := Lib.hid fin
  clear hT0 hV0 hb2 hc fin ht
  have h01 : w.heap.size ≠ w.heap.size + 1 := by omega
  have d1 : (k == 1) = false := beq_eq_false_iff_ne.2 h1
  have d2 : (k == 2) = false := beq_eq_false_iff_ne.2 h2
  have d5 : (k == 5) = false := beq_eq_false_iff_ne.2 h5
  clear h1 h2 h5
  go_enter Tryz.func26, Tryz.ntmps26
  go_wp2_with fail
  refine (HC.out _).mono ?_
  rintro e W1 ⟨rfl, hB1⟩
  obtain ⟨hV, hB⟩ := FIN.out W1 hB1 0
  obtain ⟨e0, e1⟩ := (HT0.out.below hB1).facts
  obtain ⟨_, f0, f1, f2, f3⟩ := (HV0.out.below hB1).facts
  have HVV := Lib.hid hV
  have HBB := Lib.hid hB
  clear hV hB hB1
  go_wp2_with fail
  have hV := HVV.out
  have hB := HBB.out
  unfold putBox at hV hB
  generalize ((((W1.setCell ⟨w.heap.size + 1, 0, none⟩ (.int .i64 0)).setCell ⟨w.heap.size + 1, 1, none⟩ (.int .i64 0)).setCell ⟨w.heap.size + 1, 2, none⟩ (.string ⟨#[]⟩)).setCell ⟨w.heap.size + 1, 3, none⟩ (.slice none 0 0)) = W9 at hV hB ⊢
  obtain ⟨⟨x0, x1, x2, x3⟩, _⟩ := hV.facts
  exact bodyPost_ret (v := valV 0 0 ⟨#[]⟩ (.slice none 0 0)) (by simp [results, Tryz.results26, go_sem, x0, x1, x2, x3]) rfl ⟨rfl, hB⟩
theorem rzero_any (k o : Int) (w : World) :
    Calls Tryz.prog 26 #[.agg #[.int .i64 k, .int .i64 o]] w fun e w' => e = .returned (valV (zeroK k o) 0 ⟨#[]⟩ (.slice none 0 0)) ∧ Below w.heap.size w w' := by
  cases ht : rtB k o with
  | false =>
    rw [show zeroK k o = 0 from by unfold zeroK; rw [ht, if_neg (by simp)]]
    exact rzero_bad k o w ht
  | true =>
    by_cases h1 : k = 1
    · rw [show zeroK k o = 1 from by unfold zeroK; rw [if_pos ⟨ht, by omega, by omega⟩]; exact h1]
      exact rzero_1 k o w ht h1
    by_cases h2 : k = 2
    · rw [show zeroK k o = 2 from by unfold zeroK; rw [if_pos ⟨ht, by omega, by omega⟩]; exact h2]
      exact rzero_2 k o w ht h1 h2
    by_cases h5 : k = 5
    · rw [show zeroK k o = 5 from by unfold zeroK; rw [if_pos ⟨ht, by omega, by omega⟩]; exact h5]
      exact rzero_5 k o w ht h1 h2 h5
    have hz : zeroK k o = 0 := by
      unfold zeroK
      have ht' := ht
      unfold rtB at ht'
      rw [if_neg h5] at ht'
      have := of_decide_eq_true ht'
      rw [if_neg (by omega)]
    rw [hz]
    exact rzero_0 k o w ht h1 h2 h5
end Go.Proofs.YtmijlcilnaeppaaGreatDoor

/- moraineref01.Num, moraineref01.Text. -/
set_option linter.unusedSimpArgs false
set_option linter.unusedVariables false
namespace Go.Proofs.YtmijlcilnaeppaaGreatDoor
open Go Go.RowKit Go.Shelf

theorem infoI64 : (Tryz.prog.info? 3).map (fun i => (i.zero, i.size, i.bytes)) = some (some (.int .i64 0), 1, 8) := by kernel_rfl
def nnats (gs : List Nat) : List Value := gs.map (fun (g : Nat) => Value.int .i64 ((g : Nat) : Int))
theorem nnats_append (a b : List Nat) : nnats (a ++ b) = nnats a ++ nnats b := List.map_append
theorem nnats_at (gs : List Nat) (i : Nat) (h : i < gs.length) : (nnats gs)[i]? = some (.int .i64 ((gs[i] : Nat) : Int)) := by
  unfold nnats
  rw [List.getElem?_map, List.getElem?_eq_getElem h]; rfl
theorem laidOf_at : ∀ (l : List UInt8) (i : Nat) (h : i < l.length), (Wire.laidOf l)[i]? = some (if i + 1 < l.length then l[i] + 128 else l[i])
  | [b], 0, _ => by simp [Wire.laidOf]
  | b :: c :: r, 0, _ => by simp [Wire.laidOf]
  | b :: c :: r, i + 1, h => by
    have := laidOf_at (c :: r) i (by simpa using h)
    simp only [Wire.laidOf, List.getElem?_cons_succ, this]
    simp
theorem byte_text (b : UInt8) (w : World) : (convert 54 9 (.slice (some ⟨w.heap.size, 0, none⟩) 1 1)).run Tryz.prog (w.alloc (.cells #[.int .u8 (b.toNat : Int)] 5)) =
    .ok (.string ⟨#[b]⟩) (w.alloc (.cells #[.int .u8 (b.toNat : Int)] 5)) := by
  have := run_convert_bytes_back (P := Tryz.prog) (w.alloc (.cells #[.int .u8 (b.toNat : Int)] 5)) 54 9 5 ⟨w.heap.size, 0, none⟩ 1 [b] Tryz.underlying54 Tryz.underlying5 Tryz.underlying9 (fun j hj => by
    obtain rfl : j = 0 := by simpa using hj
    exact cell_of_row _ w.heap.size 0 #[.int .u8 (b.toNat : Int)] 5 (0, 0) (World.alloc_heap_new w _))
  exact this
theorem restGroups_lt : ∀ (k r : Nat), r < k → ∀ g ∈ Wire.restGroups r, g < 128
  | 0, r, h => by omega
  | k + 1, r, h => by
    intro g hg
    by_cases h0 : 0 < r
    · rw [Wire.restGroups_pos h0] at hg
      rcases List.mem_cons.1 hg with rfl | hg
      · omega
      · exact restGroups_lt k (r / 128) (by omega) g hg
    · obtain rfl : r = 0 := by omega
      rw [Wire.restGroups_zero] at hg; cases hg
theorem groupsM_lt (m s : Nat) (hs : s ≤ 1) : ∀ g ∈ Wire.groupsM m s, g < 128 := by
  intro g hg
  unfold Wire.groupsM at hg
  rcases List.mem_cons.1 hg with rfl | hg
  · omega
  · exact restGroups_lt _ _ (Nat.lt_succ_self _) g hg
/-- a number's bytes, one by one -/
theorem num_step (n : Int) (i : Nat) (h : i < (Wire.groupsM (Wire.mOf n) (Wire.sOf n)).length) : ∃ b : UInt8, (b.toNat : Int) = ((Wire.groupsM (Wire.mOf n) (Wire.sOf n))[i] : Nat) + (if i + 1 < (Wire.groupsM (Wire.mOf n) (Wire.sOf n)).length then 128 else 0) ∧ (Wire.num n).take (i + 1) = (Wire.num n).take i ++ [b] := by
  have hs : Wire.sOf n ≤ 1 := by unfold Wire.sOf; split <;> omega
  have hlt := groupsM_lt (Wire.mOf n) (Wire.sOf n) hs _ (List.getElem_mem h)
  have hl : (Wire.groups n).length = (Wire.groupsM (Wire.mOf n) (Wire.sOf n)).length := by unfold Wire.groups; rw [List.length_map]
  have hat := laidOf_at (Wire.groups n) i (by omega)
  have hg : (Wire.groups n)[i]'(by omega) = UInt8.ofNat (Wire.groupsM (Wire.mOf n) (Wire.sOf n))[i] := by simp [Wire.groups]
  rw [hg, hl] at hat
  generalize (Wire.groupsM (Wire.mOf n) (Wire.sOf n))[i] = g at hat hlt ⊢
  have hn : i < (Wire.num n).length := by rw [Wire.num_length]; omega
  refine ⟨(Wire.num n)[i], ?_, List.take_succ_eq_append_getElem hn⟩
  have e : (Wire.num n)[i] = if i + 1 < (Wire.groupsM (Wire.mOf n) (Wire.sOf n)).length then UInt8.ofNat g + 128 else UInt8.ofNat g := by
    have h2 : (Wire.num n)[i]? = some ((Wire.num n)[i]) := List.getElem?_eq_getElem hn
    unfold Wire.num at h2 ⊢
    rw [hat] at h2
    exact (Option.some.inj h2).symm
  rw [e]
  split
  · rw [Wire.add128 (by rw [Wire.ofNat_toNat (by omega)]; exact hlt), Wire.ofNat_toNat (by omega)]; omega
  · rw [Wire.ofNat_toNat (by omega)]; omega

set_option maxHeartbeats 8000000 in
set_option maxRecDepth 100000 in
theorem rnum_any (n : Int) (h0 : -9223372036854775808 ≤ n) (h1 : n ≤ 9223372036854775807) (w : World) :
    Calls Tryz.prog 61 #[.int .i64 n] w fun e w' => e = .returned (.string ⟨(Wire.num n).toArray⟩) ∧ Below w.heap.size w w' := by
  obtain ⟨i0, hi, hz0, hz1, hz2⟩ := info_parts infoI64
  have hgl : (Wire.groupsM (Wire.mOf n) (Wire.sOf n)).length ≤ 10 := by
    have := Wire.groups_length n h0 h1
    unfold Wire.groups at this
    rwa [List.length_map] at this
  have hnl : (Wire.num n).length = (Wire.groupsM (Wire.mOf n) (Wire.sOf n)).length := by rw [Wire.num_length]; unfold Wire.groups; rw [List.length_map]
  have hstep := num_step n
  have htake : ∀ i, i = (Wire.groupsM (Wire.mOf n) (Wire.sOf n)).length → (Wire.num n).take i = Wire.num n := fun i hi => by rw [hi, ← hnl, List.take_length]
  have htl : ∀ i, ((Wire.num n).take i).length ≤ 10 := fun i => by rw [List.length_take]; omega
  have hgm : Wire.groupsM (Wire.mOf n) (Wire.sOf n) = [Wire.mOf n % 64 * 2 + Wire.sOf n] ++ Wire.restGroups (Wire.mOf n / 64) := rfl
  have hm0 : n < 0 → -1 - n = ((Wire.mOf n : Nat) : Int) ∧ Wire.sOf n = 1 := fun h => by unfold Wire.mOf Wire.sOf; rw [if_pos h, if_pos h]; omega
  have hm1 : ¬ n < 0 → n = ((Wire.mOf n : Nat) : Int) ∧ Wire.sOf n = 0 := fun h => by unfold Wire.mOf Wire.sOf; rw [if_neg h, if_neg h]; omega
  have hmx : Wire.mOf n ≤ 9223372036854775807 := by unfold Wire.mOf; split <;> omega
  generalize Wire.num n = L at *
  generalize hG : Wire.groupsM (Wire.mOf n) (Wire.sOf n) = G at *
  generalize Wire.mOf n = m at *
  generalize Wire.sOf n = sg at *
  have HSTEP := Lib.hid hstep
  have HTAKE := Lib.hid htake
  have HTL := Lib.hid htl
  have HGM := Lib.hid hgm
  clear hstep htake htl hgm hnl hG

  by_cases hn : n < 0
  · obtain ⟨em, rfl⟩ := hm0 hn
    clear hm0 hm1
    have hn' : decide (n < 0) = true := decide_eq_true hn
    have ht : (2 : Int) * ((m : Int) % 64) + 1 = ((m % 64 * 2 + 1 : Nat) : Int) := by omega
    go_enter Tryz.func61, Tryz.ntmps61
    go_wp2_with (at_builtin; refine wpList_append_lies _ rfl _ _ _ rfl w.heap.size 3 i0 _ 1 8 Tryz.underlying38 hi hz0 hz1 hz2 rfl (by omega) _ 0 _ rfl (World.ownsRow_nil _ _ _ _) ⟨w.heap.size, 0, none⟩ 1 1 [.int .i64 ((m % 64 * 2 + 1 : Nat) : Int)] rfl rfl (World.news_of_block (cs := #[.int .i64 ((m % 64 * 2 + 1 : Nat) : Int)]) (t := 3) (fr := (0, 0)) (by have h := World.alloc_heap_new w (.cells #[.int .i64 ((m % 64 * 2 + 1 : Nat) : Int)] 3); exact h)) (by simp [Value.oneCell']) (by omega) (by simp [maxLen] <;> omega) (by omega) (by simp <;> omega) (w.heap.size + 1) (by simp) ?_; intro gg cap w2 hown1 hgrow hat hlt2)
    have hB3 := ((Below.refl _ w).alloc (Nat.le_refl _) (.cells #[.int .i64 ((m % 64 * 2 + 1 : Nat) : Int)] 3)).grown hgrow (by simp <;> omega) (fun g hg => by cases hg)
    clear hgrow hat hlt2
    go_loopw [3, 5] (fun s3 s5 wr => ∃ (r : Nat) (gs : List Nat) (vp : Option Addr) (vc : Nat), s3 = .int .i64 (r : Int) ∧ r ≤ 9223372036854775807 ∧ G = gs ++ Wire.restGroups r ∧ s5 = .slice vp gs.length vc ∧ wr.ownsRow w.heap.size 3 1 (.slice vp gs.length vc) gs.length (nnats gs) ∧ Below w.heap.size w wr) (fun s3 _ _ => (intOf s3).toNat)
    case atStart => exact ⟨m / 64, [m % 64 * 2 + 1], _, _, by go_num, by omega, HGM.out, rfl, hown1, hB3⟩
    case round =>
      obtain ⟨r, gs, vp, vc, rfl, hr, hgs, rfl, hown, hB⟩ := hrel
      clear hown1 hB3 HGM
      have hwz : w.heap.size ≤ wr.heap.size := hB.size
      have hgl2 : gs.length ≤ 10 := by have := congrArg List.length hgs; rw [List.length_append] at this; omega
      have HGS := Lib.hid hgs
      clear hgs
      by_cases hr0 : 0 < r
      · have d1 : decide ((0 : Int) < (r : Int)) = true := decide_eq_true (by omega)
        have d2 : (0 : Int) < (r : Int) := by omega
        have HOWN := Lib.hid hown
        have HBB := Lib.hid hB
        clear hown hB
        go_wp2_with (at_builtin; refine wpList_append_lies _ rfl _ _ _ rfl w.heap.size 3 i0 _ 1 8 Tryz.underlying38 hi hz0 hz1 hz2 rfl (by omega) _ gs.length _ rfl (HOWN.out.alloc _) ⟨wr.heap.size, 0, none⟩ 1 1 [.int .i64 ((r : Int) % 128)] rfl rfl (World.news_of_block (cs := #[.int .i64 ((r : Int) % 128)]) (t := 3) (fr := (0, 0)) (by have h := World.alloc_heap_new wr (.cells #[.int .i64 ((r : Int) % 128)] 3); exact h)) (by simp [Value.oneCell']) (by omega) (by simp [maxLen] <;> omega) (by omega) (by simp <;> omega) (wr.heap.size + 1) (by simp) ?_; intro gg cap w2 hown1 hgrow hat hlt2)
        have hgo := HOWN.out.lt
        have hBf := (HBB.out.alloc (by have := HBB.out.size; omega) (.cells #[.int .i64 ((r : Int) % 128)] 3)).grown hgrow (by simp <;> omega) (fun g hg => by have := (hgo g hg).1; omega)
        exact ⟨⟨r / 128, gs ++ [r % 128], _, cap, by go_num, by omega, by rw [HGS.out, Wire.restGroups_pos hr0]; simp, by rw [List.length_append]; rfl, by rw [nnats_append, List.length_append]; exact hown1, hBf⟩, by simp [intOf]; omega⟩
      · obtain rfl : r = 0 := by omega
        have hgs : gs = G := by rw [HGS.out, Wire.restGroups_zero, List.append_nil]
        subst hgs
        have hL := Lies.own hown
        have HL := Lib.hid hL
        clear hown hL
        go_wp2_with fail
        go_loopw [6, 7] (fun s6 s7 wr => ∃ i : Nat, i ≤ gs.length ∧ s7 = .int .i64 (i : Int) ∧ s6 = .string ⟨(L.take i).toArray⟩ ∧ Below w.heap.size w wr ∧ Lies wr (.slice vp gs.length vc) gs.length 1 (nnats gs)) (fun _ s7 _ => gs.length - (intOf s7).toNat)
        case atStart => exact ⟨0, by omega, rfl, by simp, hB, HL.out⟩
        case round =>
          obtain ⟨i, hil, rfl, rfl, hB, hL⟩ := hrel
          clear HL
          by_cases hlt : i < gs.length
          · have d1 : decide ((i : Int) < (gs.length : Int)) = true := decide_eq_true (by omega)
            have d0 : (0 : Int) ≤ (i : Int) := by omega
            have d3 : (i : Int) < (gs.length : Int) := by omega
            have hL0 := hL
            have HLL := Lib.hid hL0
            clear hL0
            obtain ⟨b, off, rfl, hb, hc⟩ := hL.at (by omega)
            have z0 : wr.cell? ⟨b, off + i, none⟩ = some (.int .i64 ((gs[i]'hlt : Nat) : Int)) := hc _ _ (nnats_at gs i hlt)
            obtain ⟨bb, hb1, hb2⟩ := HSTEP.out i hlt
            have htl := HTL.out i
            have hz : (⟨(L.take i).toArray⟩ : ByteArray).size ≤ 10 := by
              have : (⟨(L.take i).toArray⟩ : ByteArray).size = (L.take i).length := List.size_toArray
              omega
            have hjoin : (⟨(L.take i).toArray⟩ : ByteArray) ++ { data := #[bb] } = ⟨(L.take (i + 1)).toArray⟩ := by rw [hb2]; apply ByteArray.ext; simp
            have hcv := byte_text bb wr
            have hBn := hB.alloc hB.size (.cells #[.int .u8 (bb.toNat : Int)] 5)
            have hLn := HLL.out.below ((Below.refl _ wr).alloc (Nat.le_refl _) (.cells #[.int .u8 (bb.toNat : Int)] 5))
            have hbl : (bb.toNat : Int) ≤ 255 := by have := bb.toNat_lt; omega
            have HBN := Lib.hid hBn
            have HLN := Lib.hid hLn
            generalize gs[i]'hlt = g at z0 hb1
            clear hc hb hb2 htl hB hL HLL hBn hLn
            generalize (⟨(L.take i).toArray⟩ : ByteArray) = S at hjoin hz ⊢
            by_cases hl : i + 1 < gs.length
            · have d4 : decide ((i : Int) + 1 < (gs.length : Int)) = true := decide_eq_true (by omega)
              rw [if_pos hl] at hb1
              have e1 : (g : Int) + 128 = (bb.toNat : Int) := hb1.symm
              clear hb1
              go_wp2_with fail
              exact ⟨⟨i + 1, by omega, by go_num, by rw [← hjoin], HBN.out, HLN.out⟩, by simp [intOf]; omega⟩
            · have d4 : decide ((i : Int) + 1 < (gs.length : Int)) = false := decide_eq_false (by omega)
              rw [if_neg hl] at hb1
              have e1 : (g : Int) = (bb.toNat : Int) := by omega
              rw [e1] at z0
              clear hb1 e1
              go_wp2_with fail
              exact ⟨⟨i + 1, by omega, by go_num, by rw [← hjoin], HBN.out, HLN.out⟩, by simp [intOf]; omega⟩
          · have d1 : decide ((i : Int) < (gs.length : Int)) = false := decide_eq_false (by omega)
            have ht := HTAKE.out i (by omega)
            have HT := Lib.hid ht
            clear ht
            go_wp2_with fail
            go_ret
            exact ⟨by rw [HT.out]; rfl, hB⟩
  · obtain ⟨em, rfl⟩ := hm1 hn
    clear hm0 hm1
    subst em
    have hn' : decide ((m : Int) < 0) = false := decide_eq_false hn
    have ht : (2 : Int) * ((m : Int) % 64) = ((m % 64 * 2 + 0 : Nat) : Int) := by omega
    have ht0 : (2 : Int) * ((m : Int) % 64) + 0 = ((m % 64 * 2 + 0 : Nat) : Int) := by omega
    go_enter Tryz.func61, Tryz.ntmps61
    go_wp2_with (at_builtin; refine wpList_append_lies _ rfl _ _ _ rfl w.heap.size 3 i0 _ 1 8 Tryz.underlying38 hi hz0 hz1 hz2 rfl (by omega) _ 0 _ rfl (World.ownsRow_nil _ _ _ _) ⟨w.heap.size, 0, none⟩ 1 1 [.int .i64 ((m % 64 * 2 + 0 : Nat) : Int)] rfl rfl (World.news_of_block (cs := #[.int .i64 ((m % 64 * 2 + 0 : Nat) : Int)]) (t := 3) (fr := (0, 0)) (by have h := World.alloc_heap_new w (.cells #[.int .i64 ((m % 64 * 2 + 0 : Nat) : Int)] 3); exact h)) (by simp [Value.oneCell']) (by omega) (by simp [maxLen] <;> omega) (by omega) (by simp <;> omega) (w.heap.size + 1) (by simp) ?_; intro gg cap w2 hown1 hgrow hat hlt2)
    have hB3 := ((Below.refl _ w).alloc (Nat.le_refl _) (.cells #[.int .i64 ((m % 64 * 2 + 0 : Nat) : Int)] 3)).grown hgrow (by simp <;> omega) (fun g hg => by cases hg)
    clear hgrow hat hlt2
    go_loopw [3, 5] (fun s3 s5 wr => ∃ (r : Nat) (gs : List Nat) (vp : Option Addr) (vc : Nat), s3 = .int .i64 (r : Int) ∧ r ≤ 9223372036854775807 ∧ G = gs ++ Wire.restGroups r ∧ s5 = .slice vp gs.length vc ∧ wr.ownsRow w.heap.size 3 1 (.slice vp gs.length vc) gs.length (nnats gs) ∧ Below w.heap.size w wr) (fun s3 _ _ => (intOf s3).toNat)
    case atStart => exact ⟨m / 64, [m % 64 * 2 + 0], _, _, by go_num, by omega, HGM.out, rfl, hown1, hB3⟩
    case round =>
      obtain ⟨r, gs, vp, vc, rfl, hr, hgs, rfl, hown, hB⟩ := hrel
      clear hown1 hB3 HGM
      have hwz : w.heap.size ≤ wr.heap.size := hB.size
      have hgl2 : gs.length ≤ 10 := by have := congrArg List.length hgs; rw [List.length_append] at this; omega
      have HGS := Lib.hid hgs
      clear hgs
      by_cases hr0 : 0 < r
      · have d1 : decide ((0 : Int) < (r : Int)) = true := decide_eq_true (by omega)
        have d2 : (0 : Int) < (r : Int) := by omega
        have HOWN := Lib.hid hown
        have HBB := Lib.hid hB
        clear hown hB
        go_wp2_with (at_builtin; refine wpList_append_lies _ rfl _ _ _ rfl w.heap.size 3 i0 _ 1 8 Tryz.underlying38 hi hz0 hz1 hz2 rfl (by omega) _ gs.length _ rfl (HOWN.out.alloc _) ⟨wr.heap.size, 0, none⟩ 1 1 [.int .i64 ((r : Int) % 128)] rfl rfl (World.news_of_block (cs := #[.int .i64 ((r : Int) % 128)]) (t := 3) (fr := (0, 0)) (by have h := World.alloc_heap_new wr (.cells #[.int .i64 ((r : Int) % 128)] 3); exact h)) (by simp [Value.oneCell']) (by omega) (by simp [maxLen] <;> omega) (by omega) (by simp <;> omega) (wr.heap.size + 1) (by simp) ?_; intro gg cap w2 hown1 hgrow hat hlt2)
        have hgo := HOWN.out.lt
        have hBf := (HBB.out.alloc (by have := HBB.out.size; omega) (.cells #[.int .i64 ((r : Int) % 128)] 3)).grown hgrow (by simp <;> omega) (fun g hg => by have := (hgo g hg).1; omega)
        exact ⟨⟨r / 128, gs ++ [r % 128], _, cap, by go_num, by omega, by rw [HGS.out, Wire.restGroups_pos hr0]; simp, by rw [List.length_append]; rfl, by rw [nnats_append, List.length_append]; exact hown1, hBf⟩, by simp [intOf]; omega⟩
      · obtain rfl : r = 0 := by omega
        have hgs : gs = G := by rw [HGS.out, Wire.restGroups_zero, List.append_nil]
        subst hgs
        have hL := Lies.own hown
        have HL := Lib.hid hL
        clear hown hL
        go_wp2_with fail
        go_loopw [6, 7] (fun s6 s7 wr => ∃ i : Nat, i ≤ gs.length ∧ s7 = .int .i64 (i : Int) ∧ s6 = .string ⟨(L.take i).toArray⟩ ∧ Below w.heap.size w wr ∧ Lies wr (.slice vp gs.length vc) gs.length 1 (nnats gs)) (fun _ s7 _ => gs.length - (intOf s7).toNat)
        case atStart => exact ⟨0, by omega, rfl, by simp, hB, HL.out⟩
        case round =>
          obtain ⟨i, hil, rfl, rfl, hB, hL⟩ := hrel
          clear HL
          by_cases hlt : i < gs.length
          · have d1 : decide ((i : Int) < (gs.length : Int)) = true := decide_eq_true (by omega)
            have d0 : (0 : Int) ≤ (i : Int) := by omega
            have d3 : (i : Int) < (gs.length : Int) := by omega
            have hL0 := hL
            have HLL := Lib.hid hL0
            clear hL0
            obtain ⟨b, off, rfl, hb, hc⟩ := hL.at (by omega)
            have z0 : wr.cell? ⟨b, off + i, none⟩ = some (.int .i64 ((gs[i]'hlt : Nat) : Int)) := hc _ _ (nnats_at gs i hlt)
            obtain ⟨bb, hb1, hb2⟩ := HSTEP.out i hlt
            have htl := HTL.out i
            have hz : (⟨(L.take i).toArray⟩ : ByteArray).size ≤ 10 := by
              have : (⟨(L.take i).toArray⟩ : ByteArray).size = (L.take i).length := List.size_toArray
              omega
            have hjoin : (⟨(L.take i).toArray⟩ : ByteArray) ++ { data := #[bb] } = ⟨(L.take (i + 1)).toArray⟩ := by rw [hb2]; apply ByteArray.ext; simp
            have hcv := byte_text bb wr
            have hBn := hB.alloc hB.size (.cells #[.int .u8 (bb.toNat : Int)] 5)
            have hLn := HLL.out.below ((Below.refl _ wr).alloc (Nat.le_refl _) (.cells #[.int .u8 (bb.toNat : Int)] 5))
            have hbl : (bb.toNat : Int) ≤ 255 := by have := bb.toNat_lt; omega
            have HBN := Lib.hid hBn
            have HLN := Lib.hid hLn
            generalize gs[i]'hlt = g at z0 hb1
            clear hc hb hb2 htl hB hL HLL hBn hLn
            generalize (⟨(L.take i).toArray⟩ : ByteArray) = S at hjoin hz ⊢
            by_cases hl : i + 1 < gs.length
            · have d4 : decide ((i : Int) + 1 < (gs.length : Int)) = true := decide_eq_true (by omega)
              rw [if_pos hl] at hb1
              have e1 : (g : Int) + 128 = (bb.toNat : Int) := hb1.symm
              clear hb1
              go_wp2_with fail
              exact ⟨⟨i + 1, by omega, by go_num, by rw [← hjoin], HBN.out, HLN.out⟩, by simp [intOf]; omega⟩
            · have d4 : decide ((i : Int) + 1 < (gs.length : Int)) = false := decide_eq_false (by omega)
              rw [if_neg hl] at hb1
              have e1 : (g : Int) = (bb.toNat : Int) := by omega
              rw [e1] at z0
              clear hb1 e1
              go_wp2_with fail
              exact ⟨⟨i + 1, by omega, by go_num, by rw [← hjoin], HBN.out, HLN.out⟩, by simp [intOf]; omega⟩
          · have d1 : decide ((i : Int) < (gs.length : Int)) = false := decide_eq_false (by omega)
            have ht := HTAKE.out i (by omega)
            have HT := Lib.hid ht
            clear ht
            go_wp2_with fail
            go_ret
            exact ⟨by rw [HT.out]; rfl, hB⟩

set_option maxHeartbeats 1000000 in
set_option maxRecDepth 100000 in
theorem rtext_any (s : ByteArray) (hs : s.size ≤ 10000) (w : World) :
    Calls Tryz.prog 62 #[.string s] w fun e w' => e = .returned (.tuple #[.string ⟨(Wire.num s.size ++ s.data.toList).toArray⟩, .int .i64 0]) ∧ Below w.heap.size w w' := by
  have hj : (⟨(Wire.num s.size).toArray⟩ : ByteArray) ++ s = ⟨(Wire.num s.size ++ s.data.toList).toArray⟩ := by apply ByteArray.ext; simp
  have hn := fun W => rnum_any (s.size : Int) (by omega) (by omega) W
  have hl : (⟨(Wire.num s.size).toArray⟩ : ByteArray).size ≤ 10 := by
    have : (⟨(Wire.num s.size).toArray⟩ : ByteArray).size = (Wire.num s.size).length := List.size_toArray
    have := Wire.num_len (s.size : Int) ⟨by omega, by omega⟩
    omega
  have HJ := Lib.hid hj
  generalize (⟨(Wire.num s.size).toArray⟩ : ByteArray) = S at *
  have HN := Lib.hid hn
  clear hn hj
  have d1 : ¬ (10000 : Int) < (s.size : Int) := by omega
  have d2 : decide ((10000 : Int) < (s.size : Int)) = false := decide_eq_false d1
  go_enter Tryz.func62, Tryz.ntmps62
  go_wp2_with fail
  refine (HN.out _).mono ?_
  rintro e W1 ⟨rfl, hB⟩
  go_wp2_with fail
  exact bodyPost_ret (v := .tuple #[.string (S ++ s), .int .i64 0]) (by simp [results, Tryz.results62, go_sem]) rfl ⟨by rw [HJ.out], hB⟩
end Go.Proofs.YtmijlcilnaeppaaGreatDoor

/- moraineref03.bytes, moraineref03.Encode. -/
set_option linter.unusedSimpArgs false
set_option linter.unusedVariables false
namespace Go.Proofs.YtmijlcilnaeppaaGreatDoor
open Go Go.RowKit Go.Shelf

theorem num_size (n : Int) (h0 : -9223372036854775808 ≤ n) (h1 : n ≤ 9223372036854775807) : (⟨(Wire.num n).toArray⟩ : ByteArray).size ≤ 10 := by
  have : (⟨(Wire.num n).toArray⟩ : ByteArray).size = (Wire.num n).length := List.size_toArray
  have := Wire.num_len n ⟨by omega, by omega⟩
  omega
theorem ba_join (a b : List UInt8) : (⟨a.toArray⟩ : ByteArray) ++ ⟨b.toArray⟩ = ⟨(a ++ b).toArray⟩ := by apply ByteArray.ext; simp

set_option maxHeartbeats 4000000 in
set_option maxRecDepth 100000 in
theorem rbytesIn_any (u : V) (hu : u.flatOk = true) (l : Value) (w : World) :
    Calls Tryz.prog 33 #[valV u.k u.n u.s l] w fun e w' => e = .returned (.string ⟨u.bytesIn.toArray⟩) ∧ Below w.heap.size w w' := by
  obtain ⟨⟨hk0, hk4⟩, hs, _, hn1, hn2⟩ := flatOk_parts hu
  obtain ⟨uk, un, us, ul⟩ := u
  simp only [V.k, V.n, V.s] at hk0 hk4 hs hn1 hn2 ⊢
  have hb : Below w.heap.size w (w.alloc (.cells #[.int .i64 uk, .int .i64 un, .string us, l] 30)) := (Below.refl _ _).alloc (Nat.le_refl _) _
  have hV := VBox.new w uk un us l
  have hk := fun W => rnum_any uk (by omega) (by omega) W
  have hn := fun W => rnum_any un (by omega) (by omega) W
  have ht := fun W => rtext_any us (by omega) W
  have zk := num_size uk (by omega) (by omega)
  have zn := num_size un (by omega) (by omega)
  have zs := num_size us.size (by omega) (by omega)
  have zt : (⟨(Wire.num us.size ++ us.data.toList).toArray⟩ : ByteArray).size ≤ 80 := by
    have h1 : (⟨(Wire.num us.size ++ us.data.toList).toArray⟩ : ByteArray).size = (Wire.num us.size ++ us.data.toList).length := List.size_toArray
    have h2 := Wire.num_len (us.size : Int) ⟨by omega, by omega⟩
    have h3 : us.data.toList.length = us.size := by simp
    rw [List.length_append] at h1
    omega
  have HB := Lib.hid hb
  have HV := Lib.hid hV
  show Calls Tryz.prog 33 #[valV uk un us l] w fun e w' => e = .returned (.string ⟨(flatBytes uk un us).toArray⟩) ∧ Below w.heap.size w w'
  unfold flatBytes
  have hc : uk = 0 ∨ uk = 1 ∨ uk = 2 ∨ uk = 3 ∨ uk = 4 := by omega
  have hj : ∀ k : Int, (⟨(Wire.num k).toArray⟩ : ByteArray) ++ ⟨(Wire.num un).toArray⟩ = ⟨(Wire.num k ++ Wire.num un).toArray⟩ := fun k => ba_join _ _
  have hjt : ∀ k : Int, (⟨(Wire.num k).toArray⟩ : ByteArray) ++ ⟨(Wire.num us.size ++ us.data.toList).toArray⟩ = ⟨(Wire.num k ++ (Wire.num us.size ++ us.data.toList)).toArray⟩ := fun k => ba_join _ _
  have HJ := Lib.hid hj
  have HJT := Lib.hid hjt
  clear hb hV hu hj hjt zs
  unfold valV
  obtain ⟨⟨c0, c1, c2, c3⟩, _⟩ := HV.out.facts
  have fin : ∀ W1, Below (w.alloc (.cells #[.int .i64 uk, .int .i64 un, .string us, l] 30)).heap.size (w.alloc (.cells #[.int .i64 uk, .int .i64 un, .string us, l] 30)) W1 → Below w.heap.size w W1 ∧ VBox W1 w.heap.size uk un us l := fun W1 h => ⟨HB.out.trans (h.mono HB.out.size), HV.out.below h⟩
  have FIN := Lib.hid fin
  clear fin
  rcases hc with rfl | rfl | rfl | rfl | rfl
  · rw [if_neg (by decide), if_neg (by decide), List.append_nil]
    have HK := Lib.hid hk
    clear hk hn ht
    generalize (⟨(Wire.num 0).toArray⟩ : ByteArray) = S at *
    go_enter Tryz.func33, Tryz.ntmps33
    go_wp2_with fail
    refine (HK.out _).mono ?_
    rintro e W1 ⟨rfl, hB1⟩
    obtain ⟨hBw, hV1⟩ := FIN.out _ hB1
    clear c0 c1 c2 c3
    obtain ⟨⟨c0, c1, c2, c3⟩, _⟩ := hV1.facts
    go_wp2_with fail
    go_ret
    exact ⟨rfl, hBw⟩
  · rw [if_pos (by decide)]
    have HK := Lib.hid hk
    have HN := Lib.hid hn
    rw [← HJ.out 1]
    clear hk hn ht HJ HJT
    generalize (⟨(Wire.num 1).toArray⟩ : ByteArray) = S at *
    generalize (⟨(Wire.num un).toArray⟩ : ByteArray) = U at *
    go_enter Tryz.func33, Tryz.ntmps33
    go_wp2_with fail
    refine (HK.out _).mono ?_
    rintro e W1 ⟨rfl, hB1⟩
    obtain ⟨hBw, hV1⟩ := FIN.out _ hB1
    clear c0 c1 c2 c3
    obtain ⟨⟨c0, c1, c2, c3⟩, _⟩ := hV1.facts
    go_wp2_with fail
    refine (HN.out _).mono ?_
    rintro e W2 ⟨rfl, hB2⟩
    have hBv := hBw.trans (hB2.mono hBw.size)
    go_wp2_with fail
    go_ret
    exact ⟨rfl, hBv⟩
  · rw [if_neg (by decide), if_pos rfl]
    have HK := Lib.hid hk
    have HT := Lib.hid ht
    rw [← HJT.out 2]
    clear hk hn ht HJ HJT
    generalize (⟨(Wire.num 2).toArray⟩ : ByteArray) = S at *
    generalize (⟨(Wire.num us.size ++ us.data.toList).toArray⟩ : ByteArray) = U at *
    go_enter Tryz.func33, Tryz.ntmps33
    go_wp2_with fail
    refine (HK.out _).mono ?_
    rintro e W1 ⟨rfl, hB1⟩
    obtain ⟨hBw, hV1⟩ := FIN.out _ hB1
    clear c0 c1 c2 c3
    obtain ⟨⟨c0, c1, c2, c3⟩, _⟩ := hV1.facts
    go_wp2_with fail
    refine (HT.out _).mono ?_
    rintro e W2 ⟨rfl, hB2⟩
    have hBv := hBw.trans (hB2.mono hBw.size)
    go_wp2_with fail
    go_ret
    exact ⟨rfl, hBv⟩
  · rw [if_pos (by decide)]
    have HK := Lib.hid hk
    have HN := Lib.hid hn
    rw [← HJ.out 3]
    clear hk hn ht HJ HJT
    generalize (⟨(Wire.num 3).toArray⟩ : ByteArray) = S at *
    generalize (⟨(Wire.num un).toArray⟩ : ByteArray) = U at *
    go_enter Tryz.func33, Tryz.ntmps33
    go_wp2_with fail
    refine (HK.out _).mono ?_
    rintro e W1 ⟨rfl, hB1⟩
    obtain ⟨hBw, hV1⟩ := FIN.out _ hB1
    clear c0 c1 c2 c3
    obtain ⟨⟨c0, c1, c2, c3⟩, _⟩ := hV1.facts
    go_wp2_with fail
    refine (HN.out _).mono ?_
    rintro e W2 ⟨rfl, hB2⟩
    have hBv := hBw.trans (hB2.mono hBw.size)
    go_wp2_with fail
    go_ret
    exact ⟨rfl, hBv⟩
  · rw [if_pos (by decide)]
    have HK := Lib.hid hk
    have HN := Lib.hid hn
    rw [← HJ.out 4]
    clear hk hn ht HJ HJT
    generalize (⟨(Wire.num 4).toArray⟩ : ByteArray) = S at *
    generalize (⟨(Wire.num un).toArray⟩ : ByteArray) = U at *
    go_enter Tryz.func33, Tryz.ntmps33
    go_wp2_with fail
    refine (HK.out _).mono ?_
    rintro e W1 ⟨rfl, hB1⟩
    obtain ⟨hBw, hV1⟩ := FIN.out _ hB1
    clear c0 c1 c2 c3
    obtain ⟨⟨c0, c1, c2, c3⟩, _⟩ := hV1.facts
    go_wp2_with fail
    refine (HN.out _).mono ?_
    rintro e W2 ⟨rfl, hB2⟩
    have hBv := hBw.trans (hB2.mono hBw.size)
    go_wp2_with fail
    go_ret
    exact ⟨rfl, hBv⟩

theorem bytesIn_len {u : V} (h : u.flatOk = true) : u.bytesIn.length ≤ 100 := by
  obtain ⟨hk, hs, _, hn1, hn2⟩ := flatOk_parts h
  have h1 := Wire.num_len u.k ⟨by omega, by omega⟩
  have h2 := Wire.num_len u.n ⟨by omega, by omega⟩
  have h3 := Wire.num_len (u.s.size : Int) ⟨by omega, by omega⟩
  have h4 : u.s.data.toList.length = u.s.size := by simp
  unfold V.bytesIn flatBytes
  rw [List.length_append]
  split
  · omega
  · split
    · rw [List.length_append, h4]; omega
    · simp; omega
theorem bytesMany_len : ∀ (us : List V), (∀ u ∈ us, u.flatOk = true) → (us.flatMap V.bytesIn).length ≤ 100 * us.length
  | [], _ => by simp
  | u :: us, h => by
    have h1 := bytesIn_len (h u List.mem_cons_self)
    have h2 := bytesMany_len us (fun x hx => h x (List.mem_cons_of_mem _ hx))
    rw [List.flatMap_cons, List.length_append, List.length_cons]; omega

set_option maxHeartbeats 4000000 in
set_option maxRecDepth 100000 in
theorem rbytes_list (us : List V) (hl : us.length ≤ 12) (hok : ∀ u ∈ us, u.flatOk = true) (its : List It) (hlen : its.length = us.length) (p : Option Addr) (c : Nat) (w : World) (hlies : Lies w (.slice p its.length c) its.length 4 (itsCells its))
    (hsame : ∀ (i : Nat) (h : i < its.length) (h' : i < us.length), its[i].k = us[i].k ∧ its[i].n = us[i].n ∧ its[i].s = us[i].s) :
    Calls Tryz.prog 33 #[valV 5 0 ⟨#[]⟩ (.slice p its.length c)] w fun e w' => e = .returned (.string ⟨(Wire.num 5 ++ Wire.num us.length ++ us.flatMap V.bytesIn).toArray⟩) ∧ Below w.heap.size w w' := by
  have hb : Below w.heap.size w (w.alloc (.cells #[.int .i64 5, .int .i64 0, .string ⟨#[]⟩, .slice p its.length c] 30)) := (Below.refl _ _).alloc (Nat.le_refl _) _
  have hV := VBox.new w 5 0 ⟨#[]⟩ (.slice p its.length c)
  have hk := fun W => rnum_any 5 (by omega) (by omega) W
  have hn := fun W => rnum_any (its.length : Int) (by omega) (by omega) W
  have zk := num_size 5 (by omega) (by omega)
  have zn := num_size its.length (by omega) (by omega)
  have hj0 : (⟨(Wire.num 5).toArray⟩ : ByteArray) ++ ⟨(Wire.num its.length).toArray⟩ = ⟨(Wire.num 5 ++ Wire.num us.length ++ (us.take 0).flatMap V.bytesIn).toArray⟩ := by rw [ba_join, hlen]; simp
  have hsucc : ∀ (i : Nat) (h : i < us.length), (⟨(Wire.num 5 ++ Wire.num us.length ++ (us.take i).flatMap V.bytesIn).toArray⟩ : ByteArray) ++ ⟨us[i].bytesIn.toArray⟩ = ⟨(Wire.num 5 ++ Wire.num us.length ++ (us.take (i + 1)).flatMap V.bytesIn).toArray⟩ := fun i h => by
    rw [List.take_succ_eq_append_getElem h, List.flatMap_append, ba_join]; simp
  have hend : Wire.num 5 ++ Wire.num us.length ++ (us.take its.length).flatMap V.bytesIn = Wire.num 5 ++ Wire.num us.length ++ us.flatMap V.bytesIn := by rw [hlen, List.take_length]
  have hbd : ∀ i, (⟨(Wire.num 5 ++ Wire.num us.length ++ (us.take i).flatMap V.bytesIn).toArray⟩ : ByteArray).size ≤ 2000 := fun i => by
    have h1 := bytesMany_len (us.take i) (fun u hu => hok u (List.mem_of_mem_take hu))
    have h2 : (us.take i).length ≤ 12 := by rw [List.length_take]; omega
    have h3 : (⟨(Wire.num 5 ++ Wire.num us.length ++ (us.take i).flatMap V.bytesIn).toArray⟩ : ByteArray).size = (Wire.num 5 ++ Wire.num us.length ++ (us.take i).flatMap V.bytesIn).length := List.size_toArray
    have h4 := Wire.num_len 5 ⟨by omega, by omega⟩
    have h5 := Wire.num_len (us.length : Int) ⟨by omega, by omega⟩
    rw [List.length_append, List.length_append] at h3
    omega
  have hti : ∀ (i : Nat) (h : i < us.length), (⟨us[i].bytesIn.toArray⟩ : ByteArray).size ≤ 100 := fun i h => by
    have h1 := bytesIn_len (hok _ (List.getElem_mem h))
    have h3 : (⟨us[i].bytesIn.toArray⟩ : ByteArray).size = us[i].bytesIn.length := List.size_toArray
    omega
  have hcall : ∀ (i : Nat) (h : i < its.length) (h' : i < us.length) (W : World), Calls Tryz.prog 33 #[its[i].v] W fun e w' => e = .returned (.string ⟨us[i].bytesIn.toArray⟩) ∧ Below W.heap.size W w' := fun i h h' W => by
    have := rbytesIn_any us[i] (hok _ (List.getElem_mem h')) (.slice its[i].p its[i].m its[i].c) W
    obtain ⟨e1, e2, e3⟩ := hsame i h h'
    rwa [← e1, ← e2, ← e3] at this
  have HK := Lib.hid hk
  have HN := Lib.hid hn
  have HJ0 := Lib.hid hj0
  have HSUCC := Lib.hid hsucc
  have HEND := Lib.hid hend
  have HBD := Lib.hid hbd
  have HTI := Lib.hid hti
  have HCALL := Lib.hid hcall
  have HLEN := Lib.hid hlen
  have HL := Lib.hid hlies
  have HB := Lib.hid hb
  have HV := Lib.hid hV
  have hl12 : its.length ≤ 12 := by omega
  obtain ⟨⟨c0, c1, c2, c3⟩, _⟩ := hV.facts
  clear hk hn hj0 hsucc hend hbd hti hcall hlen hlies hsame hok hl hb hV
  generalize (⟨(Wire.num 5).toArray⟩ : ByteArray) = S5 at *
  generalize (⟨(Wire.num its.length).toArray⟩ : ByteArray) = SN at *
  go_enter Tryz.func33, Tryz.ntmps33
  go_wp2_with fail
  refine (HK.out _).mono ?_
  rintro e W1 ⟨rfl, hB1⟩
  have hBw := HB.out.trans (hB1.mono HB.out.size)
  have hV1 := HV.out.below hB1
  clear c0 c1 c2 c3
  obtain ⟨⟨c0, c1, c2, c3⟩, _⟩ := hV1.facts
  go_wp2_with fail
  refine (HN.out _).mono ?_
  rintro e W2 ⟨rfl, hB2⟩
  have hBv := hBw.trans (hB2.mono hBw.size)
  have hV2 := hV1.below hB2
  clear c0 c1 c2 c3 hV1 hB1 hB2 hBw
  go_wp2_with fail
  go_loopw [3, 6] (fun s3 s4 wr => ∃ i : Nat, i ≤ its.length ∧ s4 = .int .i64 (i : Int) ∧ s3 = .string ⟨(Wire.num 5 ++ Wire.num us.length ++ (us.take i).flatMap V.bytesIn).toArray⟩ ∧ Below w.heap.size w wr ∧ VBox wr w.heap.size 5 0 ⟨#[]⟩ (.slice p its.length c)) (fun _ s4 _ => its.length - (intOf s4).toNat)
  case atStart => exact ⟨0, by omega, rfl, by rw [HJ0.out], hBv, hV2⟩
  case round =>
    obtain ⟨i, hil, rfl, rfl, hB, hVr⟩ := hrel
    clear hBv hV2
    obtain ⟨⟨c0, c1, c2, c3⟩, _⟩ := hVr.facts
    have hbd := HBD.out i
    by_cases hlt : i < its.length
    · have d1 : decide ((i : Int) < (its.length : Int)) = true := decide_eq_true (by omega)
      have d0 : (0 : Int) ≤ (i : Int) := by omega
      have d3 : (i : Int) < (its.length : Int) := by omega
      have hiu : i < us.length := by have := HLEN.out; omega
      obtain ⟨b, off, rfl, hbb, hc⟩ := HL.out.at (by omega)
      have hcx : ∀ (j : Nat) (u : Value), ((its[i]'hlt).cells)[j]? = some u → wr.cell? ⟨b, off + i * 4 + j, none⟩ = some u := fun j u hu => by
        rw [hB.cell (p := ⟨b, off + i * 4 + j, none⟩) hbb, Nat.add_assoc]
        exact hc _ _ (itsCells_at its i hlt j u hu)
      have hcall := HCALL.out i hlt hiu
      have hti := HTI.out i hiu
      have hj := HSUCC.out i hiu
      generalize (⟨us[i].bytesIn.toArray⟩ : ByteArray) = U at hcall hti hj
      generalize its[i]'hlt = z at hcx hcall
      obtain ⟨yk, yn, ys, yp, ym, yc⟩ := z
      have z0 : wr.cell? ⟨b, off + i * 4, none⟩ = some (.int .i64 yk) := hcx 0 _ rfl
      have z1 := hcx 1 _ rfl
      have z2 := hcx 2 _ rfl
      have z3 := hcx 3 _ rfl
      have HC := Lib.hid hcall
      have HB1 := Lib.hid hB
      have HV1 := Lib.hid hVr
      have HJ := Lib.hid hj
      clear hcx hc hcall hB hVr hj
      generalize (⟨(Wire.num 5 ++ Wire.num us.length ++ (us.take i).flatMap V.bytesIn).toArray⟩ : ByteArray) = S at *
      go_wp2_with fail
      refine (HC.out _).mono ?_
      rintro e W1 ⟨rfl, hB1⟩
      go_wp2_with fail
      exact ⟨⟨i + 1, by omega, by go_num, by rw [← HJ.out], HB1.out.trans (hB1.mono HB1.out.size), HV1.out.below hB1⟩, by simp [intOf]; omega⟩
    · obtain rfl : i = its.length := by omega
      have d1 : decide ((its.length : Int) < (its.length : Int)) = false := decide_eq_false (by omega)
      go_wp2_with fail
      go_ret
      exact ⟨by rw [HEND.out]; rfl, hB⟩

theorem rbytes_any {d : Nat} (v : V) (hok : v.ok = true) (x : It) (w : World) (hx : VAt d w v x) :
    Calls Tryz.prog 33 #[x.v] w fun e w' => e = .returned (.string ⟨v.bytes.toArray⟩) ∧ Below w.heap.size w w' := by
  obtain ⟨hfine, hk, hn, hs, ys, hlen, hlies, hin⟩ := hx.top
  have hm := hx.top.len
  obtain ⟨xk, xn, xs, xp, xm, xc⟩ := x
  simp only at hk hn hs hm hlies
  subst hm
  by_cases h5 : v.k = 5
  · obtain ⟨e, hl, hu⟩ := ok_list hok h5
    have h1 : v.n = 0 := by rw [e]; rfl
    have h2 : v.s = ⟨#[]⟩ := by rw [e]; rfl
    have h := rbytes_list v.l hl (fun u h => (okIn_parts (hu u h)).2) ys hlen xp xc w (by rw [hlen] at hlies ⊢; exact hlies) (fun i a b => ⟨(hin i a b).same.1, (hin i a b).same.2.1, (hin i a b).same.2.2.1⟩)
    have et : v.bytes = Wire.num 5 ++ Wire.num v.l.length ++ v.l.flatMap V.bytesIn := by unfold V.bytes; rw [if_pos h5]
    rw [et]
    rw [hlen] at h
    subst hk hn hs
    rw [← h1, ← h2] at h
    have h5' : (5 : Int) = v.k := h5.symm
    rw [show valV 5 v.n v.s (.slice xp v.l.length xc) = valV v.k v.n v.s (.slice xp v.l.length xc) from by rw [h5]] at h
    exact h
  · have et : v.bytes = v.bytesIn := by unfold V.bytes; rw [if_neg h5]
    rw [et]
    subst hk hn hs
    exact rbytesIn_any v (ok_flat hok h5) (.slice xp v.l.length xc) w

set_option maxHeartbeats 2000000 in
set_option maxRecDepth 100000 in
theorem rencode_any (d : Nat) (v : V) (x : It) (w : World) (hx : VAt d w v x) (hsh : v.short) :
    Calls Tryz.prog 8 #[x.v] w (encPost v w) := by
  have hr := fun W (h : Below w.heap.size w W) => rright_V d v x W (hx.below h) hsh
  have hw := fun (hok : v.ok = true) W (h : Below w.heap.size w W) => rbytes_any v hok x W (hx.below h)
  unfold encPost
  generalize v.ok = ok at hr hw ⊢
  generalize v.bytes = T at hw ⊢
  obtain ⟨xk, xn, xs, xp, xm, xc⟩ := x
  have hV := VBox.new w xk xn xs (.slice xp xm xc)
  have hb : Below w.heap.size w (w.alloc (.cells #[.int .i64 xk, .int .i64 xn, .string xs, .slice xp xm xc] 30)) := (Below.refl _ _).alloc (Nat.le_refl _) _
  have HR := Lib.hid hr
  have HW := Lib.hid hw
  have HB := Lib.hid hb
  have HV := Lib.hid hV
  clear hr hw hb hx
  obtain ⟨⟨c0, c1, c2, c3⟩, _⟩ := hV.facts
  go_enter Tryz.func8, Tryz.ntmps8
  go_wp2_with fail
  refine (HR.out _ HB.out).mono ?_
  rintro e W1 ⟨rfl, hB1⟩
  have hB2 := HB.out.trans (hB1.mono HB.out.size)
  have hV1 := HV.out.below hB1
  clear c0 c1 c2 c3 hB1
  obtain ⟨⟨c0, c1, c2, c3⟩, _⟩ := hV1.facts
  cases ok with
  | false =>
    go_wp2_with fail
    exact bodyPost_ret (v := .tuple #[.string ⟨#[]⟩, .int .i64 30]) (by simp [results, Tryz.results8, go_sem]) rfl ⟨rfl, hB2⟩
  | true =>
    go_wp2_with fail
    refine (HW.out (by trivial) _ hB2).mono ?_
    rintro e W2 ⟨rfl, hB3⟩
    go_wp2_with fail
    exact bodyPost_ret (v := .tuple #[.string ⟨T.toArray⟩, .int .i64 0]) (by simp [results, Tryz.results8, go_sem]) rfl ⟨rfl, hB2.trans (hB3.mono hB2.size)⟩
end Go.Proofs.YtmijlcilnaeppaaGreatDoor
