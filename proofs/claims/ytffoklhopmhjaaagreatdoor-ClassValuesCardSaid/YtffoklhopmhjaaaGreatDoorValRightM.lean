/- val.Right, the other kinds. -/
import Derived.Test.YtffoklhopmhjaaaGreatDoorValRight
import Derived.Laws.Rows
import Derived.RangeFuncRecord
set_option linter.unusedSimpArgs false
set_option linter.unusedVariables false
namespace Go.Proofs.YtffoklhopmhjaaaGreatDoor
open Go Go.RowKit Go.Shelf

set_option maxHeartbeats 2000000 in
set_option maxRecDepth 100000 in
theorem right_other (k n : Int) (hk : k ≠ 0 ∧ k ≠ 1 ∧ k ≠ 2 ∧ k ≠ 3 ∧ k ≠ 4 ∧ k ≠ 5) (s : ByteArray) (p : Option Addr) (m c : Nat) (w : World) :
    Calls Tryz.prog 25 #[valV k n s (.slice p m c)] w fun e w' => e = .returned (.bool false) ∧ Below w.heap.size w w' := by
  obtain ⟨k0, k1, k2, k3, k4, k5⟩ := hk
  have d0 : (k == 0) = false := by rw [beq_eq_false_iff_ne]; omega
  have d1 : (k == 1) = false := by rw [beq_eq_false_iff_ne]; omega
  have d2 : (k == 2) = false := by rw [beq_eq_false_iff_ne]; omega
  have d3 : (k == 3) = false := by rw [beq_eq_false_iff_ne]; omega
  have d4 : (k == 4) = false := by rw [beq_eq_false_iff_ne]; omega
  have d5 : (k == 5) = false := by rw [beq_eq_false_iff_ne]; omega
  go_enter Tryz.func25, Tryz.ntmps25
  go_wp2
  go_ret
  exact ⟨rfl, below_two _ _⟩

theorem cell_first (w : World) (A : Array Value) (t : TypeId) (o' : Obj) (i : Nat) : ((w.alloc (.cells A t)).alloc o').cell? ⟨w.heap.size, i, none⟩ = A[i]? := by
  have h : ((w.alloc (.cells A t)).alloc o').heap[w.heap.size]? = some (.cells A t) := heap_alloc2_old w _ _
  rw [Lib.cell_of_heap h]
theorem cell_second (w : World) (o : Obj) (A : Array Value) (t : TypeId) (i : Nat) : ((w.alloc o).alloc (.cells A t)).cell? ⟨w.heap.size + 1, i, none⟩ = A[i]? := by
  have h : ((w.alloc o).alloc (.cells A t)).heap[w.heap.size + 1]? = some (.cells A t) := by have := World.alloc_heap_new (w.alloc o) (.cells A t); rwa [show (w.alloc o).heap.size = w.heap.size + 1 from by simp] at this
  rw [Lib.cell_of_heap h]

theorem below_two' {w w' : World} (o o' : Obj) (h : Below ((w.alloc o).alloc o').heap.size ((w.alloc o).alloc o') w') : Below w.heap.size w w' :=
  (below_two o o').trans (h.mono (by simp; omega))

set_option maxHeartbeats 2000000 in
set_option maxRecDepth 100000 in
theorem right_text (n : Int) (s : ByteArray) (hsz : s.size ≤ 9223372036854775807) (p : Option Addr) (m c : Nat) (w : World) (hT : Tabs w) :
    Calls Tryz.prog 25 #[valV 2 n s (.slice p m c)] w fun e w' => e = .returned (.bool (decide (n = 0 ∧ (s.size ≤ 60 ∧ textOk s.data.toList = true) ∧ m = 0))) ∧ Below w.heap.size w w' := by
  generalize hr : decide (n = 0 ∧ (s.size ≤ 60 ∧ textOk s.data.toList = true) ∧ m = 0) = r
  have HR := Lib.hid hr; clear hr
  go_enter Tryz.func25, Tryz.ntmps25
  by_cases h1 : s.size ≤ 60
  · have d1 : (s.size : Int) ≤ 60 := by omega
    generalize ht : textOk s.data.toList = t
    have HTX := Lib.hid ht; clear ht
    go_wp2_with fail
    go_at_call 55
    refine (wordsText_any s _ hsz (hT.below (below_two _ _))).mono ?_
    rintro e W ⟨rfl, hB⟩
    rw [HTX.out]
    have hbw := below_two' _ _ hB
    have z2 : w.heap.size + 2 ≤ W.heap.size := by have := hB.size; simpa using this
    have g : ∀ k v, (k = w.heap.size ∨ k = w.heap.size + 1) → ∀ i, (World.cell? ((w.alloc (.cells #[.int .i64 2, .int .i64 n, .string s, .slice p m c] 37)).alloc (.cells #[.int .i64 2, .int .i64 0, .string s, .slice none 0 0] 37)) ⟨k, i, none⟩) = some v → W.cell? ⟨k, i, none⟩ = some v := by
      intro k v hk i hc
      rw [hB.cell (by simp; omega), hc]
    have c1 := g w.heap.size (.int .i64 n) (.inl rfl) 1 (cell_first _ _ _ _ _)
    have c2 := g w.heap.size (.string s) (.inl rfl) 2 (cell_first _ _ _ _ _)
    have c3 := g w.heap.size (.slice p m c) (.inl rfl) 3 (cell_first _ _ _ _ _)
    have b1 := g (w.heap.size + 1) (.int .i64 0) (.inr rfl) 1 (cell_second _ _ _ _ _)
    have b2 := g (w.heap.size + 1) (.string s) (.inr rfl) 2 (cell_second _ _ _ _ _)
    have b3 := g (w.heap.size + 1) (.slice none 0 0) (.inr rfl) 3 (cell_second _ _ _ _ _)
    clear g
    cases t with
    | true =>
      by_cases hn : n = 0
      · have d2 : ((0 : Int) == n) = true := by rw [beq_iff_eq]; omega
        by_cases hm : m = 0
        · have d3 : ((0 : Int) == (m : Int)) = true := by rw [beq_iff_eq]; omega
          go_wp2
          go_ret
          exact ⟨congrArg (fun b => Ending.returned (Value.bool b)) (by rw [← HR.out, HTX.out]; exact (decide_eq_true ⟨hn, ⟨h1, rfl⟩, hm⟩).symm), hbw⟩
        · have d3 : ((0 : Int) == (m : Int)) = false := by rw [beq_eq_false_iff_ne]; omega
          go_wp2
          go_ret
          exact ⟨congrArg (fun b => Ending.returned (Value.bool b)) (by rw [← HR.out]; exact (decide_eq_false (fun h => hm h.2.2)).symm), hbw⟩
      · have d2 : ((0 : Int) == n) = false := by rw [beq_eq_false_iff_ne]; omega
        go_wp2
        go_ret
        exact ⟨congrArg (fun b => Ending.returned (Value.bool b)) (by rw [← HR.out]; exact (decide_eq_false (fun h => hn h.1)).symm), hbw⟩
    | false =>
      go_wp2
      go_ret
      exact ⟨congrArg (fun b => Ending.returned (Value.bool b)) (by rw [← HR.out, HTX.out]; exact (decide_eq_false (fun h => Bool.noConfusion h.2.1.2)).symm), hbw⟩
  · have d1 : ¬ (s.size : Int) ≤ 60 := by omega
    go_wp2_with fail
    go_ret
    exact ⟨congrArg (fun b => Ending.returned (Value.bool b)) (by rw [← HR.out]; exact (decide_eq_false (by omega)).symm), below_two _ _⟩
end Go.Proofs.YtffoklhopmhjaaaGreatDoor
