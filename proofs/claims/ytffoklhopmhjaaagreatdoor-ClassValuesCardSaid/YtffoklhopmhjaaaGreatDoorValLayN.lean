/- val.lay of numbers, references, texts. -/
import Derived.Test.YtffoklhopmhjaaaGreatDoorValLay
set_option linter.unusedSimpArgs false
set_option linter.unusedVariables false
namespace Go.Proofs.YtffoklhopmhjaaaGreatDoor
open Go Go.RowKit Go.Shelf

theorem laid_call {B b : Nat} {l : List UInt8} {w w0 w1 : World} {q : Nat} {cs : Array Value} (h : Laid B b l w w0) (hB : Below w0.heap.size w0 w1) (hlt : B ≤ w0.heap.size) (hq : w0.heap[q]? = some (.cells cs 37 (0, 0))) :
    Laid B b l w w1 ∧ w1.heap[q]? = some (.cells cs 37 (0, 0)) := by
  have hl : ∀ {i : Nat} {o : Obj}, w0.heap[i]? = some o → w1.heap[i]? = some o := fun {i o} hi => (hB.block i (Array.getElem?_eq_some_iff.1 hi).1).trans hi
  exact ⟨⟨Holds.below h.1 hB, h.2.1.trans (hB.mono hlt), fun i o hi hne hc => hl (h.2.2 i o hi hne hc)⟩, hl hq⟩

theorem laid_write {B b : Nat} {l t : List UInt8} {w w0 w1 : World} {q : Nat} {cs : Array Value} (h : Laid B b l w w0) (h1 : Laid B b t w0 w1) (hq : w0.heap[q]? = some (.cells cs 37 (0, 0))) (hb : q ≠ b) :
    Laid B b t w w1 ∧ w1.heap[q]? = some (.cells cs 37 (0, 0)) := ⟨⟨h1.1, h.2.1.trans h1.2.1, h.2.2.trans h1.2.2⟩, box_kept h1 hq hb⟩

theorem laid_box {B b : Nat} {l : List UInt8} {w : World} (h : Holds B b l w) (o : Obj) : Laid B b l w (w.alloc o) :=
  ⟨Lib.IsBuilderF.alloc h o, (Below.refl _ _).alloc (by have := holds_lt h; omega) _, (Lib.OthersKept.refl _ _ _).alloc _⟩

set_option maxHeartbeats 2000000 in
set_option maxRecDepth 100000 in
theorem lay_num (B b : Nat) (l : List UInt8) (n : Int) (hn0 : -9223372036854775808 ≤ n) (hn1 : n ≤ 9223372036854775807) (s : ByteArray) (v : Value) (w : World) (h : Holds B b l w) (hlen : l.length + (Wire.num 1).length + (Wire.num n).length ≤ 140737488355328) :
    Calls Tryz.prog 26 #[.pointer (some ⟨b, 0, none⟩), valV 1 n s v] w fun e w' => e = .returned (.tuple #[]) ∧ Laid B b (l ++ Wire.num 1 ++ Wire.num n) w w' := by
  have hlt := holds_lt h
  have h0 := laid_box h (.cells #[.int .i64 1, .int .i64 n, .string s, v] 37)
  have b0 : (w.alloc (.cells #[.int .i64 1, .int .i64 n, .string s, v] 37)).heap[w.heap.size]? = some (.cells #[.int .i64 1, .int .i64 n, .string s, v] 37 (0, 0)) := World.alloc_heap_new _ _
  go_enter Tryz.func26, Tryz.ntmps26
  go_wp2_with fail
  refine (num_any 1 (by decide) (by decide) _).mono ?_
  rintro e w1 ⟨rfl, hB1⟩
  obtain ⟨h1, b1⟩ := laid_call h0 hB1 (by simp; omega) b0
  go_wp2_with fail
  refine (writeString_laid B b l _ _ h1.1 (by omega)).mono ?_
  rintro e w2 ⟨rfl, hL⟩
  obtain ⟨h2, b2⟩ := laid_write h1 hL b1 (by omega)
  have c0 : w2.cell? ⟨w.heap.size, 0, none⟩ = some (.int .i64 1) := by rw [Lib.cell_of_heap b2]; rfl
  have c1 : w2.cell? ⟨w.heap.size, 1, none⟩ = some (.int .i64 n) := by rw [Lib.cell_of_heap b2]; rfl
  clear h0 b0 h1 b1 hB1 hL
  go_wp2_with fail
  refine (num_any n hn0 hn1 _).mono ?_
  rintro e w3 ⟨rfl, hB3⟩
  obtain ⟨h3, b3⟩ := laid_call h2 hB3 (by have := holds_lt h2.1; omega) b2
  go_wp2_with fail
  refine (writeString_laid B b _ _ _ h3.1 (by rw [List.length_append]; omega)).mono ?_
  rintro e w4 ⟨rfl, hL⟩
  obtain ⟨h4, b4⟩ := laid_write h3 hL b3 (by omega)
  clear h2 b2 h3 b3 hB3 hL c0 c1
  go_wp2_with fail
  go_end0
  exact ⟨rfl, h4⟩

set_option maxHeartbeats 2000000 in
set_option maxRecDepth 100000 in
theorem lay_ref (B b : Nat) (l : List UInt8) (n : Int) (hn0 : -9223372036854775808 ≤ n) (hn1 : n ≤ 9223372036854775807) (s : ByteArray) (v : Value) (w : World) (h : Holds B b l w) (hlen : l.length + (Wire.num 3).length + (Wire.num n).length ≤ 140737488355328) :
    Calls Tryz.prog 26 #[.pointer (some ⟨b, 0, none⟩), valV 3 n s v] w fun e w' => e = .returned (.tuple #[]) ∧ Laid B b (l ++ Wire.num 3 ++ Wire.num n) w w' := by
  have hlt := holds_lt h
  have h0 := laid_box h (.cells #[.int .i64 3, .int .i64 n, .string s, v] 37)
  have b0 : (w.alloc (.cells #[.int .i64 3, .int .i64 n, .string s, v] 37)).heap[w.heap.size]? = some (.cells #[.int .i64 3, .int .i64 n, .string s, v] 37 (0, 0)) := World.alloc_heap_new _ _
  go_enter Tryz.func26, Tryz.ntmps26
  go_wp2_with fail
  refine (num_any 3 (by decide) (by decide) _).mono ?_
  rintro e w1 ⟨rfl, hB1⟩
  obtain ⟨h1, b1⟩ := laid_call h0 hB1 (by simp; omega) b0
  go_wp2_with fail
  refine (writeString_laid B b l _ _ h1.1 (by omega)).mono ?_
  rintro e w2 ⟨rfl, hL⟩
  obtain ⟨h2, b2⟩ := laid_write h1 hL b1 (by omega)
  have c0 : w2.cell? ⟨w.heap.size, 0, none⟩ = some (.int .i64 3) := by rw [Lib.cell_of_heap b2]; rfl
  have c1 : w2.cell? ⟨w.heap.size, 1, none⟩ = some (.int .i64 n) := by rw [Lib.cell_of_heap b2]; rfl
  clear h0 b0 h1 b1 hB1 hL
  go_wp2_with fail
  refine (num_any n hn0 hn1 _).mono ?_
  rintro e w3 ⟨rfl, hB3⟩
  obtain ⟨h3, b3⟩ := laid_call h2 hB3 (by have := holds_lt h2.1; omega) b2
  go_wp2_with fail
  refine (writeString_laid B b _ _ _ h3.1 (by rw [List.length_append]; omega)).mono ?_
  rintro e w4 ⟨rfl, hL⟩
  obtain ⟨h4, b4⟩ := laid_write h3 hL b3 (by omega)
  clear h2 b2 h3 b3 hB3 hL c0 c1
  go_wp2_with fail
  go_end0
  exact ⟨rfl, h4⟩

set_option maxHeartbeats 2000000 in
set_option maxRecDepth 100000 in
theorem lay_weak (B b : Nat) (l : List UInt8) (n : Int) (hn0 : -9223372036854775808 ≤ n) (hn1 : n ≤ 9223372036854775807) (s : ByteArray) (v : Value) (w : World) (h : Holds B b l w) (hlen : l.length + (Wire.num 4).length + (Wire.num n).length ≤ 140737488355328) :
    Calls Tryz.prog 26 #[.pointer (some ⟨b, 0, none⟩), valV 4 n s v] w fun e w' => e = .returned (.tuple #[]) ∧ Laid B b (l ++ Wire.num 4 ++ Wire.num n) w w' := by
  have hlt := holds_lt h
  have h0 := laid_box h (.cells #[.int .i64 4, .int .i64 n, .string s, v] 37)
  have b0 : (w.alloc (.cells #[.int .i64 4, .int .i64 n, .string s, v] 37)).heap[w.heap.size]? = some (.cells #[.int .i64 4, .int .i64 n, .string s, v] 37 (0, 0)) := World.alloc_heap_new _ _
  go_enter Tryz.func26, Tryz.ntmps26
  go_wp2_with fail
  refine (num_any 4 (by decide) (by decide) _).mono ?_
  rintro e w1 ⟨rfl, hB1⟩
  obtain ⟨h1, b1⟩ := laid_call h0 hB1 (by simp; omega) b0
  go_wp2_with fail
  refine (writeString_laid B b l _ _ h1.1 (by omega)).mono ?_
  rintro e w2 ⟨rfl, hL⟩
  obtain ⟨h2, b2⟩ := laid_write h1 hL b1 (by omega)
  have c0 : w2.cell? ⟨w.heap.size, 0, none⟩ = some (.int .i64 4) := by rw [Lib.cell_of_heap b2]; rfl
  have c1 : w2.cell? ⟨w.heap.size, 1, none⟩ = some (.int .i64 n) := by rw [Lib.cell_of_heap b2]; rfl
  clear h0 b0 h1 b1 hB1 hL
  go_wp2_with fail
  refine (num_any n hn0 hn1 _).mono ?_
  rintro e w3 ⟨rfl, hB3⟩
  obtain ⟨h3, b3⟩ := laid_call h2 hB3 (by have := holds_lt h2.1; omega) b2
  go_wp2_with fail
  refine (writeString_laid B b _ _ _ h3.1 (by rw [List.length_append]; omega)).mono ?_
  rintro e w4 ⟨rfl, hL⟩
  obtain ⟨h4, b4⟩ := laid_write h3 hL b3 (by omega)
  clear h2 b2 h3 b3 hB3 hL c0 c1
  go_wp2_with fail
  go_end0
  exact ⟨rfl, h4⟩

end Go.Proofs.YtffoklhopmhjaaaGreatDoor
