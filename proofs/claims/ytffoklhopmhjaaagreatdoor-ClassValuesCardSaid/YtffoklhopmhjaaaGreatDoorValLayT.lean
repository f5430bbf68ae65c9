/- val.lay of texts; of any value that is no list. -/
import Derived.Test.YtffoklhopmhjaaaGreatDoorValLayN
set_option linter.unusedSimpArgs false
set_option linter.unusedVariables false
namespace Go.Proofs.YtffoklhopmhjaaaGreatDoor
open Go Go.RowKit Go.Shelf

set_option maxHeartbeats 2000000 in
set_option maxRecDepth 100000 in
theorem lay_text (B b : Nat) (l : List UInt8) (n : Int) (s : ByteArray) (hs : s.size ≤ 10000) (v : Value) (w : World) (h : Holds B b l w) (hlen : l.length + (Wire.num 2).length + (Wire.num s.size).length + s.size ≤ 140737488355328) :
    Calls Tryz.prog 26 #[.pointer (some ⟨b, 0, none⟩), valV 2 n s v] w fun e w' => e = .returned (.tuple #[]) ∧ Laid B b (l ++ Wire.num 2 ++ (Wire.num s.size ++ s.data.toList)) w w' := by
  have hlt := holds_lt h
  have hsl : s.data.toList.length = s.size := by simp
  have hlen2 : (l ++ Wire.num 2).length + (Wire.num s.size ++ s.data.toList).length ≤ 140737488355328 := by rw [List.length_append, List.length_append, hsl]; omega
  have HLEN := Lib.hid hlen2
  clear hlen2 hsl
  have h0 := laid_box h (.cells #[.int .i64 2, .int .i64 n, .string s, v] 37)
  have b0 : (w.alloc (.cells #[.int .i64 2, .int .i64 n, .string s, v] 37)).heap[w.heap.size]? = some (.cells #[.int .i64 2, .int .i64 n, .string s, v] 37 (0, 0)) := World.alloc_heap_new _ _
  go_enter Tryz.func26, Tryz.ntmps26
  go_wp2_with fail
  refine (num_any 2 (by decide) (by decide) _).mono ?_
  rintro e w1 ⟨rfl, hB1⟩
  obtain ⟨h1, b1⟩ := laid_call h0 hB1 (by simp; omega) b0
  go_wp2_with fail
  refine (writeString_laid B b l _ _ h1.1 (by omega)).mono ?_
  rintro e w2 ⟨rfl, hL⟩
  obtain ⟨h2, b2⟩ := laid_write h1 hL b1 (by omega)
  have c0 : w2.cell? ⟨w.heap.size, 0, none⟩ = some (.int .i64 2) := by rw [Lib.cell_of_heap b2]; rfl
  have c2 : w2.cell? ⟨w.heap.size, 2, none⟩ = some (.string s) := by rw [Lib.cell_of_heap b2]; rfl
  clear h0 b0 h1 b1 hB1 hL
  go_wp2_with fail
  refine (text_any s hs _).mono ?_
  rintro e w3 ⟨rfl, hB3⟩
  obtain ⟨h3, b3⟩ := laid_call h2 hB3 (by have := holds_lt h2.1; omega) b2
  go_wp2_with fail
  refine (writeString_laid B b _ _ _ h3.1 HLEN.out).mono ?_
  rintro e w4 ⟨rfl, hL⟩
  obtain ⟨h4, b4⟩ := laid_write h3 hL b3 (by omega)
  clear h2 b2 h3 b3 hB3 hL c0 c2
  go_wp2_with fail
  go_end0
  exact ⟨rfl, h4⟩

/-- the bytes of a value that is no list -/
def flatBytes (k n : Int) (s : ByteArray) : List UInt8 := Wire.num k ++ if k = 1 ∨ k = 3 ∨ k = 4 then Wire.num n else if k = 2 then Wire.num s.size ++ s.data.toList else []

theorem lay_flat (B b : Nat) (l : List UInt8) (k n : Int) (hk : k ≠ 5) (hk0 : -9223372036854775808 ≤ k) (hk1 : k ≤ 9223372036854775807) (hn0 : -9223372036854775808 ≤ n) (hn1 : n ≤ 9223372036854775807) (s : ByteArray) (hs : s.size ≤ 10000) (v : Value) (w : World) (h : Holds B b l w) (hlen : l.length + (flatBytes k n s).length ≤ 140737488355328) :
    Calls Tryz.prog 26 #[.pointer (some ⟨b, 0, none⟩), valV k n s v] w fun e w' => e = .returned (.tuple #[]) ∧ Laid B b (l ++ flatBytes k n s) w w' := by
  have hsl : s.data.toList.length = s.size := by simp
  unfold flatBytes at hlen ⊢
  rw [List.length_append] at hlen
  by_cases h1 : k = 1
  · subst h1
    rw [if_pos (by omega)] at hlen ⊢
    rw [← List.append_assoc]
    exact lay_num B b l n hn0 hn1 s v w h (by omega)
  by_cases h3 : k = 3
  · subst h3
    rw [if_pos (by omega)] at hlen ⊢
    rw [← List.append_assoc]
    exact lay_ref B b l n hn0 hn1 s v w h (by omega)
  by_cases h4 : k = 4
  · subst h4
    rw [if_pos (by omega)] at hlen ⊢
    rw [← List.append_assoc]
    exact lay_weak B b l n hn0 hn1 s v w h (by omega)
  rw [if_neg (by omega)] at hlen ⊢
  by_cases h2 : k = 2
  · subst h2
    rw [if_pos rfl] at hlen ⊢
    rw [List.length_append, hsl] at hlen
    rw [← List.append_assoc]
    exact lay_text B b l n s hs v w h (by omega)
  · rw [if_neg h2] at hlen ⊢
    rw [List.append_nil]
    exact lay_nil B b l k n ⟨h1, h2, h3, h4, hk⟩ hk0 hk1 s v w h (by simpa using hlen)
end Go.Proofs.YtffoklhopmhjaaaGreatDoor
