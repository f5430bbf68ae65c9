/- Texts put together: ValLay, ValLayN, ValLayT, ValLayL, ValDef, VBox, ValFits, ValDec. -/
import Derived.Test.YtmijlcilnaeppaaGreatDoorBun1
import Derived.Test.YtmijlcilnaeppaaGreatDoorBun5
import Derived.Test.YtmijlcilnaeppaaGreatDoorBun2
/- val.lay of values that are no list. -/
set_option linter.unusedSimpArgs false
set_option linter.unusedVariables false
namespace Go.Proofs.YtmijlcilnaeppaaGreatDoor
open Go Go.RowKit Go.Shelf

/-- a builder in block b (all of it lies from B on) that holds these bytes -/
abbrev Holds (B b : Nat) (l : List UInt8) (w : World) : Prop := Lib.IsBuilderF 56 5 B b (Lib.byteCells l) w
theorem builderAt_below {T e : TypeId} {B b : Nat} {p : Value} {bs : List Value} {W W' : World} (h : Lib.BuilderAtF T e B b p bs W) (hb : Below W.heap.size W W') : Lib.BuilderAtF T e B b p bs W' := by
  have hlt := h.lt
  obtain ⟨hB, v, hv, hown, hne⟩ := h
  exact ⟨hB, v, (hb.block b hlt).trans hv, hown.kept (row := none) ⟨hb.os, hb.tape, hb.output, hb.size, fun k hk _ => hb.block k hk⟩ (Classical.em _), hne⟩
theorem Holds.below {B b : Nat} {l : List UInt8} {W W' : World} (h : Holds B b l W) (hb : Below W.heap.size W W') : Holds B b l W' :=
  h.elim (fun x => .inl (builderAt_below x hb)) (fun x => .inr (builderAt_below x hb))
/-- what a call left of a builder -/
def Laid (B b : Nat) (l : List UInt8) (w w' : World) : Prop := Holds B b l w' ∧ Below B w w' ∧ Lib.OthersKept 5 (some b) w w'

theorem holds_lt {B b : Nat} {l : List UInt8} {w : World} (h : Holds B b l w) : B ≤ b ∧ b < w.heap.size := by
  rcases h with h | h
  · exact ⟨h.1, h.lt⟩
  · exact ⟨h.1, h.lt⟩

theorem writeString_laid (B b : Nat) (l : List UInt8) (t : List UInt8) (w : World) (h : Holds B b l w) (hlen : l.length + t.length ≤ 140737488355328) :
    Calls Tryz.prog 58 #[.pointer (some ⟨b, 0, none⟩), .string ⟨t.toArray⟩] w fun e w' => e = .returned (.tuple #[.int .i64 (t.length : Int), .nilIface]) ∧ Laid B b (l ++ t) w w' := by
  have hlt := holds_lt h
  have hsz : (⟨t.toArray⟩ : ByteArray).size = t.length := by show t.toArray.size = _; simp
  have := writeString_k B b (Lib.byteCells l) ⟨t.toArray⟩ w h (by rw [Lib.byteCells_length, hsz]; exact hlen) (by omega)
  refine this.mono ?_
  rintro e w' ⟨rfl, h1, h2, h3⟩
  refine ⟨by rw [hsz], ?_, h2, h3⟩
  unfold Holds
  rw [Lib.byteCells_append]
  exact Or.inr (by simpa [Lib.strCells, Lib.byteCells] using h1)

/-- a box of a value, behind the builder's calls -/
theorem box_kept {B b : Nat} {l : List UInt8} {w w' : World} {q : Nat} {cs : Array Value} (h : Laid B b l w w') (hq : w.heap[q]? = some (.cells cs 30 (0, 0))) (hb : q ≠ b) : w'.heap[q]? = some (.cells cs 30 (0, 0)) :=
  h.2.2 q _ hq (by simpa using hb) (by rintro c fz ⟨⟩)

set_option maxHeartbeats 2000000 in
set_option maxRecDepth 100000 in
theorem lay_nil (B b : Nat) (l : List UInt8) (k n : Int) (hk : k ≠ 1 ∧ k ≠ 2 ∧ k ≠ 3 ∧ k ≠ 4 ∧ k ≠ 5) (hk0 : -9223372036854775808 ≤ k) (hk1 : k ≤ 9223372036854775807) (s : ByteArray) (v : Value) (w : World) (h : Holds B b l w) (hlen : l.length + (Wire.num k).length ≤ 140737488355328) :
    Calls Tryz.prog 31 #[.pointer (some ⟨b, 0, none⟩), valV k n s v] w fun e w' => e = .returned (.tuple #[]) ∧ Laid B b (l ++ Wire.num k) w w' := by
  have hlt := holds_lt h
  have d1 : (k == 1) = false := by rw [beq_eq_false_iff_ne]; omega
  have d2 : (k == 2) = false := by rw [beq_eq_false_iff_ne]; omega
  have d3 : (k == 3) = false := by rw [beq_eq_false_iff_ne]; omega
  have d4 : (k == 4) = false := by rw [beq_eq_false_iff_ne]; omega
  have d5 : (k == 5) = false := by rw [beq_eq_false_iff_ne]; omega
  have h1 := Lib.IsBuilderF.alloc h (.cells #[.int .i64 k, .int .i64 n, .string s, v] 30)
  have hb0 : (w.alloc (.cells #[.int .i64 k, .int .i64 n, .string s, v] 30)).heap[w.heap.size]? = some (.cells #[.int .i64 k, .int .i64 n, .string s, v] 30 (0, 0)) := World.alloc_heap_new _ _
  have hB0 : Below B w (w.alloc (.cells #[.int .i64 k, .int .i64 n, .string s, v] 30)) := (Below.refl _ _).alloc (by omega) _
  have hO0 : Lib.OthersKept 5 (some b) w (w.alloc (.cells #[.int .i64 k, .int .i64 n, .string s, v] 30)) := (Lib.OthersKept.refl _ _ _).alloc _
  go_enter Tryz.func31, Tryz.ntmps31
  go_wp2_with fail
  refine (num_any k hk0 hk1 _).mono ?_
  rintro e w1 ⟨rfl, hB1⟩
  have h2 := Holds.below h1 hB1
  have hb1 : w1.heap[w.heap.size]? = some (.cells #[.int .i64 k, .int .i64 n, .string s, v] 30 (0, 0)) := (hB1.block _ (by simp)).trans hb0
  have hz1 : w.heap.size + 1 ≤ w1.heap.size := by have := hB1.size; simpa using this
  have hBw1 : Below B w w1 := hB0.trans (hB1.mono (by simp; omega))
  go_wp2_with fail
  refine (writeString_laid B b l _ _ h2 hlen).mono ?_
  rintro e w2 ⟨rfl, hL⟩
  have hb2 := box_kept hL hb1 (by omega)
  have c0 : w2.cell? ⟨w.heap.size, 0, none⟩ = some (.int .i64 k) := by rw [Lib.cell_of_heap hb2]; rfl
  have hO1 : Lib.OthersKept 5 (some b) w w1 := fun q o hq hne hc => (hB1.block q (by have := (Array.getElem?_eq_some_iff.1 hq).1; simp; omega)).trans (hO0 q o hq hne hc)
  have hfin : Laid B b (l ++ Wire.num k) w w2 := ⟨hL.1, hBw1.trans hL.2.1, hO1.trans hL.2.2⟩
  clear hL h1 h2 hb0 hb1 hB0 hO0 hB1 hO1
  go_wp2_with fail
  go_end0
  exact ⟨rfl, hfin⟩
end Go.Proofs.YtmijlcilnaeppaaGreatDoor

/- val.lay of numbers, references, texts. -/
set_option linter.unusedSimpArgs false
set_option linter.unusedVariables false
namespace Go.Proofs.YtmijlcilnaeppaaGreatDoor
open Go Go.RowKit Go.Shelf

theorem laid_call {B b : Nat} {l : List UInt8} {w w0 w1 : World} {q : Nat} {cs : Array Value} (h : Laid B b l w w0) (hB : Below w0.heap.size w0 w1) (hlt : B ≤ w0.heap.size) (hq : w0.heap[q]? = some (.cells cs 30 (0, 0))) :
    Laid B b l w w1 ∧ w1.heap[q]? = some (.cells cs 30 (0, 0)) := by
  have hl : ∀ {i : Nat} {o : Obj}, w0.heap[i]? = some o → w1.heap[i]? = some o := fun {i o} hi => (hB.block i (Array.getElem?_eq_some_iff.1 hi).1).trans hi
  exact ⟨⟨Holds.below h.1 hB, h.2.1.trans (hB.mono hlt), fun i o hi hne hc => hl (h.2.2 i o hi hne hc)⟩, hl hq⟩

theorem laid_write {B b : Nat} {l t : List UInt8} {w w0 w1 : World} {q : Nat} {cs : Array Value} (h : Laid B b l w w0) (h1 : Laid B b t w0 w1) (hq : w0.heap[q]? = some (.cells cs 30 (0, 0))) (hb : q ≠ b) :
    Laid B b t w w1 ∧ w1.heap[q]? = some (.cells cs 30 (0, 0)) := ⟨⟨h1.1, h.2.1.trans h1.2.1, h.2.2.trans h1.2.2⟩, box_kept h1 hq hb⟩

theorem laid_box {B b : Nat} {l : List UInt8} {w : World} (h : Holds B b l w) (o : Obj) : Laid B b l w (w.alloc o) :=
  ⟨Lib.IsBuilderF.alloc h o, (Below.refl _ _).alloc (by have := holds_lt h; omega) _, (Lib.OthersKept.refl _ _ _).alloc _⟩

set_option maxHeartbeats 2000000 in
set_option maxRecDepth 100000 in
theorem lay_num (B b : Nat) (l : List UInt8) (n : Int) (hn0 : -9223372036854775808 ≤ n) (hn1 : n ≤ 9223372036854775807) (s : ByteArray) (v : Value) (w : World) (h : Holds B b l w) (hlen : l.length + (Wire.num 1).length + (Wire.num n).length ≤ 140737488355328) :
    Calls Tryz.prog 31 #[.pointer (some ⟨b, 0, none⟩), valV 1 n s v] w fun e w' => e = .returned (.tuple #[]) ∧ Laid B b (l ++ Wire.num 1 ++ Wire.num n) w w' := by
  have hlt := holds_lt h
  have h0 := laid_box h (.cells #[.int .i64 1, .int .i64 n, .string s, v] 30)
  have b0 : (w.alloc (.cells #[.int .i64 1, .int .i64 n, .string s, v] 30)).heap[w.heap.size]? = some (.cells #[.int .i64 1, .int .i64 n, .string s, v] 30 (0, 0)) := World.alloc_heap_new _ _
  go_enter Tryz.func31, Tryz.ntmps31
  go_wp2_with fail
  refine (num_any 1 (by decide) (by decide) _).mono ?_
  rintro e w1 ⟨rfl, hB1⟩
  obtain ⟨h1, b1⟩ := laid_call h0 hB1 (by simp; omega) b0
  go_wp2_with fail
  refine (writeString_laid B b l _ _ h1.1 (by omega)).mono ?_
  rintro e w2 ⟨rfl, hL⟩
  obtain ⟨h2, b2⟩ := laid_write h1 hL b1 (by omega)
  have c0 : w2.cell? ⟨w.heap.size, 0, none⟩ = some (.int .i64 1) := by rw [Lib.cell_of_heap b2]; rfl
  have c1 : w2.cell? ⟨w.heap.size, 1, none⟩ = some (.int .i64 n) := by rw [Lib.cell_of_heap b2]; rfl
  clear h0 b0 h1 b1 hB1 hL
  go_wp2_with fail
  refine (num_any n hn0 hn1 _).mono ?_
  rintro e w3 ⟨rfl, hB3⟩
  obtain ⟨h3, b3⟩ := laid_call h2 hB3 (by have := holds_lt h2.1; omega) b2
  go_wp2_with fail
  refine (writeString_laid B b _ _ _ h3.1 (by rw [List.length_append]; omega)).mono ?_
  rintro e w4 ⟨rfl, hL⟩
  obtain ⟨h4, b4⟩ := laid_write h3 hL b3 (by omega)
  clear h2 b2 h3 b3 hB3 hL c0 c1
  go_wp2_with fail
  go_end0
  exact ⟨rfl, h4⟩

set_option maxHeartbeats 2000000 in
set_option maxRecDepth 100000 in
theorem lay_ref (B b : Nat) (l : List UInt8) (n : Int) (hn0 : -9223372036854775808 ≤ n) (hn1 : n ≤ 9223372036854775807) (s : ByteArray) (v : Value) (w : World) (h : Holds B b l w) (hlen : l.length + (Wire.num 3).length + (Wire.num n).length ≤ 140737488355328) :
    Calls Tryz.prog 31 #[.pointer (some ⟨b, 0, none⟩), valV 3 n s v] w fun e w' => e = .returned (.tuple #[]) ∧ Laid B b (l ++ Wire.num 3 ++ Wire.num n) w w' := by
  have hlt := holds_lt h
  have h0 := laid_box h (.cells #[.int .i64 3, .int .i64 n, .string s, v] 30)
  have b0 : (w.alloc (.cells #[.int .i64 3, .int .i64 n, .string s, v] 30)).heap[w.heap.size]? = some (.cells #[.int .i64 3, .int .i64 n, .string s, v] 30 (0, 0)) := World.alloc_heap_new _ _
  go_enter Tryz.func31, Tryz.ntmps31
  go_wp2_with fail
  refine (num_any 3 (by decide) (by decide) _).mono ?_
  rintro e w1 ⟨rfl, hB1⟩
  obtain ⟨h1, b1⟩ := laid_call h0 hB1 (by simp; omega) b0
  go_wp2_with fail
  refine (writeString_laid B b l _ _ h1.1 (by omega)).mono ?_
  rintro e w2 ⟨rfl, hL⟩
  obtain ⟨h2, b2⟩ := laid_write h1 hL b1 (by omega)
  have c0 : w2.cell? ⟨w.heap.size, 0, none⟩ = some (.int .i64 3) := by rw [Lib.cell_of_heap b2]; rfl
  have c1 : w2.cell? ⟨w.heap.size, 1, none⟩ = some (.int .i64 n) := by rw [Lib.cell_of_heap b2]; rfl
  clear h0 b0 h1 b1 hB1 hL
  go_wp2_with fail
  refine (num_any n hn0 hn1 _).mono ?_
  rintro e w3 ⟨rfl, hB3⟩
  obtain ⟨h3, b3⟩ := laid_call h2 hB3 (by have := holds_lt h2.1; omega) b2
  go_wp2_with fail
  refine (writeString_laid B b _ _ _ h3.1 (by rw [List.length_append]; omega)).mono ?_
  rintro e w4 ⟨rfl, hL⟩
  obtain ⟨h4, b4⟩ := laid_write h3 hL b3 (by omega)
  clear h2 b2 h3 b3 hB3 hL c0 c1
  go_wp2_with fail
  go_end0
  exact ⟨rfl, h4⟩

set_option maxHeartbeats 2000000 in
set_option maxRecDepth 100000 in
theorem lay_weak (B b : Nat) (l : List UInt8) (n : Int) (hn0 : -9223372036854775808 ≤ n) (hn1 : n ≤ 9223372036854775807) (s : ByteArray) (v : Value) (w : World) (h : Holds B b l w) (hlen : l.length + (Wire.num 4).length + (Wire.num n).length ≤ 140737488355328) :
    Calls Tryz.prog 31 #[.pointer (some ⟨b, 0, none⟩), valV 4 n s v] w fun e w' => e = .returned (.tuple #[]) ∧ Laid B b (l ++ Wire.num 4 ++ Wire.num n) w w' := by
  have hlt := holds_lt h
  have h0 := laid_box h (.cells #[.int .i64 4, .int .i64 n, .string s, v] 30)
  have b0 : (w.alloc (.cells #[.int .i64 4, .int .i64 n, .string s, v] 30)).heap[w.heap.size]? = some (.cells #[.int .i64 4, .int .i64 n, .string s, v] 30 (0, 0)) := World.alloc_heap_new _ _
  go_enter Tryz.func31, Tryz.ntmps31
  go_wp2_with fail
  refine (num_any 4 (by decide) (by decide) _).mono ?_
  rintro e w1 ⟨rfl, hB1⟩
  obtain ⟨h1, b1⟩ := laid_call h0 hB1 (by simp; omega) b0
  go_wp2_with fail
  refine (writeString_laid B b l _ _ h1.1 (by omega)).mono ?_
  rintro e w2 ⟨rfl, hL⟩
  obtain ⟨h2, b2⟩ := laid_write h1 hL b1 (by omega)
  have c0 : w2.cell? ⟨w.heap.size, 0, none⟩ = some (.int .i64 4) := by rw [Lib.cell_of_heap b2]; rfl
  have c1 : w2.cell? ⟨w.heap.size, 1, none⟩ = some (.int .i64 n) := by rw [Lib.cell_of_heap b2]; rfl
  clear h0 b0 h1 b1 hB1 hL
  go_wp2_with fail
  refine (num_any n hn0 hn1 _).mono ?_
  rintro e w3 ⟨rfl, hB3⟩
  obtain ⟨h3, b3⟩ := laid_call h2 hB3 (by have := holds_lt h2.1; omega) b2
  go_wp2_with fail
  refine (writeString_laid B b _ _ _ h3.1 (by rw [List.length_append]; omega)).mono ?_
  rintro e w4 ⟨rfl, hL⟩
  obtain ⟨h4, b4⟩ := laid_write h3 hL b3 (by omega)
  clear h2 b2 h3 b3 hB3 hL c0 c1
  go_wp2_with fail
  go_end0
  exact ⟨rfl, h4⟩

end Go.Proofs.YtmijlcilnaeppaaGreatDoor

/- val.lay of texts; of any value that is no list. -/
set_option linter.unusedSimpArgs false
set_option linter.unusedVariables false
namespace Go.Proofs.YtmijlcilnaeppaaGreatDoor
open Go Go.RowKit Go.Shelf

set_option maxHeartbeats 2000000 in
set_option maxRecDepth 100000 in
theorem lay_text (B b : Nat) (l : List UInt8) (n : Int) (s : ByteArray) (hs : s.size ≤ 10000) (v : Value) (w : World) (h : Holds B b l w) (hlen : l.length + (Wire.num 2).length + (Wire.num s.size).length + s.size ≤ 140737488355328) :
    Calls Tryz.prog 31 #[.pointer (some ⟨b, 0, none⟩), valV 2 n s v] w fun e w' => e = .returned (.tuple #[]) ∧ Laid B b (l ++ Wire.num 2 ++ (Wire.num s.size ++ s.data.toList)) w w' := by
  have hlt := holds_lt h
  have hsl : s.data.toList.length = s.size := by simp
  have hlen2 : (l ++ Wire.num 2).length + (Wire.num s.size ++ s.data.toList).length ≤ 140737488355328 := by rw [List.length_append, List.length_append, hsl]; omega
  have HLEN := Lib.hid hlen2
  clear hlen2 hsl
  have h0 := laid_box h (.cells #[.int .i64 2, .int .i64 n, .string s, v] 30)
  have b0 : (w.alloc (.cells #[.int .i64 2, .int .i64 n, .string s, v] 30)).heap[w.heap.size]? = some (.cells #[.int .i64 2, .int .i64 n, .string s, v] 30 (0, 0)) := World.alloc_heap_new _ _
  go_enter Tryz.func31, Tryz.ntmps31
  go_wp2_with fail
  refine (num_any 2 (by decide) (by decide) _).mono ?_
  rintro e w1 ⟨rfl, hB1⟩
  obtain ⟨h1, b1⟩ := laid_call h0 hB1 (by simp; omega) b0
  go_wp2_with fail
  refine (writeString_laid B b l _ _ h1.1 (by omega)).mono ?_
  rintro e w2 ⟨rfl, hL⟩
  obtain ⟨h2, b2⟩ := laid_write h1 hL b1 (by omega)
  have c0 : w2.cell? ⟨w.heap.size, 0, none⟩ = some (.int .i64 2) := by rw [Lib.cell_of_heap b2]; rfl
  have c2 : w2.cell? ⟨w.heap.size, 2, none⟩ = some (.string s) := by rw [Lib.cell_of_heap b2]; rfl
  clear h0 b0 h1 b1 hB1 hL
  go_wp2_with fail
  refine (text_any s hs _).mono ?_
  rintro e w3 ⟨rfl, hB3⟩
  obtain ⟨h3, b3⟩ := laid_call h2 hB3 (by have := holds_lt h2.1; omega) b2
  go_wp2_with fail
  refine (writeString_laid B b _ _ _ h3.1 HLEN.out).mono ?_
  rintro e w4 ⟨rfl, hL⟩
  obtain ⟨h4, b4⟩ := laid_write h3 hL b3 (by omega)
  clear h2 b2 h3 b3 hB3 hL c0 c2
  go_wp2_with fail
  go_end0
  exact ⟨rfl, h4⟩

/-- the bytes of a value that is no list -/
def flatBytes (k n : Int) (s : ByteArray) : List UInt8 := Wire.num k ++ if k = 1 ∨ k = 3 ∨ k = 4 then Wire.num n else if k = 2 then Wire.num s.size ++ s.data.toList else []

theorem lay_flat (B b : Nat) (l : List UInt8) (k n : Int) (hk : k ≠ 5) (hk0 : -9223372036854775808 ≤ k) (hk1 : k ≤ 9223372036854775807) (hn0 : -9223372036854775808 ≤ n) (hn1 : n ≤ 9223372036854775807) (s : ByteArray) (hs : s.size ≤ 10000) (v : Value) (w : World) (h : Holds B b l w) (hlen : l.length + (flatBytes k n s).length ≤ 140737488355328) :
    Calls Tryz.prog 31 #[.pointer (some ⟨b, 0, none⟩), valV k n s v] w fun e w' => e = .returned (.tuple #[]) ∧ Laid B b (l ++ flatBytes k n s) w w' := by
  have hsl : s.data.toList.length = s.size := by simp
  unfold flatBytes at hlen ⊢
  rw [List.length_append] at hlen
  by_cases h1 : k = 1
  · subst h1
    rw [if_pos (by omega)] at hlen ⊢
    rw [← List.append_assoc]
    exact lay_num B b l n hn0 hn1 s v w h (by omega)
  by_cases h3 : k = 3
  · subst h3
    rw [if_pos (by omega)] at hlen ⊢
    rw [← List.append_assoc]
    exact lay_ref B b l n hn0 hn1 s v w h (by omega)
  by_cases h4 : k = 4
  · subst h4
    rw [if_pos (by omega)] at hlen ⊢
    rw [← List.append_assoc]
    exact lay_weak B b l n hn0 hn1 s v w h (by omega)
  rw [if_neg (by omega)] at hlen ⊢
  by_cases h2 : k = 2
  · subst h2
    rw [if_pos rfl] at hlen ⊢
    rw [List.length_append, hsl] at hlen
    rw [← List.append_assoc]
    exact lay_text B b l n s hs v w h (by omega)
  · rw [if_neg h2] at hlen ⊢
    rw [List.append_nil]
    exact lay_nil B b l k n ⟨h1, h2, h3, h4, hk⟩ hk0 hk1 s v w h (by simpa using hlen)
end Go.Proofs.YtmijlcilnaeppaaGreatDoor

/- val.lay of lists. -/
set_option linter.unusedSimpArgs false
set_option linter.unusedVariables false
namespace Go.Proofs.YtmijlcilnaeppaaGreatDoor
open Go Go.RowKit Go.Shelf

def itemsBytes : List It → List UInt8
  | [] => []
  | x :: xs => flatBytes x.k x.n x.s ++ itemsBytes xs
theorem itemsBytes_append (a b : List It) : itemsBytes (a ++ b) = itemsBytes a ++ itemsBytes b := by
  induction a with
  | nil => rfl
  | cons x xs ih => show flatBytes x.k x.n x.s ++ itemsBytes (xs ++ b) = _; rw [ih]; simp [itemsBytes]
theorem itemsBytes_take {xs : List It} {j : Nat} (h : j < xs.length) : itemsBytes (xs.take (j + 1)) = itemsBytes (xs.take j) ++ flatBytes xs[j].k xs[j].n xs[j].s := by
  rw [List.take_succ_eq_append_getElem h, itemsBytes_append]
  simp [itemsBytes]
theorem itemsBytes_le {xs : List It} {j : Nat} (h : j < xs.length) : (itemsBytes (xs.take j)).length + (flatBytes xs[j].k xs[j].n xs[j].s).length ≤ (itemsBytes xs).length := by
  have : itemsBytes xs = itemsBytes (xs.take (j + 1)) ++ itemsBytes (xs.drop (j + 1)) := by rw [← itemsBytes_append, List.take_append_drop]
  rw [this, List.length_append, itemsBytes_take h, List.length_append]
  omega

/-- what an item must keep -/
structure It.flat (x : It) : Prop where
  k5 : x.k ≠ 5
  k : -9223372036854775808 ≤ x.k ∧ x.k ≤ 9223372036854775807
  n : -9223372036854775808 ≤ x.n ∧ x.n ≤ 9223372036854775807
  s : x.s.size ≤ 10000

set_option maxHeartbeats 4000000 in
set_option maxRecDepth 100000 in
theorem lay_list (B b : Nat) (l : List UInt8) (n : Int) (s : ByteArray) (g off c : Nat) (xs : List It) (hf : ∀ x ∈ xs, x.flat) (hm : xs.length ≤ 12) (w : World) (h : Holds B b l w) (hg : g < B)
    (hc : ∀ (i : Nat) (h : i < xs.length) (j : Nat) (u : Value), (xs[i].cells)[j]? = some u → w.cell? ⟨g, off + i * 4 + j, none⟩ = some u)
    (hlen : l.length + (Wire.num 5).length + (Wire.num xs.length).length + (itemsBytes xs).length ≤ 140737488355328) :
    Calls Tryz.prog 31 #[.pointer (some ⟨b, 0, none⟩), valV 5 n s (.slice (some ⟨g, off, none⟩) xs.length c)] w fun e w' => e = .returned (.tuple #[]) ∧ Laid B b (l ++ Wire.num 5 ++ Wire.num xs.length ++ itemsBytes xs) w w' := by
  have hlt := holds_lt h
  have HC := Lib.hid hc; clear hc
  have HF := Lib.hid hf; clear hf
  have h0 := laid_box h (.cells #[.int .i64 5, .int .i64 n, .string s, .slice (some ⟨g, off, none⟩) xs.length c] 30)
  have b0 : (w.alloc (.cells #[.int .i64 5, .int .i64 n, .string s, .slice (some ⟨g, off, none⟩) xs.length c] 30)).heap[w.heap.size]? = some (.cells #[.int .i64 5, .int .i64 n, .string s, .slice (some ⟨g, off, none⟩) xs.length c] 30 (0, 0)) := World.alloc_heap_new _ _
  go_enter Tryz.func31, Tryz.ntmps31
  go_wp2_with fail
  refine (num_any 5 (by decide) (by decide) _).mono ?_
  rintro e w1 ⟨rfl, hB1⟩
  obtain ⟨h1, b1⟩ := laid_call h0 hB1 (by simp; omega) b0
  go_wp2_with fail
  refine (writeString_laid B b l _ _ h1.1 (by omega)).mono ?_
  rintro e w2 ⟨rfl, hL⟩
  obtain ⟨h2, b2⟩ := laid_write h1 hL b1 (by omega)
  have c0 : w2.cell? ⟨w.heap.size, 0, none⟩ = some (.int .i64 5) := by rw [Lib.cell_of_heap b2]; rfl
  have c3 : w2.cell? ⟨w.heap.size, 3, none⟩ = some (.slice (some ⟨g, off, none⟩) xs.length c) := by rw [Lib.cell_of_heap b2]; rfl
  clear h0 b0 h1 b1 hB1 hL
  go_wp2_with fail
  refine (num_any (xs.length : Int) (by omega) (by omega) _).mono ?_
  rintro e w3 ⟨rfl, hB3⟩
  obtain ⟨h3, b3⟩ := laid_call h2 hB3 (by have := holds_lt h2.1; omega) b2
  go_wp2_with fail
  refine (writeString_laid B b _ _ _ h3.1 (by rw [List.length_append]; omega)).mono ?_
  rintro e w4 ⟨rfl, hL⟩
  obtain ⟨h4, b4⟩ := laid_write h3 hL b3 (by omega)
  have c4 : w4.cell? ⟨w.heap.size, 3, none⟩ = some (.slice (some ⟨g, off, none⟩) xs.length c) := by rw [Lib.cell_of_heap b4]; rfl
  clear h2 b2 h3 b3 hB3 hL c0 c3
  go_wp2_with fail
  go_loopw [46] (fun i wr => ∃ k : Nat, k ≤ xs.length ∧ i = .int .i64 (k : Int) ∧ Laid B b (l ++ Wire.num 5 ++ Wire.num xs.length ++ itemsBytes (xs.take k)) w wr) (fun i _ => xs.length - (intOf i).toNat)
  case atStart => exact ⟨0, by omega, rfl, by simpa [itemsBytes] using h4⟩
  case round =>
    obtain ⟨k, hk, rfl, hL⟩ := hrel
    have HL := Lib.hid hL
    have hz := holds_lt hL.1
    by_cases hkl : k < xs.length
    · obtain ⟨x, hx⟩ : ∃ x, xs[k] = x := ⟨_, rfl⟩
      have hxf : x.flat := hx ▸ HF.out _ (List.getElem_mem hkl)
      have htk := itemsBytes_take hkl
      have hle := itemsBytes_le hkl
      rw [hx] at htk hle
      obtain ⟨c0, c1, c2, c3⟩ := cell_four (W := wr) (b := g) (off := off) (k := k) (x := x) (fun j u hu => by
        rw [hL.2.1.cell (p := ⟨g, off + k * 4 + j, none⟩) hg]; exact HC.out k hkl j u (by rw [hx]; exact hu))
      have HTK := Lib.hid htk
      clear htk hL hx
      have e0 : (0 : Int) ≤ (k : Int) := by omega
      have e1 : (k : Int) < (xs.length : Int) := by omega
      go_wp2_with fail
      refine (lay_flat B b _ x.k x.n hxf.k5 hxf.k.1 hxf.k.2 hxf.n.1 hxf.n.2 x.s hxf.s _ _ (Lib.IsBuilderF.alloc HL.out.1 _) (by simp only [List.length_append]; omega)).mono ?_
      rintro e w5 ⟨rfl, h5⟩
      have h6 : Laid B b (l ++ Wire.num 5 ++ Wire.num xs.length ++ itemsBytes (xs.take (k + 1))) w w5 := by
        rw [HTK.out, ← List.append_assoc]
        exact ⟨h5.1, (HL.out.2.1.alloc (by omega) _).trans h5.2.1, (HL.out.2.2.alloc _).trans h5.2.2⟩
      have H6 := Lib.hid h6
      clear h6 h5 c0 c1 c2 c3
      go_wp2_with fail
      exact ⟨⟨k + 1, by omega, by go_num, H6.out⟩, by simp [intOf]; omega⟩
    · obtain rfl : k = xs.length := by omega
      rw [List.take_length] at hL
      have HLL := Lib.hid hL
      clear hL
      go_wp2_with fail
      go_end0
      exact ⟨rfl, HLL.out⟩
end Go.Proofs.YtmijlcilnaeppaaGreatDoor

/- Values as they are: which may be, and their bytes; val.Right of a value. -/
set_option linter.unusedSimpArgs false
set_option linter.unusedVariables false
namespace Go.Proofs.YtmijlcilnaeppaaGreatDoor
open Go Go.RowKit Go.Shelf

/-- of a value that is no list -/
def V.flatOk (v : V) : Bool := Go.Proofs.YtmijlcilnaeppaaGreatDoor.flatOk v.k v.n v.s v.l.length
def V.okIn (u : V) : Bool := !(u.k == 5) && u.flatOk
def V.ok (v : V) : Bool := if v.k = 5 then decide (v.n = 0 ∧ v.s.size = 0) && (decide (v.l.length ≤ 12) && v.l.all V.okIn) else v.flatOk
def V.bytesIn (u : V) : List UInt8 := flatBytes u.k u.n u.s
def V.bytes (v : V) : List UInt8 := if v.k = 5 then Wire.num 5 ++ Wire.num v.l.length ++ v.l.flatMap V.bytesIn else v.bytesIn

theorem VIn.same {d : Nat} {W : World} {u : V} {y : It} (h : VIn d W u y) : y.k = u.k ∧ y.n = u.n ∧ y.s = u.s ∧ y.m = u.l.length ∧ u.fine := by
  cases d with
  | zero => exact h.elim
  | succ d => have t := VAt.top h; exact ⟨t.2.1, t.2.2.1, t.2.2.2.1, t.len, t.1⟩

theorem items_map {α : Type} (f : It → α) (g : V → α) {ys : List It} {l : List V} (hl : ys.length = l.length) (h : ∀ (i : Nat) (h : i < ys.length) (h' : i < l.length), f ys[i] = g l[i]) : ys.map f = l.map g := by
  apply List.ext_getElem
  · simp [hl]
  · intro i h1 h2
    simp only [List.getElem_map]
    exact h i (by simpa using h1) (by simpa using h2)

theorem itemsBytes_map (ys : List It) : itemsBytes ys = (ys.map (fun y => flatBytes y.k y.n y.s)).flatten := by
  induction ys with
  | nil => rfl
  | cons y ys ih => show flatBytes y.k y.n y.s ++ itemsBytes ys = _; rw [ih]; simp

theorem items_of {d : Nat} {W : World} {v : V} {x : It} (hx : VAt d W v x) : x.k = v.k ∧ x.n = v.n ∧ x.s = v.s ∧ x.m = v.l.length ∧ ∃ ys : List It, ys.length = v.l.length ∧ Lies W (.slice x.p x.m x.c) ys.length 4 (itsCells ys) ∧ rightOf x ys = v.ok ∧ itemsBytes ys = v.l.flatMap V.bytesIn ∧ (∀ y ∈ ys, y.s.size ≤ 9223372036854775807) ∧ (∀ y ∈ ys, ∃ u ∈ v.l, y.k = u.k ∧ y.n = u.n ∧ y.s = u.s ∧ y.m = u.l.length ∧ u.fine) := by
  have t := hx.top
  have hm := t.len
  obtain ⟨hf, h1, h2, h3, ys, h4, h5, h6⟩ := t
  refine ⟨h1, h2, h3, hm, ys, h4, h5, ?_, ?_, ?_, ?_⟩
  · unfold rightOf V.ok
    rw [h1, h2, h3, hm]
    have e : ys.all itemOk = v.l.all V.okIn := by
      have : ys.map itemOk = v.l.map V.okIn := items_map _ _ h4 (fun i a b => by
        obtain ⟨e1, e2, e3, e4, _⟩ := (h6 i a b).same
        unfold itemOk V.okIn V.flatOk
        rw [e1, e2, e3, e4])
      have g : ∀ (ys : List It), ys.all itemOk = (ys.map itemOk).all id := fun ys => by rw [List.all_map]; rfl
      have g' : ∀ (us : List V), us.all V.okIn = (us.map V.okIn).all id := fun us => by rw [List.all_map]; rfl
      rw [g, g', this]
    unfold listOk
    rw [e, h4]
    rfl
  · rw [itemsBytes_map, List.flatMap_def]
    congr 1
    exact items_map _ _ h4 (fun i a b => by
      obtain ⟨e1, e2, e3, e4, _⟩ := (h6 i a b).same
      unfold V.bytesIn
      rw [e1, e2, e3])
  · intro y hy
    obtain ⟨i, hi, rfl⟩ := List.getElem_of_mem hy
    obtain ⟨e1, e2, e3, e4, e5⟩ := (h6 i hi (by omega)).same
    rw [e3]; exact e5.s
  · intro y hy
    obtain ⟨i, hi, rfl⟩ := List.getElem_of_mem hy
    exact ⟨v.l[i]'(by omega), List.getElem_mem _, (h6 i hi (by omega)).same⟩

/-- val.Right, of any value that lies -/
theorem right_V (d : Nat) (v : V) (x : It) (w : World) (hx : VAt d w v x) (hT : Tabs w) :
    Calls Tryz.prog 11 #[x.v] w fun e w' => e = .returned (.bool v.ok) ∧ Below w.heap.size w w' := by
  obtain ⟨h1, h2, h3, h4, ys, h5, h6, h7, h8, h9, _⟩ := items_of hx
  rw [← h7]
  exact right_any x ys (by rw [h3]; exact hx.top.1.s) h9 w hT (fun _ => ⟨by omega, h6⟩)

theorem flatBytes_len {k n : Int} {s : ByteArray} (hk : Wire.inRange k) (hn : Wire.inRange n) (hs : s.size ≤ 10000) : (flatBytes k n s).length ≤ 10020 := by
  have h1 := Wire.num_len k hk
  have h2 := Wire.num_len n hn
  have h3 := Wire.num_len (s.size : Int) ⟨by omega, by omega⟩
  have h4 : s.data.toList.length = s.size := by simp
  unfold flatBytes
  rw [List.length_append]
  split
  · omega
  · split
    · rw [List.length_append, h4]; omega
    · simp; omega

theorem okIn_parts {u : V} (h : u.okIn = true) : u.k ≠ 5 ∧ u.flatOk = true := by
  unfold V.okIn at h
  simp at h
  exact ⟨by simpa using h.1, h.2⟩
theorem flatOk_parts {k n : Int} {s : ByteArray} {m : Nat} (h : flatOk k n s m = true) : (0 ≤ k ∧ k ≤ 4) ∧ s.size ≤ 60 ∧ m = 0 ∧ (-1000000000000000 ≤ n ∧ n ≤ 1000000000000000) := by
  unfold flatOk at h
  split at h
  · have := of_decide_eq_true h; omega
  · split at h
    · have := of_decide_eq_true h; omega
    · split at h
      · have := of_decide_eq_true h; omega
      · split at h
        · have := of_decide_eq_true h; omega
        · cases h

theorem data_of_size0 {s : ByteArray} (h : s.size = 0) : s = ⟨#[]⟩ := by
  apply ByteArray.ext
  exact Array.eq_empty_of_size_eq_zero h
theorem text_len (s : ByteArray) : s.data.toList.length = s.size := by simp
theorem text_back (s : ByteArray) : (⟨s.data.toList.toArray⟩ : ByteArray) = s := by apply ByteArray.ext; simp

theorem ok_list {v : V} (h : v.ok = true) (h5 : v.k = 5) : v = .mk 5 0 ⟨#[]⟩ v.l ∧ v.l.length ≤ 12 ∧ ∀ u ∈ v.l, u.okIn = true := by
  unfold V.ok at h
  rw [if_pos h5, Bool.and_eq_true, Bool.and_eq_true] at h
  obtain ⟨a, b, c⟩ := h
  have a := of_decide_eq_true a
  refine ⟨?_, of_decide_eq_true b, List.all_eq_true.1 c⟩
  obtain ⟨k, n, s, l⟩ := v
  simp only [V.k, V.n, V.s, V.l] at *
  rw [h5, a.1, data_of_size0 a.2]
theorem ok_flat {v : V} (h : v.ok = true) (h5 : v.k ≠ 5) : v.flatOk = true := by
  unfold V.ok at h
  rw [if_neg h5] at h
  exact h

end Go.Proofs.YtmijlcilnaeppaaGreatDoor

/- A value's box. -/
set_option linter.unusedSimpArgs false
set_option linter.unusedVariables false
namespace Go.Proofs.YtmijlcilnaeppaaGreatDoor
open Go Go.RowKit Go.Shelf

/-- a value's four cells in block b -/
def VBox (W : World) (b : Nat) (k n : Int) (s : ByteArray) (l : Value) : Prop := W.heap[b]? = some (.cells #[.int .i64 k, .int .i64 n, .string s, l] 30 (0, 0))
theorem VBox.lt {W : World} {b : Nat} {k n : Int} {s : ByteArray} {l : Value} (h : VBox W b k n s l) : b < W.heap.size := (Array.getElem?_eq_some_iff.1 h).1
theorem VBox.new (W : World) (k n : Int) (s : ByteArray) (l : Value) : VBox (W.alloc (.cells #[.int .i64 k, .int .i64 n, .string s, l] 30)) W.heap.size k n s l := World.alloc_heap_new _ _
theorem VBox.alloc {W : World} {b : Nat} {k n : Int} {s : ByteArray} {l : Value} (h : VBox W b k n s l) (o : Obj) : VBox (W.alloc o) b k n s l := (Lib.alloc_old W o b h.lt).trans h
theorem VBox.below {W W' : World} {b : Nat} {k n : Int} {s : ByteArray} {l : Value} (h : VBox W b k n s l) (hb : Below W.heap.size W W') : VBox W' b k n s l := (hb.block b h.lt).trans h
theorem VBox.kept {W W' : World} {b r : Nat} {k n : Int} {s : ByteArray} {l : Value} (h : VBox W b k n s l) (hb : W.grownBy W' (some r)) (hne : b ≠ r) : VBox W' b k n s l := (hb.block b h.lt (fun e => hne (Option.some.inj e))).trans h
theorem VBox.past {W : World} {b : Nat} {k n : Int} {s : ByteArray} {l : Value} (h : VBox W b k n s l) (a : Addr) (ha : b ≠ a.block) (u : Value) : VBox (W.setCell a u) b k n s l := (Below.heap_setCell W a u b ha).trans h
theorem VBox.facts {W : World} {b : Nat} {k n : Int} {s : ByteArray} {l : Value} (h : VBox W b k n s l) :
    (W.cell? ⟨b, 0, none⟩ = some (.int .i64 k) ∧ W.cell? ⟨b, 1, none⟩ = some (.int .i64 n) ∧ W.cell? ⟨b, 2, none⟩ = some (.string s) ∧ W.cell? ⟨b, 3, none⟩ = some l) ∧ (W.frozen? ⟨b, 0, none⟩ = false ∧ W.frozen? ⟨b, 1, none⟩ = false ∧ W.frozen? ⟨b, 2, none⟩ = false ∧ W.frozen? ⟨b, 3, none⟩ = false) := by
  refine ⟨⟨?_, ?_, ?_, ?_⟩, Lib.frozen_of_heap h 0, Lib.frozen_of_heap h 1, Lib.frozen_of_heap h 2, Lib.frozen_of_heap h 3⟩ <;> (rw [Lib.cell_of_heap h]; rfl)
theorem VBox.set0 {W : World} {b : Nat} {k n : Int} {s : ByteArray} {l : Value} (h : VBox W b k n s l) (k' : Int) : VBox (W.setCell ⟨b, 0, none⟩ (.int .i64 k')) b k' n s l := (heap_setCell_same W b 0 _ _ (.int .i64 k') h).trans rfl
theorem VBox.set1 {W : World} {b : Nat} {k n : Int} {s : ByteArray} {l : Value} (h : VBox W b k n s l) (n' : Int) : VBox (W.setCell ⟨b, 1, none⟩ (.int .i64 n')) b k n' s l := (heap_setCell_same W b 1 _ _ (.int .i64 n') h).trans rfl
theorem VBox.set2 {W : World} {b : Nat} {k n : Int} {s : ByteArray} {l : Value} (h : VBox W b k n s l) (s' : ByteArray) : VBox (W.setCell ⟨b, 2, none⟩ (.string s')) b k n s' l := (heap_setCell_same W b 2 _ _ (.string s') h).trans rfl
theorem VBox.set3 {W : World} {b : Nat} {k n : Int} {s : ByteArray} {l : Value} (h : VBox W b k n s l) (l' : Value) : VBox (W.setCell ⟨b, 3, none⟩ l') b k n s l' := (heap_setCell_same W b 3 _ _ l' h).trans rfl
/-- the whole box written anew -/
def putBox (W : World) (b : Nat) (k n : Int) (s : ByteArray) (l : Value) : World := (((W.setCell ⟨b, 0, none⟩ (.int .i64 k)).setCell ⟨b, 1, none⟩ (.int .i64 n)).setCell ⟨b, 2, none⟩ (.string s)).setCell ⟨b, 3, none⟩ l
theorem VBox.put {W : World} {b : Nat} {k n : Int} {s : ByteArray} {l : Value} (h : VBox W b k n s l) (k' n' : Int) (s' : ByteArray) (l' : Value) : VBox (putBox W b k' n' s' l') b k' n' s' l' := (((h.set0 k').set1 n').set2 s').set3 l'
theorem VBox.putPast {W : World} {b : Nat} {k n : Int} {s : ByteArray} {l : Value} (h : VBox W b k n s l) {b' : Nat} (hb : b ≠ b') (k' n' : Int) (s' : ByteArray) (l' : Value) : VBox (putBox W b' k' n' s' l') b k n s l := (((h.past ⟨b', 0, none⟩ hb _).past ⟨b', 1, none⟩ hb _).past ⟨b', 2, none⟩ hb _).past ⟨b', 3, none⟩ hb _
theorem below_put {B : Nat} {W W' : World} (h : Below B W W') {b : Nat} (hb : B ≤ b) (k n : Int) (s : ByteArray) (l : Value) : Below B W (putBox W' b k n s l) :=
  (((h.setCell (p := ⟨b, 0, none⟩) hb _).setCell (p := ⟨b, 1, none⟩) hb _).setCell (p := ⟨b, 2, none⟩) hb _).setCell (p := ⟨b, 3, none⟩) hb _
theorem grown_putBox {W W' : World} {r : Option Nat} (h : W.grownBy W' r) {b : Nat} (hb : W.heap.size ≤ b) (k n : Int) (s : ByteArray) (l : Value) : W.grownBy (putBox W' b k n s l) r :=
  grown_set (grown_set (grown_set (grown_set h hb ⟨b, 0, none⟩ rfl _) hb ⟨b, 1, none⟩ rfl _) hb ⟨b, 2, none⟩ rfl _) hb ⟨b, 3, none⟩ rfl _
end Go.Proofs.YtmijlcilnaeppaaGreatDoor

/- val.rightType, fitsKind, Fits, Zero. -/
set_option linter.unusedSimpArgs false
set_option linter.unusedVariables false
namespace Go.Proofs.YtmijlcilnaeppaaGreatDoor
open Go Go.RowKit Go.Shelf

def rtB (k o : Int) : Bool := if k = 5 then decide (1 ≤ o ∧ o ≤ 4) else decide ((1 ≤ k ∧ k ≤ 4) ∧ o = 0)
def fkB (a k : Int) : Bool := decide (a = k ∨ (a = 0 ∧ (k = 3 ∨ k = 4)))
def fitsB (v : V) (k o : Int) : Bool := rtB k o && v.ok && (if k = 5 then (v.l.all (fun u => fkB u.k o)) && v.k == 5 else fkB v.k k)

/-- a type's two cells in block b -/
def TBox (W : World) (b : Nat) (k o : Int) : Prop := W.heap[b]? = some (.cells #[.int .i64 k, .int .i64 o] 26 (0, 0))
theorem TBox.lt {W : World} {b : Nat} {k o : Int} (h : TBox W b k o) : b < W.heap.size := (Array.getElem?_eq_some_iff.1 h).1
theorem TBox.new (W : World) (k o : Int) : TBox (W.alloc (.cells #[.int .i64 k, .int .i64 o] 26)) W.heap.size k o := World.alloc_heap_new _ _
theorem TBox.alloc {W : World} {b : Nat} {k o : Int} (h : TBox W b k o) (x : Obj) : TBox (W.alloc x) b k o := (Lib.alloc_old W x b h.lt).trans h
theorem TBox.below {W W' : World} {b : Nat} {k o : Int} (h : TBox W b k o) (hb : Below W.heap.size W W') : TBox W' b k o := (hb.block b h.lt).trans h
theorem TBox.past {W : World} {b : Nat} {k o : Int} (h : TBox W b k o) (a : Addr) (ha : b ≠ a.block) (u : Value) : TBox (W.setCell a u) b k o := (Below.heap_setCell W a u b ha).trans h
theorem TBox.facts {W : World} {b : Nat} {k o : Int} (h : TBox W b k o) : W.cell? ⟨b, 0, none⟩ = some (.int .i64 k) ∧ W.cell? ⟨b, 1, none⟩ = some (.int .i64 o) := by
  constructor <;> (rw [Lib.cell_of_heap h]; rfl)

/-- a slice of some items, opened -/
theorem Lies.at {W : World} {p : Option Addr} {m c n size : Nat} {xs : List Value} (h : Lies W (.slice p m c) n size xs) (hn : 0 < n) : ∃ b off, p = some ⟨b, off, none⟩ ∧ b < W.heap.size ∧ ∀ j u, xs[j]? = some u → W.cell? ⟨b, off + j, none⟩ = some u := by
  rcases h.2 with ⟨h0, _⟩ | ⟨b, off, c', hv, hb, hc⟩
  · omega
  · injection hv with h1 _ _
    exact ⟨b, off, h1, hb, hc⟩

set_option maxHeartbeats 1000000 in
set_option maxRecDepth 100000 in
theorem rightType_any (k o : Int) (w : World) :
    Calls Tryz.prog 46 #[.agg #[.int .i64 k, .int .i64 o]] w fun e w' => e = .returned (.bool (rtB k o)) ∧ Below w.heap.size w w' := by
  have hb : ∀ r, r = rtB k o → ∀ (e : Ending) (w' : World), (e = .returned (.bool r) ∧ Below w.heap.size w w') → (e = .returned (.bool (rtB k o)) ∧ Below w.heap.size w w') := fun r hr e w' h => by rw [← hr]; exact h
  by_cases h5 : k = 5
  · have d5 : (k == 5) = true := beq_iff_eq.2 h5
    by_cases h1 : 1 ≤ o
    · by_cases h2 : o ≤ 4
      · refine Calls.mono ?_ (hb true (by unfold rtB; rw [if_pos h5, decide_eq_true ⟨h1, h2⟩]))
        clear hb h5
        go_enter Tryz.func46, Tryz.ntmps46
        go_wp2_with fail
        go_ret
        exact ⟨rfl, (Below.refl _ _).alloc (Nat.le_refl _) _⟩
      · refine Calls.mono ?_ (hb false (by unfold rtB; rw [if_pos h5, decide_eq_false (fun h => h2 h.2)]))
        clear hb h5
        go_enter Tryz.func46, Tryz.ntmps46
        go_wp2_with fail
        go_ret
        exact ⟨rfl, (Below.refl _ _).alloc (Nat.le_refl _) _⟩
    · refine Calls.mono ?_ (hb false (by unfold rtB; rw [if_pos h5, decide_eq_false (fun h => h1 h.1)]))
      clear hb h5
      go_enter Tryz.func46, Tryz.ntmps46
      go_wp2_with fail
      go_ret
      exact ⟨rfl, (Below.refl _ _).alloc (Nat.le_refl _) _⟩
  · have d5 : (k == 5) = false := beq_eq_false_iff_ne.2 h5
    by_cases h1 : 1 ≤ k
    · by_cases h2 : k ≤ 4
      · by_cases h3 : o = 0
        · have d6 : (o == 0) = true := beq_iff_eq.2 h3
          refine Calls.mono ?_ (hb true (by unfold rtB; rw [if_neg h5, decide_eq_true ⟨⟨h1, h2⟩, h3⟩]))
          clear hb h5 h3
          go_enter Tryz.func46, Tryz.ntmps46
          go_wp2_with fail
          go_ret
          exact ⟨rfl, (Below.refl _ _).alloc (Nat.le_refl _) _⟩
        · have d6 : (o == 0) = false := beq_eq_false_iff_ne.2 h3
          refine Calls.mono ?_ (hb false (by unfold rtB; rw [if_neg h5, decide_eq_false (fun h => h3 h.2)]))
          clear hb h5 h3
          go_enter Tryz.func46, Tryz.ntmps46
          go_wp2_with fail
          go_ret
          exact ⟨rfl, (Below.refl _ _).alloc (Nat.le_refl _) _⟩
      · refine Calls.mono ?_ (hb false (by unfold rtB; rw [if_neg h5, decide_eq_false (fun h => h2 h.1.2)]))
        clear hb h5
        go_enter Tryz.func46, Tryz.ntmps46
        go_wp2_with fail
        go_ret
        exact ⟨rfl, (Below.refl _ _).alloc (Nat.le_refl _) _⟩
    · refine Calls.mono ?_ (hb false (by unfold rtB; rw [if_neg h5, decide_eq_false (fun h => h1 h.1.1)]))
      clear hb h5
      go_enter Tryz.func46, Tryz.ntmps46
      go_wp2_with fail
      go_ret
      exact ⟨rfl, (Below.refl _ _).alloc (Nat.le_refl _) _⟩

set_option maxHeartbeats 1000000 in
set_option maxRecDepth 100000 in
theorem fitsKind_any (x : It) (k : Int) (w : World) :
    Calls Tryz.prog 47 #[x.v, .int .i64 k] w fun e w' => e = .returned (.bool (fkB x.k k)) ∧ Below w.heap.size w w' := by
  obtain ⟨a, n, s, p, m, c⟩ := x
  simp only
  have hb : ∀ r, r = fkB a k → ∀ (e : Ending) (w' : World), (e = .returned (.bool r) ∧ Below w.heap.size w w') → (e = .returned (.bool (fkB a k)) ∧ Below w.heap.size w w') := fun r hr e w' h => by rw [← hr]; exact h
  by_cases h1 : a = k
  · have d1 : (a == k) = true := beq_iff_eq.2 h1
    refine Calls.mono ?_ (hb true (by unfold fkB; rw [decide_eq_true (.inl h1)]))
    clear hb h1
    go_enter Tryz.func47, Tryz.ntmps47
    go_wp2_with fail
    go_ret
    exact ⟨rfl, (Below.refl _ _).alloc (Nat.le_refl _) _⟩
  · have d1 : (a == k) = false := beq_eq_false_iff_ne.2 h1
    by_cases h2 : a = 0
    · have d2 : (a == 0) = true := beq_iff_eq.2 h2
      by_cases h3 : k = 3
      · have d3 : (k == 3) = true := beq_iff_eq.2 h3
        refine Calls.mono ?_ (hb true (by unfold fkB; rw [decide_eq_true (.inr ⟨h2, .inl h3⟩)]))
        clear hb h1 h2 h3
        go_enter Tryz.func47, Tryz.ntmps47
        go_wp2_with fail
        go_ret
        exact ⟨rfl, (Below.refl _ _).alloc (Nat.le_refl _) _⟩
      · have d3 : (k == 3) = false := beq_eq_false_iff_ne.2 h3
        by_cases h4 : k = 4
        · have d4 : (k == 4) = true := beq_iff_eq.2 h4
          refine Calls.mono ?_ (hb true (by unfold fkB; rw [decide_eq_true (.inr ⟨h2, .inr h4⟩)]))
          clear hb h1 h2 h3 h4
          go_enter Tryz.func47, Tryz.ntmps47
          go_wp2_with fail
          go_ret
          exact ⟨rfl, (Below.refl _ _).alloc (Nat.le_refl _) _⟩
        · have d4 : (k == 4) = false := beq_eq_false_iff_ne.2 h4
          refine Calls.mono ?_ (hb false (by unfold fkB; rw [decide_eq_false (by omega)]))
          clear hb h1 h2 h3 h4
          go_enter Tryz.func47, Tryz.ntmps47
          go_wp2_with fail
          go_ret
          exact ⟨rfl, (Below.refl _ _).alloc (Nat.le_refl _) _⟩
    · have d2 : (a == 0) = false := beq_eq_false_iff_ne.2 h2
      refine Calls.mono ?_ (hb false (by unfold fkB; rw [decide_eq_false (by omega)]))
      clear hb h1 h2
      go_enter Tryz.func47, Tryz.ntmps47
      go_wp2_with fail
      go_ret
      exact ⟨rfl, (Below.refl _ _).alloc (Nat.le_refl _) _⟩

theorem all_take {α : Type} {f : α → Bool} {xs : List α} {k : Nat} (h : k < xs.length) (ha : (xs.take k).all f = true) (hx : f xs[k] = true) : (xs.take (k + 1)).all f = true := by
  rw [List.take_succ_eq_append_getElem h, List.all_append, ha]; simp [hx]
theorem all_no {α : Type} {f : α → Bool} {xs : List α} {k : Nat} (h : k < xs.length) (hx : f xs[k] = false) : xs.all f = false := by
  rw [List.all_eq_false]
  exact ⟨xs[k], List.getElem_mem h, by simp [hx]⟩

set_option maxHeartbeats 4000000 in
set_option maxRecDepth 100000 in
theorem fits_V (d : Nat) (v : V) (x : It) (k o : Int) (w : World) (hx : VAt d w v x) (hT : Tabs w) :
    Calls Tryz.prog 23 #[x.v, .agg #[.int .i64 k, .int .i64 o]] w fun e w' => e = .returned (.bool (fitsB v k o)) ∧ Below w.heap.size w w' := by
  have hright := fun W (hb : Below w.heap.size w W) => right_V d v x W (hx.below hb) (hT.below hb)
  obtain ⟨hfine, hk, hn, hs, ys, hlen, hlies, hin⟩ := hx.top
  have hym : x.m = ys.length := by have := hx.top.len; omega
  have hyk : ∀ (i : Nat) (h : i < ys.length) (h' : i < v.l.length), ys[i].k = v.l[i].k := fun i h h' => (hin i h h').same.1
  have hlm : ys.length ≤ 9223372036854775807 := by rw [hlen]; exact hfine.l
  generalize hr : fitsB v k o = r
  unfold fitsB at hr
  rw [← hk] at hr
  generalize v.ok = rt at hright hr
  have hall : v.l.all (fun u => fkB u.k o) = ys.all (fun y => fkB y.k o) := by
    have g1 : v.l.all (fun u => fkB u.k o) = (v.l.map V.k).all (fun a => fkB a o) := by rw [List.all_map]; rfl
    have g2 : ys.all (fun y => fkB y.k o) = (ys.map It.k).all (fun a => fkB a o) := by rw [List.all_map]; rfl
    rw [g1, g2, items_map (It.k) (V.k) hlen (fun i a b => hyk i a b)]
  rw [hall] at hr
  clear hall hyk hin hlen hfine hx hk hn hs hT
  obtain ⟨a, n, s, p, m, c⟩ := x
  simp only at hym hr hright hlies ⊢
  subst hym
  have hb2 : Below w.heap.size w ((w.alloc (.cells #[.int .i64 a, .int .i64 n, .string s, .slice p ys.length c] 30)).alloc (.cells #[.int .i64 k, .int .i64 o] 26)) := below_two _ _
  have hV0 := (VBox.new w a n s (.slice p ys.length c)).alloc (.cells #[.int .i64 k, .int .i64 o] 26)
  have hT0 := TBox.new (w.alloc (.cells #[.int .i64 a, .int .i64 n, .string s, .slice p ys.length c] 30)) k o
  rw [World.size_alloc] at hT0
  have HR := Lib.hid hr
  have HRIGHT := Lib.hid hright
  have HLIES := Lib.hid hlies
  have HB2 := Lib.hid hb2
  have HV0 := Lib.hid hV0
  have HT0 := Lib.hid hT0
  clear hr hright hlies hb2 hV0 hT0
  generalize hrt : rtB k o = t
  have HRT := Lib.hid hrt
  clear hrt
  have h01 : w.heap.size ≠ w.heap.size + 1 := by omega
  go_enter Tryz.func23, Tryz.ntmps23
  go_wp2_with fail
  refine (rightType_any k o _).mono ?_
  rintro e W1 ⟨rfl, hB1⟩
  rw [HRT.out]
  have hbw := HB2.out.trans (hB1.mono (by simp; omega))
  have hV1 := HV0.out.below hB1
  have hT1 := HT0.out.below hB1
  generalize ((w.alloc (.cells #[.int .i64 a, .int .i64 n, .string s, .slice p ys.length c] 30)).alloc (.cells #[.int .i64 k, .int .i64 o] 26)) = W0 at hB1
  clear hB1 HB2 HV0 HT0
  cases t with
  | false =>
    have hz : r = false := by rw [← HR.out, HRT.out]; rfl
    have HZ := Lib.hid hz
    have HBW := Lib.hid hbw
    clear hz hbw hV1 hT1
    go_wp2_with fail
    go_ret
    exact ⟨by rw [HZ.out]; rfl, HBW.out⟩
  | true =>
    obtain ⟨⟨c0, c1, c2, c3⟩, f0, f1, f2, f3⟩ := hV1.facts
    have HV1 := Lib.hid hV1
    have HT1 := Lib.hid hT1
    have HBW := Lib.hid hbw
    clear hV1 hT1 hbw
    go_wp2_with fail
    refine (HRIGHT.out _ HBW.out).mono ?_
    rintro e W2 ⟨rfl, hB2⟩
    have hV2 := HV1.out.below hB2
    have hT2 := HT1.out.below hB2
    have hbw2 := HBW.out.trans (hB2.mono HBW.out.size)
    clear hB2 c0 c1 c2 c3 f0 f1 f2 f3 HV1 HT1 HBW HRIGHT
    cases rt with
    | false =>
      have hz : r = false := by rw [← HR.out, HRT.out]; rfl
      have HZ := Lib.hid hz
      have HBW := Lib.hid hbw2
      clear hz hbw2 hV2 hT2
      go_wp2_with fail
      go_ret
      exact ⟨by rw [HZ.out]; rfl, HBW.out⟩
    | true =>
      obtain ⟨⟨c0, c1, c2, c3⟩, f0, f1, f2, f3⟩ := hV2.facts
      obtain ⟨e0, e1⟩ := hT2.facts
      have hzz := hV2.lt
      have HV2 := Lib.hid hV2
      have HT2 := Lib.hid hT2
      have HBW := Lib.hid hbw2
      clear hV2 hT2 hbw2
      by_cases h5 : k = 5
      · subst h5
        have hr : r = (ys.all (fun y => fkB y.k o) && a == 5) := by rw [← HR.out, HRT.out]; rfl
        have HR5 := Lib.hid hr
        clear hr HR HRT
        go_wp2_with fail
        go_loopw [25] (fun i wr => ∃ j : Nat, j ≤ ys.length ∧ i = .int .i64 (j : Int) ∧ (ys.take j).all (fun y => fkB y.k o) = true ∧ Below w.heap.size w wr ∧ VBox wr w.heap.size a n s (.slice p ys.length c) ∧ TBox wr (w.heap.size + 1) 5 o) (fun i _ => ys.length - (intOf i).toNat)
        case atStart => exact ⟨0, by omega, rfl, rfl, HBW.out, HV2.out, HT2.out⟩
        case round =>
          obtain ⟨j, hj, rfl, he, hB, hVr, hTr⟩ := hrel
          clear c0 c1 c2 c3 f0 f1 f2 f3 e0 e1 HV2 HT2 HBW hzz
          have HE := Lib.hid he; clear he
          by_cases hlt : j < ys.length
          · obtain ⟨b, off, rfl, hb, hc⟩ := HLIES.out.at (by omega)
            obtain ⟨y, hy⟩ : ∃ y, ys[j] = y := ⟨_, rfl⟩
            have hcx : ∀ (i : Nat) (u : Value), (y.cells)[i]? = some u → wr.cell? ⟨b, off + j * 4 + i, none⟩ = some u := fun i u hu => by
              rw [hB.cell (p := ⟨b, off + j * 4 + i, none⟩) hb, Nat.add_assoc]
              exact hc _ _ (itsCells_at ys j hlt i u (by rw [hy]; exact hu))
            obtain ⟨c0, c1, c2, c3⟩ := cell_four (W := wr) (b := b) (off := off) (k := j) (x := y) hcx
            obtain ⟨e0, e1⟩ := ((hTr.alloc (.cells #[.int .i64 y.k, .int .i64 y.n, .string y.s, .slice y.p y.m y.c] 30))).facts
            have hz : w.heap.size ≤ wr.heap.size := hB.size
            have hVr' := hVr.alloc (.cells #[.int .i64 y.k, .int .i64 y.n, .string y.s, .slice y.p y.m y.c] 30)
            have hTr' := hTr.alloc (.cells #[.int .i64 y.k, .int .i64 y.n, .string y.s, .slice y.p y.m y.c] 30)
            have hB' := hB.alloc hz (.cells #[.int .i64 y.k, .int .i64 y.n, .string y.s, .slice y.p y.m y.c] 30)
            have d0 : (0 : Int) ≤ (j : Int) := by omega
            have d2 : (j : Int) < (ys.length : Int) := by omega
            have hno : fkB y.k o = false → r = false := fun h => by rw [HR5.out, all_no hlt (f := fun y => fkB y.k o) (by show fkB ys[j].k o = false; rw [hy]; exact h)]; rfl
            have hyes : fkB y.k o = true → (ys.take (j + 1)).all (fun y => fkB y.k o) = true := fun h => all_take hlt HE.out (by show fkB ys[j].k o = true; rw [hy]; exact h)
            have hcall := fun W => fitsKind_any y o W
            generalize fkB y.k o = q at hno hyes hcall
            have HNO := Lib.hid hno
            have HYES := Lib.hid hyes
            have HV := Lib.hid hVr'
            have HTT := Lib.hid hTr'
            have HB := Lib.hid hB'
            have HC := Lib.hid hcall
            clear hno hyes hVr' hTr' hB' hVr hTr hy hcx hc hcall
            obtain ⟨yk, yn, yss, yp, ym, yc⟩ := y
            simp only at *
            go_wp2_with fail
            refine (HC.out _).mono ?_
            rintro e W ⟨rfl, hBq⟩
            have hVq := HV.out.below hBq
            have hTq := HTT.out.below hBq
            have hBW := HB.out.trans (hBq.mono HB.out.size)
            clear hBq c0 c1 c2 c3 e0 e1
            cases q with
            | true =>
              have htk := HYES.out rfl
              have HTK := Lib.hid htk
              clear htk
              go_wp2_with fail
              exact ⟨⟨j + 1, by omega, by go_num, HTK.out, hBW, hVq, hTq⟩, by simp [intOf]; omega⟩
            | false =>
              have hz := HNO.out rfl
              have HZ := Lib.hid hz
              clear hz
              go_wp2_with fail
              go_ret
              exact ⟨by rw [HZ.out]; rfl, hBW⟩
          · obtain rfl : j = ys.length := by omega
            obtain ⟨⟨c0, c1, c2, c3⟩, f0, f1, f2, f3⟩ := hVr.facts
            have hr : r = (a == 5) := by
              rw [HR5.out]
              have := HE.out
              rw [List.take_of_length_le (Nat.le_refl _)] at this
              rw [this]; rfl
            have HQ := Lib.hid hr
            clear hr
            go_wp2_with fail
            go_ret
            exact ⟨by rw [HQ.out]; rfl, hB⟩
      · have d5 : (k != 5) = true := by rw [bne_iff_ne]; exact h5
        have hr : r = fkB a k := by rw [← HR.out, HRT.out, if_neg h5]; rfl
        have HR5 := Lib.hid hr
        clear hr HR HRT h5
        go_wp2_with fail
        refine (fitsKind_any ⟨a, n, s, p, ys.length, c⟩ k _).mono ?_
        rintro e W ⟨rfl, hBq⟩
        have hBW := HBW.out.trans (hBq.mono HBW.out.size)
        have HBX := Lib.hid hBW
        clear hBW hBq
        rw [← HR5.out]
        go_wp2_with fail
        go_ret
        exact ⟨rfl, HBX.out⟩

/-- what fits and says least -/
def zeroK (k o : Int) : Int := if rtB k o = true ∧ k ≠ 3 ∧ k ≠ 4 then k else 0
set_option maxHeartbeats 2000000 in
set_option maxRecDepth 100000 in
theorem zero_any (k o : Int) (w : World) :
    Calls Tryz.prog 25 #[.agg #[.int .i64 k, .int .i64 o]] w fun e w' => e = .returned (valV (zeroK k o) 0 ⟨#[]⟩ (.slice none 0 0)) ∧ Below w.heap.size w w' := by
  have hT0 := (TBox.new w k o).alloc (.cells #[.int .i64 0, .int .i64 0, .string ⟨#[]⟩, .slice none 0 0] 30)
  have hV0 := VBox.new (w.alloc (.cells #[.int .i64 k, .int .i64 o] 26)) 0 0 ⟨#[]⟩ (.slice none 0 0)
  rw [World.size_alloc] at hV0
  have hb2 : Below w.heap.size w ((w.alloc (.cells #[.int .i64 k, .int .i64 o] 26)).alloc (.cells #[.int .i64 0, .int .i64 0, .string ⟨#[]⟩, .slice none 0 0] 30)) := below_two _ _
  obtain ⟨t, ht⟩ : ∃ t, rtB k o = t := ⟨_, rfl⟩
  have hb : ∀ r, r = zeroK k o → ∀ (e : Ending) (w' : World), (e = .returned (valV r 0 ⟨#[]⟩ (.slice none 0 0)) ∧ Below w.heap.size w w') → (e = .returned (valV (zeroK k o) 0 ⟨#[]⟩ (.slice none 0 0)) ∧ Below w.heap.size w w') := fun r hr e w' h => by rw [← hr]; exact h
  have hc := fun W => rightType_any k o W
  rw [ht] at hc
  have fin : ∀ (W1 : World), Below ((w.alloc (.cells #[.int .i64 k, .int .i64 o] 26)).alloc (.cells #[.int .i64 0, .int .i64 0, .string ⟨#[]⟩, .slice none 0 0] 30)).heap.size ((w.alloc (.cells #[.int .i64 k, .int .i64 o] 26)).alloc (.cells #[.int .i64 0, .int .i64 0, .string ⟨#[]⟩, .slice none 0 0] 30)) W1 → ∀ q : Int, VBox (putBox W1 (w.heap.size + 1) q 0 ⟨#[]⟩ (.slice none 0 0)) (w.heap.size + 1) q 0 ⟨#[]⟩ (.slice none 0 0) ∧ Below w.heap.size w (putBox W1 (w.heap.size + 1) q 0 ⟨#[]⟩ (.slice none 0 0)) := fun W1 hB q =>
    ⟨(hV0.below hB).put q 0 ⟨#[]⟩ (.slice none 0 0), below_put (hb2.trans (hB.mono (by simp; omega))) (Nat.le_succ _) q 0 ⟨#[]⟩ (.slice none 0 0)⟩
  have HT0 := Lib.hid hT0
  have HV0 := Lib.hid hV0
  have HC := Lib.hid hc
  have FIN := Lib.hid fin
  clear hT0 hV0 hb2 hc fin
  have h01 : w.heap.size ≠ w.heap.size + 1 := by omega
  cases t with
  | false =>
    refine Calls.mono ?_ (hb 0 (by unfold zeroK; rw [ht, if_neg (by simp)]))
    clear hb ht
    go_enter Tryz.func25, Tryz.ntmps25
    go_wp2_with fail
    refine (HC.out _).mono ?_
    rintro e W1 ⟨rfl, hB1⟩
    obtain ⟨hV, hB⟩ := FIN.out W1 hB1 0
    obtain ⟨e0, e1⟩ := (HT0.out.below hB1).facts
    obtain ⟨_, f0, f1, f2, f3⟩ := (HV0.out.below hB1).facts
    have HVV := Lib.hid hV
    have HBB := Lib.hid hB
    clear hV hB hB1
    go_wp2_with fail
    have hV := HVV.out
    have hB := HBB.out
    unfold putBox at hV hB
    generalize ((((W1.setCell ⟨w.heap.size + 1, 0, none⟩ (.int .i64 0)).setCell ⟨w.heap.size + 1, 1, none⟩ (.int .i64 0)).setCell ⟨w.heap.size + 1, 2, none⟩ (.string ⟨#[]⟩)).setCell ⟨w.heap.size + 1, 3, none⟩ (.slice none 0 0)) = W9 at hV hB ⊢
    obtain ⟨⟨x0, x1, x2, x3⟩, _⟩ := hV.facts
    exact bodyPost_ret (v := valV 0 0 ⟨#[]⟩ (.slice none 0 0)) (by simp [results, Tryz.results25, go_sem, x0, x1, x2, x3]) rfl ⟨rfl, hB⟩
  | true =>
    by_cases h3 : k = 3
    · have d3 : (k == 3) = true := beq_iff_eq.2 h3
      refine Calls.mono ?_ (hb 0 (by unfold zeroK; rw [if_neg (by omega)]))
      clear hb ht h3
      go_enter Tryz.func25, Tryz.ntmps25
      go_wp2_with fail
      refine (HC.out _).mono ?_
      rintro e W1 ⟨rfl, hB1⟩
      obtain ⟨hV, hB⟩ := FIN.out W1 hB1 0
      obtain ⟨e0, e1⟩ := (HT0.out.below hB1).facts
      obtain ⟨_, f0, f1, f2, f3⟩ := (HV0.out.below hB1).facts
      have HVV := Lib.hid hV
      have HBB := Lib.hid hB
      clear hV hB hB1
      go_wp2_with fail
      have hV := HVV.out
      have hB := HBB.out
      unfold putBox at hV hB
      generalize ((((W1.setCell ⟨w.heap.size + 1, 0, none⟩ (.int .i64 0)).setCell ⟨w.heap.size + 1, 1, none⟩ (.int .i64 0)).setCell ⟨w.heap.size + 1, 2, none⟩ (.string ⟨#[]⟩)).setCell ⟨w.heap.size + 1, 3, none⟩ (.slice none 0 0)) = W9 at hV hB ⊢
      obtain ⟨⟨x0, x1, x2, x3⟩, _⟩ := hV.facts
      exact bodyPost_ret (v := valV 0 0 ⟨#[]⟩ (.slice none 0 0)) (by simp [results, Tryz.results25, go_sem, x0, x1, x2, x3]) rfl ⟨rfl, hB⟩
    · have d3 : (k == 3) = false := beq_eq_false_iff_ne.2 h3
      by_cases h4 : k = 4
      · have d4 : (k == 4) = true := beq_iff_eq.2 h4
        refine Calls.mono ?_ (hb 0 (by unfold zeroK; rw [if_neg (by omega)]))
        clear hb ht h3 h4
        go_enter Tryz.func25, Tryz.ntmps25
        go_wp2_with fail
        refine (HC.out _).mono ?_
        rintro e W1 ⟨rfl, hB1⟩
        obtain ⟨hV, hB⟩ := FIN.out W1 hB1 0
        obtain ⟨e0, e1⟩ := (HT0.out.below hB1).facts
        obtain ⟨_, f0, f1, f2, f3⟩ := (HV0.out.below hB1).facts
        have HVV := Lib.hid hV
        have HBB := Lib.hid hB
        clear hV hB hB1
        go_wp2_with fail
        have hV := HVV.out
        have hB := HBB.out
        unfold putBox at hV hB
        generalize ((((W1.setCell ⟨w.heap.size + 1, 0, none⟩ (.int .i64 0)).setCell ⟨w.heap.size + 1, 1, none⟩ (.int .i64 0)).setCell ⟨w.heap.size + 1, 2, none⟩ (.string ⟨#[]⟩)).setCell ⟨w.heap.size + 1, 3, none⟩ (.slice none 0 0)) = W9 at hV hB ⊢
        obtain ⟨⟨x0, x1, x2, x3⟩, _⟩ := hV.facts
        exact bodyPost_ret (v := valV 0 0 ⟨#[]⟩ (.slice none 0 0)) (by simp [results, Tryz.results25, go_sem, x0, x1, x2, x3]) rfl ⟨rfl, hB⟩
      · have d4 : (k == 4) = false := beq_eq_false_iff_ne.2 h4
        refine Calls.mono ?_ (hb k (by unfold zeroK; rw [if_pos ⟨ht, h3, h4⟩]))
        clear hb ht h3 h4
        go_enter Tryz.func25, Tryz.ntmps25
        go_wp2_with fail
        refine (HC.out _).mono ?_
        rintro e W1 ⟨rfl, hB1⟩
        obtain ⟨hV, hB⟩ := FIN.out W1 hB1 k
        obtain ⟨e0, e1⟩ := (HT0.out.below hB1).facts
        obtain ⟨_, f0, f1, f2, f3⟩ := (HV0.out.below hB1).facts
        have HVV := Lib.hid hV
        have HBB := Lib.hid hB
        clear hV hB hB1
        go_wp2_with fail
        have hV := HVV.out
        have hB := HBB.out
        unfold putBox at hV hB
        generalize ((((W1.setCell ⟨w.heap.size + 1, 0, none⟩ (.int .i64 k)).setCell ⟨w.heap.size + 1, 1, none⟩ (.int .i64 0)).setCell ⟨w.heap.size + 1, 2, none⟩ (.string ⟨#[]⟩)).setCell ⟨w.heap.size + 1, 3, none⟩ (.slice none 0 0)) = W9 at hV hB ⊢
        obtain ⟨⟨x0, x1, x2, x3⟩, _⟩ := hV.facts
        exact bodyPost_ret (v := valV k 0 ⟨#[]⟩ (.slice none 0 0)) (by simp [results, Tryz.results25, go_sem, x0, x1, x2, x3]) rfl ⟨rfl, hB⟩
end Go.Proofs.YtmijlcilnaeppaaGreatDoor

/- What bytes say of values: reading as a function, and that it undoes laying. -/
set_option linter.unusedSimpArgs false
set_option linter.unusedVariables false
namespace Go.Proofs.YtmijlcilnaeppaaGreatDoor
open Go Go.RowKit Go.Shelf

/-- the number ahead in a list of bytes -/
noncomputable def numL (l : List UInt8) : Option Int := open Classical in if h : ∃ v, Wire.inRange v ∧ Wire.num v <+: l then some h.choose else none
theorem numL_of {l : List UInt8} {v : Int} (hv : Wire.inRange v) (h : Wire.num v <+: l) : numL l = some v := by
  have hx : ∃ v, Wire.inRange v ∧ Wire.num v <+: l := ⟨v, hv, h⟩
  unfold numL
  rw [dif_pos hx]
  exact congrArg some (Wire.num_inj hx.choose_spec.1 hv hx.choose_spec.2 h)
theorem numL_none {l : List UInt8} (h : ∀ v, Wire.inRange v → ¬ Wire.num v <+: l) : numL l = none := by
  unfold numL
  rw [dif_neg]
  rintro ⟨v, a, b⟩
  exact h v a b
theorem numL_some {l : List UInt8} {v : Int} (h : numL l = some v) : Wire.inRange v ∧ Wire.num v <+: l := by
  unfold numL at h
  split at h
  · rename_i hx
    cases h
    exact hx.choose_spec
  · cases h
theorem numL_append {v : Int} (hv : Wire.inRange v) (r : List UInt8) : numL (Wire.num v ++ r) = some v := numL_of hv (List.prefix_append _ _)
theorem numL_cut {v : Int} (hv : Wire.inRange v) {k : Nat} (hk : k < (Wire.num v).length) : numL ((Wire.num v).take k) = none := by
  refine numL_none fun v' hv' h => ?_
  have h1 : Wire.num v' <+: Wire.num v := h.trans (List.take_prefix _ _)
  have h2 := Wire.num_inj hv' hv h1 (List.prefix_refl _)
  have h3 := h.length_le
  rw [h2, List.length_take] at h3
  omega
theorem numL_nil : numL [] = none := by
  refine numL_none fun v hv h => ?_
  obtain ⟨i, x, e, _⟩ := Wire.num_form v
  have := h.length_le
  rw [e] at this
  simp at this
/-- the text ahead -/
noncomputable def textL (l : List UInt8) : Option (List UInt8) := open Classical in if h : ∃ t : List UInt8, t.length ≤ 10000 ∧ (Wire.num t.length ++ t) <+: l then some h.choose else none
theorem text_inj {l t t' : List UInt8} (h0 : t.length ≤ 10000) (h : (Wire.num t.length ++ t) <+: l) (h0' : t'.length ≤ 10000) (h' : (Wire.num t'.length ++ t') <+: l) : t = t' := by
  have e : (t.length : Int) = (t'.length : Int) := Wire.num_inj ⟨by omega, by omega⟩ ⟨by omega, by omega⟩ ((List.prefix_append _ _).trans h) ((List.prefix_append _ _).trans h')
  obtain ⟨r, rfl⟩ := h
  rw [← e, List.append_assoc] at h'
  have h2 : t' <+: t ++ r := by
    obtain ⟨q, hq⟩ := h'
    rw [List.append_assoc] at hq
    exact ⟨q, List.append_cancel_left hq⟩
  obtain ⟨q, hq⟩ := h2
  exact ((List.append_inj hq (by omega)).1).symm
theorem textL_of {l t : List UInt8} (h0 : t.length ≤ 10000) (h : (Wire.num t.length ++ t) <+: l) : textL l = some t := by
  have hx : ∃ t : List UInt8, t.length ≤ 10000 ∧ (Wire.num t.length ++ t) <+: l := ⟨t, h0, h⟩
  unfold textL
  rw [dif_pos hx]
  exact congrArg some (text_inj hx.choose_spec.1 hx.choose_spec.2 h0 h)
theorem textL_none {l : List UInt8} (h : ∀ t : List UInt8, t.length ≤ 10000 → ¬ (Wire.num t.length ++ t) <+: l) : textL l = none := by
  unfold textL
  rw [dif_neg]
  rintro ⟨v, a, b⟩
  exact h v a b
theorem textL_some {l t : List UInt8} (h : textL l = some t) : t.length ≤ 10000 ∧ (Wire.num t.length ++ t) <+: l := by
  unfold textL at h
  split at h
  · rename_i hx
    cases h
    exact hx.choose_spec
  · cases h
theorem textL_append {t : List UInt8} (h0 : t.length ≤ 10000) (r : List UInt8) : textL (Wire.num t.length ++ t ++ r) = some t := textL_of h0 (List.prefix_append _ _)
theorem textL_cut {t : List UInt8} (h0 : t.length ≤ 10000) {k : Nat} (hk : k < (Wire.num t.length ++ t).length) : textL ((Wire.num t.length ++ t).take k) = none := by
  refine textL_none fun t' h0' h => ?_
  have h1 : (Wire.num t'.length ++ t') <+: (Wire.num t.length ++ t) := h.trans (List.take_prefix _ _)
  have h2 := text_inj h0' h1 h0 (List.prefix_refl _)
  have h3 := h.length_le
  rw [h2, List.length_take] at h3
  omega

/-- the flat value ahead: itself, and how many bytes it has; or the error -/
noncomputable def decIn (l : List UInt8) : Except Int (V × Nat) :=
  match numL l with
  | none => .error 10
  | some k =>
    if k = 1 ∨ k = 3 ∨ k = 4 then
      match numL (l.drop (Wire.num k).length) with
      | none => .error 10
      | some n => if flatOk k n ⟨#[]⟩ 0 = true then .ok (.mk k n ⟨#[]⟩ [], (Wire.num k).length + (Wire.num n).length) else .error 30
    else if k = 2 then
      match textL (l.drop (Wire.num k).length) with
      | none => .error 10
      | some t => if flatOk 2 0 ⟨t.toArray⟩ 0 = true then .ok (.mk 2 0 ⟨t.toArray⟩ [], (Wire.num k).length + ((Wire.num t.length).length + t.length)) else .error 30
    else if k = 0 then .ok (.mk 0 0 ⟨#[]⟩ [], (Wire.num k).length)
    else .error 30
noncomputable def decMany : Nat → List UInt8 → Except Int (List V × Nat)
  | 0, l => .ok ([], 0)
  | n + 1, l =>
    match decIn l with
    | .error e => .error e
    | .ok (u, q) =>
      match decMany n (l.drop q) with
      | .error e => .error e
      | .ok (us, r) => .ok (u :: us, q + r)
/-- the value ahead -/
noncomputable def decV (l : List UInt8) : Except Int (V × Nat) :=
  match numL l with
  | none => .error 10
  | some k =>
    if k = 5 then
      match numL (l.drop (Wire.num k).length) with
      | none => .error 10
      | some n =>
        if n < 0 ∨ 12 < n then .error 30
        else
          match decMany n.toNat (l.drop ((Wire.num k).length + (Wire.num n).length)) with
          | .error e => .error e
          | .ok (us, r) => .ok (.mk 5 0 ⟨#[]⟩ us, (Wire.num k).length + (Wire.num n).length + r)
    else decIn l

theorem flat_ways {u : V} (h : u.flatOk = true) : (u.k = 0 ∧ u = .mk 0 0 ⟨#[]⟩ []) ∨ ((u.k = 1 ∨ u.k = 3 ∨ u.k = 4) ∧ u = .mk u.k u.n ⟨#[]⟩ [] ∧ flatOk u.k u.n ⟨#[]⟩ 0 = true ∧ Wire.inRange u.n) ∨ (u.k = 2 ∧ u = .mk 2 0 u.s [] ∧ flatOk 2 0 u.s 0 = true ∧ u.s.size ≤ 60) := by
  have hp := flatOk_parts h
  obtain ⟨k, n, s, l⟩ := u
  have h' : flatOk k n s l.length = true := h
  obtain ⟨hk, hs, hl, hn⟩ := hp
  simp only [V.k, V.n, V.s, V.l] at hk hs hl hn ⊢
  obtain rfl : l = [] := List.eq_nil_of_length_eq_zero hl
  unfold flatOk at h'
  by_cases h0 : k = 0
  · rw [if_pos h0] at h'
    have := of_decide_eq_true h'
    exact .inl ⟨h0, by rw [h0, this.1, data_of_size0 this.2.1]⟩
  rw [if_neg h0] at h'
  by_cases h1 : k = 1
  · rw [if_pos h1] at h'
    have := of_decide_eq_true h'
    refine .inr (.inl ⟨.inl h1, by rw [data_of_size0 this.2.1], ?_, ⟨by omega, by omega⟩⟩)
    unfold flatOk
    rw [if_neg h0, if_pos h1]
    exact decide_eq_true ⟨this.1, rfl, rfl⟩
  rw [if_neg h1] at h'
  by_cases h2 : k = 2
  · rw [if_pos h2] at h'
    have := of_decide_eq_true h'
    refine .inr (.inr ⟨h2, by rw [h2, this.1], ?_, hs⟩)
    unfold flatOk
    rw [if_neg (by decide), if_neg (by decide), if_pos rfl]
    exact decide_eq_true ⟨rfl, this.2.1, rfl⟩
  rw [if_neg h2] at h'
  by_cases h3 : k = 3 ∨ k = 4
  · rw [if_pos h3] at h'
    have := of_decide_eq_true h'
    refine .inr (.inl ⟨.inr h3, by rw [data_of_size0 this.2.1], ?_, ⟨by omega, by omega⟩⟩)
    unfold flatOk
    rw [if_neg h0, if_neg h1, if_neg h2, if_pos h3]
    exact decide_eq_true ⟨this.1, rfl, rfl⟩
  rw [if_neg h3] at h'
  cases h'

theorem decIn_append (u : V) (h : u.flatOk = true) (r : List UInt8) : decIn (u.bytesIn ++ r) = .ok (u, u.bytesIn.length) := by
  rcases flat_ways h with ⟨h0, h1⟩ | ⟨h0, h1, h2, h3⟩ | ⟨h0, h1, h2, h3⟩
  · have e : u.bytesIn = Wire.num 0 := by
      unfold V.bytesIn flatBytes
      rw [h0, if_neg (by omega), if_neg (by omega), List.append_nil]
    rw [e]
    unfold decIn
    rw [numL_append ⟨by decide, by decide⟩]
    simp only
    rw [if_neg (by decide), if_neg (by decide), if_pos trivial, ← h1]
  · have hk : Wire.inRange u.k := by rcases h0 with h0 | h0 | h0 <;> rw [h0] <;> exact ⟨by decide, by decide⟩
    have e : u.bytesIn = Wire.num u.k ++ Wire.num u.n := by
      unfold V.bytesIn flatBytes
      rw [if_pos h0]
    rw [e, List.append_assoc]
    unfold decIn
    rw [numL_append hk]
    simp only
    rw [if_pos h0, List.drop_left, numL_append h3]
    simp only
    rw [if_pos h2, ← h1, List.length_append]
  · have e : u.bytesIn = Wire.num 2 ++ (Wire.num u.s.data.toList.length ++ u.s.data.toList) := by
      unfold V.bytesIn flatBytes
      rw [h0, if_neg (by decide), if_pos rfl, text_len]
    rw [e, List.append_assoc]
    unfold decIn
    rw [numL_append ⟨by decide, by decide⟩]
    simp only
    rw [if_neg (by decide), if_pos trivial, List.drop_left, textL_append (by rw [text_len]; omega)]
    simp only
    rw [text_back, if_pos h2, ← h1, List.length_append, List.length_append]

theorem take_of_append {α : Type} (a b : List α) (k : Nat) (h : k < (a ++ b).length) : (k < a.length ∧ (a ++ b).take k = a.take k) ∨ (a.length ≤ k ∧ k - a.length < b.length ∧ (a ++ b).take k = a ++ b.take (k - a.length)) := by
  rw [List.length_append] at h
  rcases Nat.lt_or_ge k a.length with h1 | h1
  · exact .inl ⟨h1, List.take_append_of_le_length (by omega)⟩
  · exact .inr ⟨h1, by omega, by rw [List.take_append, List.take_of_length_le h1]⟩

theorem decIn_cut (u : V) (h : u.flatOk = true) {k : Nat} (hk : k < u.bytesIn.length) : decIn (u.bytesIn.take k) = .error 10 := by
  rcases flat_ways h with ⟨h0, h1⟩ | ⟨h0, h1, h2, h3⟩ | ⟨h0, h1, h2, h3⟩
  · have e : u.bytesIn = Wire.num 0 := by
      unfold V.bytesIn flatBytes
      rw [h0, if_neg (by omega), if_neg (by omega), List.append_nil]
    rw [e] at hk ⊢
    unfold decIn
    rw [numL_cut ⟨by decide, by decide⟩ hk]
  · have hr : Wire.inRange u.k := by rcases h0 with h0 | h0 | h0 <;> rw [h0] <;> exact ⟨by decide, by decide⟩
    have e : u.bytesIn = Wire.num u.k ++ Wire.num u.n := by
      unfold V.bytesIn flatBytes
      rw [if_pos h0]
    rw [e] at hk ⊢
    unfold decIn
    rcases take_of_append _ _ k hk with ⟨a, b⟩ | ⟨a, b, c⟩
    · rw [b, numL_cut hr a]
    · rw [c, numL_append hr]
      simp only
      rw [if_pos h0, List.drop_left, numL_cut h3 b]
  · have e : u.bytesIn = Wire.num 2 ++ (Wire.num u.s.data.toList.length ++ u.s.data.toList) := by
      unfold V.bytesIn flatBytes
      rw [h0, if_neg (by decide), if_pos rfl, text_len]
    rw [e] at hk ⊢
    unfold decIn
    rcases take_of_append _ _ k hk with ⟨a, b⟩ | ⟨a, b, c⟩
    · rw [b, numL_cut ⟨by decide, by decide⟩ a]
    · rw [c, numL_append ⟨by decide, by decide⟩]
      simp only
      rw [if_neg (by decide), if_pos trivial, List.drop_left, textL_cut (by rw [text_len]; omega) b]

theorem decMany_succ (n : Nat) (l : List UInt8) : decMany (n + 1) l = (match decIn l with
    | .error e => .error e
    | .ok (u, q) =>
      match decMany n (l.drop q) with
      | .error e => .error e
      | .ok (us, r) => .ok (u :: us, q + r)) := rfl
theorem decMany_append : ∀ (us : List V), (∀ u ∈ us, u.flatOk = true) → ∀ r, decMany us.length (us.flatMap V.bytesIn ++ r) = .ok (us, (us.flatMap V.bytesIn).length)
  | [], _, r => rfl
  | u :: us, h, r => by
    rw [List.length_cons, decMany_succ, List.flatMap_cons, List.append_assoc, decIn_append u (h u (by simp))]
    simp only
    rw [List.drop_left, decMany_append us (fun v hv => h v (by simp [hv])) r]
    simp only [List.length_append]
theorem decMany_cut : ∀ (us : List V), (∀ u ∈ us, u.flatOk = true) → ∀ k, k < (us.flatMap V.bytesIn).length → decMany us.length ((us.flatMap V.bytesIn).take k) = .error 10
  | [], _, k, hk => by simp at hk
  | u :: us, h, k, hk => by
    rw [List.flatMap_cons] at hk ⊢
    rw [List.length_cons, decMany_succ]
    rcases take_of_append _ _ k hk with ⟨a, b⟩ | ⟨a, b, c⟩
    · rw [b, decIn_cut u (h u (by simp)) a]
    · rw [c, decIn_append u (h u (by simp))]
      simp only
      rw [List.drop_left, decMany_cut us (fun v hv => h v (by simp [hv])) _ b]

theorem decV_flat {l : List UInt8} {u : V} {r : List UInt8} (h : u.flatOk = true) (hl : l = u.bytesIn ++ r) : decV l = decIn l := by
  have hp := (flatOk_parts h).1
  have e : ∃ r', l = Wire.num u.k ++ r' := by
    rw [hl]
    unfold V.bytesIn flatBytes
    rw [List.append_assoc]
    exact ⟨_, rfl⟩
  obtain ⟨r', e⟩ := e
  unfold decV
  rw [e, numL_append ⟨by omega, by omega⟩]
  simp only
  rw [if_neg (by omega)]

/-- Decode undoes Encode -/
theorem decV_append (v : V) (h : v.ok = true) (r : List UInt8) : decV (v.bytes ++ r) = .ok (v, v.bytes.length) := by
  by_cases h5 : v.k = 5
  · obtain ⟨e, hl, hu⟩ := ok_list h h5
    have eb : v.bytes = Wire.num 5 ++ Wire.num v.l.length ++ v.l.flatMap V.bytesIn := by unfold V.bytes; rw [if_pos h5]
    have hn : Wire.inRange (v.l.length : Int) := ⟨by omega, by omega⟩
    rw [eb]
    unfold decV
    have e1 : Wire.num 5 ++ Wire.num (v.l.length : Int) ++ v.l.flatMap V.bytesIn ++ r = Wire.num 5 ++ (Wire.num (v.l.length : Int) ++ (v.l.flatMap V.bytesIn ++ r)) := by simp
    have e2 : (Wire.num 5 ++ (Wire.num (v.l.length : Int) ++ (v.l.flatMap V.bytesIn ++ r))).drop ((Wire.num 5).length + (Wire.num (v.l.length : Int)).length) = v.l.flatMap V.bytesIn ++ r := by
      rw [← List.drop_drop, List.drop_left, List.drop_left]
    rw [e1, numL_append ⟨by decide, by decide⟩]
    simp only
    rw [if_pos trivial, List.drop_left, numL_append hn]
    simp only
    rw [if_neg (by omega), e2, Int.toNat_natCast, decMany_append v.l (fun u hu' => (okIn_parts (hu u hu')).2) r]
    simp only
    rw [← e, List.length_append, List.length_append]
  · have hf := ok_flat h h5
    have eb : v.bytes = v.bytesIn := by unfold V.bytes; rw [if_neg h5]
    rw [eb, decV_flat hf rfl]
    exact decIn_append v hf r

/-- bytes that end too early are none -/
theorem decV_cut (v : V) (h : v.ok = true) {k : Nat} (hk : k < v.bytes.length) : decV (v.bytes.take k) = .error 10 := by
  by_cases h5 : v.k = 5
  · obtain ⟨e, hl, hu⟩ := ok_list h h5
    have eb : v.bytes = Wire.num 5 ++ (Wire.num v.l.length ++ v.l.flatMap V.bytesIn) := by unfold V.bytes; rw [if_pos h5, List.append_assoc]
    have hn : Wire.inRange (v.l.length : Int) := ⟨by omega, by omega⟩
    rw [eb] at hk ⊢
    unfold decV
    rcases take_of_append _ _ k hk with ⟨a, b⟩ | ⟨a, b, c⟩
    · rw [b, numL_cut ⟨by decide, by decide⟩ a]
    · rw [c, numL_append ⟨by decide, by decide⟩]
      simp only
      rw [if_pos trivial, List.drop_left]
      rcases take_of_append _ _ _ b with ⟨a', b'⟩ | ⟨a', b', c'⟩
      · rw [b', numL_cut hn a']
      · rw [c', numL_append hn]
        simp only
        rw [if_neg (by omega), ← List.drop_drop, List.drop_left, List.drop_left, Int.toNat_natCast, decMany_cut v.l (fun u hu' => (okIn_parts (hu u hu')).2) _ b']
  · have hf := ok_flat h h5
    have eb : v.bytes = v.bytesIn := by unfold V.bytes; rw [if_neg h5]
    rw [eb] at hk ⊢
    have hd := decIn_cut v hf hk
    have hp := (flatOk_parts hf).1
    unfold decV
    cases hn : numL (v.bytesIn.take k) with
    | none => rfl
    | some j =>
      simp only
      have := numL_some hn
      have h2 : Wire.num v.k <+: v.bytesIn := by unfold V.bytesIn flatBytes; exact List.prefix_append _ _
      have h3 := Wire.num_inj this.1 ⟨by omega, by omega⟩ (this.2.trans (List.take_prefix _ _)) h2
      rw [if_neg (by omega)]
      exact hd
end Go.Proofs.YtmijlcilnaeppaaGreatDoor
