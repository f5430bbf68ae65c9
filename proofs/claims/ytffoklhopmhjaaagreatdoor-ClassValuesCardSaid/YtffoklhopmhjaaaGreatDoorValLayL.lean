/- val.lay of lists. -/
import Derived.Test.YtffoklhopmhjaaaGreatDoorValLayT
set_option linter.unusedSimpArgs false
set_option linter.unusedVariables false
namespace Go.Proofs.YtffoklhopmhjaaaGreatDoor
open Go Go.RowKit Go.Shelf

def itemsBytes : List It → List UInt8
  | [] => []
  | x :: xs => flatBytes x.k x.n x.s ++ itemsBytes xs
theorem itemsBytes_append (a b : List It) : itemsBytes (a ++ b) = itemsBytes a ++ itemsBytes b := by
  induction a with
  | nil => rfl
  | cons x xs ih => show flatBytes x.k x.n x.s ++ itemsBytes (xs ++ b) = _; rw [ih]; simp [itemsBytes]
theorem itemsBytes_take {xs : List It} {j : Nat} (h : j < xs.length) : itemsBytes (xs.take (j + 1)) = itemsBytes (xs.take j) ++ flatBytes xs[j].k xs[j].n xs[j].s := by
  rw [List.take_succ_eq_append_getElem h, itemsBytes_append]
  simp [itemsBytes]
theorem itemsBytes_le {xs : List It} {j : Nat} (h : j < xs.length) : (itemsBytes (xs.take j)).length + (flatBytes xs[j].k xs[j].n xs[j].s).length ≤ (itemsBytes xs).length := by
  have : itemsBytes xs = itemsBytes (xs.take (j + 1)) ++ itemsBytes (xs.drop (j + 1)) := by rw [← itemsBytes_append, List.take_append_drop]
  rw [this, List.length_append, itemsBytes_take h, List.length_append]
  omega

/-- what an item must keep -/
structure It.flat (x : It) : Prop where
  k5 : x.k ≠ 5
  k : -9223372036854775808 ≤ x.k ∧ x.k ≤ 9223372036854775807
  n : -9223372036854775808 ≤ x.n ∧ x.n ≤ 9223372036854775807
  s : x.s.size ≤ 10000

set_option maxHeartbeats 4000000 in
set_option maxRecDepth 100000 in
theorem lay_list (B b : Nat) (l : List UInt8) (n : Int) (s : ByteArray) (g off c : Nat) (xs : List It) (hf : ∀ x ∈ xs, x.flat) (hm : xs.length ≤ 12) (w : World) (h : Holds B b l w) (hg : g < B)
    (hc : ∀ (i : Nat) (h : i < xs.length) (j : Nat) (u : Value), (xs[i].cells)[j]? = some u → w.cell? ⟨g, off + i * 4 + j, none⟩ = some u)
    (hlen : l.length + (Wire.num 5).length + (Wire.num xs.length).length + (itemsBytes xs).length ≤ 140737488355328) :
    Calls Tryz.prog 26 #[.pointer (some ⟨b, 0, none⟩), valV 5 n s (.slice (some ⟨g, off, none⟩) xs.length c)] w fun e w' => e = .returned (.tuple #[]) ∧ Laid B b (l ++ Wire.num 5 ++ Wire.num xs.length ++ itemsBytes xs) w w' := by
  have hlt := holds_lt h
  have HC := Lib.hid hc; clear hc
  have HF := Lib.hid hf; clear hf
  have h0 := laid_box h (.cells #[.int .i64 5, .int .i64 n, .string s, .slice (some ⟨g, off, none⟩) xs.length c] 37)
  have b0 : (w.alloc (.cells #[.int .i64 5, .int .i64 n, .string s, .slice (some ⟨g, off, none⟩) xs.length c] 37)).heap[w.heap.size]? = some (.cells #[.int .i64 5, .int .i64 n, .string s, .slice (some ⟨g, off, none⟩) xs.length c] 37 (0, 0)) := World.alloc_heap_new _ _
  go_enter Tryz.func26, Tryz.ntmps26
  go_wp2_with fail
  refine (num_any 5 (by decide) (by decide) _).mono ?_
  rintro e w1 ⟨rfl, hB1⟩
  obtain ⟨h1, b1⟩ := laid_call h0 hB1 (by simp; omega) b0
  go_wp2_with fail
  refine (writeString_laid B b l _ _ h1.1 (by omega)).mono ?_
  rintro e w2 ⟨rfl, hL⟩
  obtain ⟨h2, b2⟩ := laid_write h1 hL b1 (by omega)
  have c0 : w2.cell? ⟨w.heap.size, 0, none⟩ = some (.int .i64 5) := by rw [Lib.cell_of_heap b2]; rfl
  have c3 : w2.cell? ⟨w.heap.size, 3, none⟩ = some (.slice (some ⟨g, off, none⟩) xs.length c) := by rw [Lib.cell_of_heap b2]; rfl
  clear h0 b0 h1 b1 hB1 hL
  go_wp2_with fail
  refine (num_any (xs.length : Int) (by omega) (by omega) _).mono ?_
  rintro e w3 ⟨rfl, hB3⟩
  obtain ⟨h3, b3⟩ := laid_call h2 hB3 (by have := holds_lt h2.1; omega) b2
  go_wp2_with fail
  refine (writeString_laid B b _ _ _ h3.1 (by rw [List.length_append]; omega)).mono ?_
  rintro e w4 ⟨rfl, hL⟩
  obtain ⟨h4, b4⟩ := laid_write h3 hL b3 (by omega)
  have c4 : w4.cell? ⟨w.heap.size, 3, none⟩ = some (.slice (some ⟨g, off, none⟩) xs.length c) := by rw [Lib.cell_of_heap b4]; rfl
  clear h2 b2 h3 b3 hB3 hL c0 c3
  go_wp2_with fail
  go_loopw [46] (fun i wr => ∃ k : Nat, k ≤ xs.length ∧ i = .int .i64 (k : Int) ∧ Laid B b (l ++ Wire.num 5 ++ Wire.num xs.length ++ itemsBytes (xs.take k)) w wr) (fun i _ => xs.length - (intOf i).toNat)
  case atStart => exact ⟨0, by omega, rfl, by simpa [itemsBytes] using h4⟩
  case round =>
    obtain ⟨k, hk, rfl, hL⟩ := hrel
    have HL := Lib.hid hL
    have hz := holds_lt hL.1
    by_cases hkl : k < xs.length
    · obtain ⟨x, hx⟩ : ∃ x, xs[k] = x := ⟨_, rfl⟩
      have hxf : x.flat := hx ▸ HF.out _ (List.getElem_mem hkl)
      have htk := itemsBytes_take hkl
      have hle := itemsBytes_le hkl
      rw [hx] at htk hle
      obtain ⟨c0, c1, c2, c3⟩ := cell_four (W := wr) (b := g) (off := off) (k := k) (x := x) (fun j u hu => by
        rw [hL.2.1.cell (p := ⟨g, off + k * 4 + j, none⟩) hg]; exact HC.out k hkl j u (by rw [hx]; exact hu))
      have HTK := Lib.hid htk
      clear htk hL hx
      have e0 : (0 : Int) ≤ (k : Int) := by omega
      have e1 : (k : Int) < (xs.length : Int) := by omega
      go_wp2_with fail
      refine (lay_flat B b _ x.k x.n hxf.k5 hxf.k.1 hxf.k.2 hxf.n.1 hxf.n.2 x.s hxf.s _ _ (Lib.IsBuilderF.alloc HL.out.1 _) (by simp only [List.length_append]; omega)).mono ?_
      rintro e w5 ⟨rfl, h5⟩
      have h6 : Laid B b (l ++ Wire.num 5 ++ Wire.num xs.length ++ itemsBytes (xs.take (k + 1))) w w5 := by
        rw [HTK.out, ← List.append_assoc]
        exact ⟨h5.1, (HL.out.2.1.alloc (by omega) _).trans h5.2.1, (HL.out.2.2.alloc _).trans h5.2.2⟩
      have H6 := Lib.hid h6
      clear h6 h5 c0 c1 c2 c3
      go_wp2_with fail
      exact ⟨⟨k + 1, by omega, by go_num, H6.out⟩, by simp [intOf]; omega⟩
    · obtain rfl : k = xs.length := by omega
      rw [List.take_length] at hL
      have HLL := Lib.hid hL
      clear hL
      go_wp2_with fail
      go_end0
      exact ⟨rfl, HLL.out⟩
end Go.Proofs.YtffoklhopmhjaaaGreatDoor
