/- Join of any slice of frames; rows as slices. -/
import Derived.Test.YtnoegbogalfdgaaFrameItem
import Derived.Test.YtnoegbogalfdgaaOwned
set_option linter.unusedSimpArgs false
set_option linter.unusedVariables false
namespace Go.Proofs.Ytnoegbogalfdgaa
open Go Go.RowKit Wire

theorem join_zero (p : Option Addr) (c : Nat) (w : World) :
    Calls Try.prog 14 #[.slice p 0 c] w fun x w' => x = .returned (.tuple #[.slice none 0 0, .int .i64 0]) ∧ w = w' := by
  go_enter Try.func14, Try.ntmps14
  go_wp2
  go_step3
  go_wp2
  go_step3
  go_wp2
  go_loopw [4, 7, 12] (fun v4 v7 i wr => v4 = .slice none 0 0 ∧ v7 = .int .i64 0 ∧ i = .int .i64 0 ∧ w = wr) (fun _ _ _ _ => 0)
  case atStart => exact ⟨rfl, rfl, rfl, rfl⟩
  case round =>
    obtain ⟨rfl, rfl, rfl, rfl⟩ := hrel
    go_wp2
    rw [Exit.noGoto_ret]
    go_ret2
    exact ⟨rfl, rfl⟩
theorem row_slice {W : World} {base n size : Nat} {e : TypeId} {v : Value} {xs : List Value} (h : W.ownsRow base e size v n xs) : ∃ p c, v = .slice p n c := by
  rcases h.2 with ⟨rfl, rfl⟩ | ⟨g, cap, cur, rfl, _⟩
  · exact ⟨_, _, rfl⟩
  · exact ⟨_, _, rfl⟩
theorem parts_one (e a n : Nat) (s : ByteArray) (m : Nat) : ∀ u ∈ Frame.parts e a n s m, u.oneCell' = true := fun u hu => by
  unfold Frame.parts at hu
  obtain ⟨i, _, hi⟩ := List.mem_flatMap.1 hu
  exact part_one e a n s i u hi
theorem cell_lt {W : World} {b o : Nat} {v : Value} (h : W.cell? ⟨b, o, none⟩ = some v) : b < W.heap.size := by
  rcases Nat.lt_or_ge b W.heap.size with hlt | hge
  · exact hlt
  · exfalso
    unfold World.cell? at h
    rw [Array.getElem?_eq_none hge] at h
    simp at h
theorem row_slice' {W : World} {base n size : Nat} {e : TypeId} {v : Value} {xs : List Value} (h : W.ownsRow base e size v n xs) : ∃ p c, v = .slice p n c ∧ n ≤ c ∧ c ≤ maxLen := by
  rcases h.2 with ⟨rfl, rfl⟩ | ⟨g, cap, cur, rfl, _, _, h1, h2, _⟩
  · exact ⟨_, _, rfl, Nat.le_refl _, by unfold maxLen; omega⟩
  · exact ⟨_, _, rfl, h1, h2⟩
theorem row_form {W : World} {base n size : Nat} {e : TypeId} {v : Value} {xs : List Value} (h : W.ownsRow base e size v n xs) : (v = .slice none 0 0 ∧ n = 0) ∨ ∃ g c, v = .slice (some ⟨g, 0, none⟩) n c ∧ n ≤ c ∧ c ≤ maxLen := by
  rcases h.2 with h | ⟨g, cap, cur, rfl, _, _, h1, h2, _⟩
  · exact .inl h
  · exact .inr ⟨g, cap, rfl, h1, h2⟩
theorem Lies.cut {W : World} {p : Option Addr} {n c size k : Nat} {xs : List Value} (h : Lies W (.slice p n c) n size xs) (hk : k ≤ n) : Lies W (.slice p k c) k size (xs.take (k * size)) := by
  obtain ⟨h1, h2⟩ := h
  refine ⟨by rw [List.length_take, h1]; exact Nat.min_eq_left (Nat.mul_le_mul_right _ hk), ?_⟩
  rcases h2 with ⟨h0, p', c', hv⟩ | ⟨b, off, c', hv, hlt, hc⟩
  · have : k = 0 := by omega
    subst this
    exact .inl ⟨rfl, p, c, rfl⟩
  · simp at hv
    refine .inr ⟨b, off, c, by rw [hv.1], hlt, fun j u hu => hc j u ?_⟩
    rw [List.getElem?_take] at hu
    split at hu
    · exact hu
    · cases hu
theorem cells_take (fs : List Fr) (k : Nat) : (fs.flatMap Fr.cells).take (k * 4) = (fs.take k).flatMap Fr.cells := by
  induction fs generalizing k with
  | nil => simp
  | cons f r ih =>
    cases k with
    | zero => simp
    | succ k =>
      have hl : f.cells.length = 4 := rfl
      rw [List.take_succ_cons, List.flatMap_cons, List.flatMap_cons, ← ih k, List.take_append, List.take_of_length_le (by omega), hl]
      congr 2; omega
theorem cells_len (fs : List Fr) : (fs.flatMap Fr.cells).length = 4 * fs.length := by
  induction fs with
  | nil => rfl
  | cons f r ih =>
    have hl : f.cells.length = 4 := rfl
    rw [List.flatMap_cons, List.length_append, ih, hl, List.length_cons]; omega
theorem join_lies {p : Option Addr} {n c : Nat} (fs : List Fr) (hm : fs.length ≤ 1000000) (w : World) (h : Lies w (.slice p n c) n 4 (fs.flatMap Fr.cells)) :
    Calls Try.prog 14 #[.slice p n c] w fun x w' => ∃ v, x = .returned (.tuple #[v, .int .i64 ((joinGo fs 0 [] [] false 0).2 : Nat)]) ∧
      w'.ownsRow w.heap.size 9 1 v (joinGo fs 0 [] [] false 0).1.length ((joinGo fs 0 [] [] false 0).1.map .string) ∧ Below w.heap.size w w' := by
  rcases Nat.eq_zero_or_pos n with rfl | hn
  · have hl := h.1
    rw [cells_len] at hl
    obtain rfl : fs = [] := List.eq_nil_of_length_eq_zero (by omega)
    refine (join_zero p c w).mono ?_
    rintro x w' ⟨rfl, rfl⟩
    exact ⟨_, rfl, World.ownsRow_nil _ _ _ _, Below.refl _ _⟩
  · exact join_any fs hm hn w h
theorem infoStr' : True := trivial
theorem parts_frames (x : Item) (h : x.closed = false) : Frame.parts x.ep x.at' x.n x.s x.n = x.frames.flatMap Fr.cells := by
  unfold Frame.parts Item.frames
  rw [h]
  simp only [Bool.false_eq_true, if_false, List.append_nil]
  rw [List.flatMap_map]
  rfl
end Go.Proofs.Ytnoegbogalfdgaa
