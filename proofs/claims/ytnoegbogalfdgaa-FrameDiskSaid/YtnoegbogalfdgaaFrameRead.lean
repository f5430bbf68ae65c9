/- Read: the frame of a sector. -/
import Derived.BigRegion
import Derived.Test.YtnoegbogalfdgaaFrameLay
set_option linter.unusedSimpArgs false
set_option linter.unusedVariables false
namespace Go.Proofs.Ytnoegbogalfdgaa
open Go Go.RowKit Wire

/-- a frame that says nothing, and the error -/
abbrev noFrame : Ending := .returned (.tuple #[frameV 0 0 0 ⟨#[]⟩, .int .i64 120])

set_option maxHeartbeats 1000000 in
theorem read_short (s : ByteArray) (h : s.size ≠ 64) (w : World) :
    Calls Try.prog 13 #[.string s] w fun x w' => x = noFrame ∧ Below w.heap.size w w' := by
  have d1 : ((s.size : Int) == 64) = false := by rw [beq_eq_false_iff_ne]; omega
  go_enter Try.func13, Try.ntmps13
  go_wp2_with fail
  exact bodyPost_ret (v := .tuple #[frameV 0 0 0 ⟨#[]⟩, .int .i64 120]) (by simp [results, Try.results13, go_sem]) rfl ⟨rfl, (Below.refl _ w).alloc (Nat.le_refl _) _⟩

theorem at_of {s : ByteArray} {i : Nat} (h : i < s.size) : s[i] = s.data.toList[i]'(by simpa using h) := rfl

set_option maxHeartbeats 1000000 in
theorem read_long (s : ByteArray) (ha : 63 < s.size) (hb : s.size ≤ 64) (h5 : 53 < (s[5]'(by omega)).toNat) (w : World) :
    Calls Try.prog 13 #[.string s] w fun x w' => x = noFrame ∧ Below w.heap.size w w' := by
  have d1 : ((s.size : Int) == 64) = true := by rw [beq_iff_eq]; omega
  have d2 : 5 < s.size := by omega
  generalize hz : s[5] = z at h5
  have HZ := Lib.hid hz
  have hz2 := z.toNat_lt
  go_enter Try.func13, Try.ntmps13
  go_wp2_with fail
  exact bodyPost_ret (v := .tuple #[frameV 0 0 0 ⟨#[]⟩, .int .i64 120]) (by simp [results, Try.results13, go_sem]) rfl ⟨rfl, (Below.refl _ w).alloc (Nat.le_refl _) _⟩

theorem row4 {W : World} {r : Nat} {t : TypeId} {a b c d : Value} (h : W.heap[r]? = some (.cells #[a, b, c, d] t (0, 0))) (a' b' c' d' : Value) :
    ((((W.setCell ⟨r, 0, none⟩ a').setCell ⟨r, 1, none⟩ b').setCell ⟨r, 2, none⟩ c').setCell ⟨r, 3, none⟩ d').heap[r]? = some (.cells #[a', b', c', d'] t (0, 0)) := by
  have h1 := heap_setCell_same W r 0 _ t a' h
  have h2 := heap_setCell_same _ r 1 _ t b' h1
  have h3 := heap_setCell_same _ r 2 _ t c' h2
  have h4 := heap_setCell_same _ r 3 _ t d' h3
  exact h4

/-- what is told of a sector whose fields are these -/
def ReadSays (s : ByteArray) (E A K : Nat) (T : ByteArray) (w : World) (x : Ending) (w' : World) : Prop :=
  Below w.heap.size w w' ∧ ((Frame.right E A K T.data.toList = true ∧ Frame.lay E A K T.data.toList = s.data.toList ∧ x = .returned (.tuple #[frameV E A K T, .int .i64 0])) ∨
    ((Frame.right E A K T.data.toList = false ∨ Frame.lay E A K T.data.toList ≠ s.data.toList) ∧ x = noFrame))

set_option maxRecDepth 100000 in
set_option maxHeartbeats 2000000 in
theorem read_body (s : ByteArray) (ha : 63 < s.size) (hb : s.size ≤ 64) (h5 : (s[5]'(by omega)).toNat ≤ 53) (E A K : Nat) (T : ByteArray)
    (hE : E = (s[0]'(by omega)).toNat * 65536 + (s[1]'(by omega)).toNat * 256 + (s[2]'(by omega)).toNat) (hA : A = (s[3]'(by omega)).toNat) (hK : K = (s[4]'(by omega)).toNat) (hT : T = s.extract 7 (7 + (s[5]'(by omega)).toNat)) (w : World) :
    Calls Try.prog 13 #[.string s] w (ReadSays s E A K T w) := by
  have d1 : ((s.size : Int) == 64) = true := by rw [beq_iff_eq]; omega
  have d2 : 5 < s.size := by omega
  have i0 : 0 < s.size := by omega
  have i1 : 1 < s.size := by omega
  have i2 : 2 < s.size := by omega
  have i3 : 3 < s.size := by omega
  have i4 : 4 < s.size := by omega
  generalize hz : s[5] = z at h5 hT
  generalize hz0 : s[0] = z0 at hE
  generalize hz1 : s[1] = z1 at hE
  generalize hz2 : s[2] = z2 at hE
  generalize hz3 : s[3] = z3 at hA
  generalize hz4 : s[4] = z4 at hK
  have l5 := z.toNat_lt
  have l0 := z0.toNat_lt
  have l1 := z1.toNat_lt
  have l2 := z2.toNat_lt
  have l3 := z3.toNat_lt
  have l4 := z4.toNat_lt
  have HE := Lib.hid hE; clear hE
  have HA := Lib.hid hA; clear hA
  have HK := Lib.hid hK; clear hK
  have HT := Lib.hid hT; clear hT
  go_enter Try.func13, Try.ntmps13
  go_wp2_with fail
  have hbx : (w.alloc (.cells #[.int .i64 0, .int .i64 0, .int .i64 0, .string ⟨#[]⟩] 34)).heap[w.heap.size]? = some (.cells #[.int .i64 0, .int .i64 0, .int .i64 0, .string ⟨#[]⟩] 34 (0, 0)) := World.alloc_heap_new w _
  have hB : Below w.heap.size w (w.alloc (.cells #[.int .i64 0, .int .i64 0, .int .i64 0, .string ⟨#[]⟩] 34)) := (Below.refl _ w).alloc (Nat.le_refl _) _
  generalize w.alloc (.cells #[.int .i64 0, .int .i64 0, .int .i64 0, .string ⟨#[]⟩] 34) = W at hbx hB ⊢
  have j1 : (7 : Int) + (z.toNat : Int) ≤ (s.size : Int) := by omega
  have j2 : (7 : Int) ≤ 7 + (z.toNat : Int) := by omega
  have j3 : (0 : Int) ≤ 7 + (z.toNat : Int) := by omega
  have j4 : ((7 : Int) + (z.toNat : Int)).toNat = 7 + z.toNat := by omega
  go_region
  have he : (z0.toNat : Int) * 65536 + (z1.toNat : Int) * 256 + (z2.toNat : Int) = (E : Int) := by have := HE.out; omega
  rw [he, ← HA.out, ← HK.out, ← HT.out]
  have hlt : w.heap.size < W.heap.size := (Array.getElem?_eq_some_iff.1 hbx).1
  have hbx2 : (W.alloc (.cells #[.int .i64 E, .int .i64 A, .int .i64 K, .string T] 34)).drew.heap[w.heap.size]? = some (.cells #[.int .i64 0, .int .i64 0, .int .i64 0, .string ⟨#[]⟩] 34 (0, 0)) :=
    (show (W.alloc _).heap[w.heap.size]? = W.heap[w.heap.size]? from Go.heap_alloc_old W _ hlt).trans hbx
  have hbf : (W.alloc (.cells #[.int .i64 E, .int .i64 A, .int .i64 K, .string T] 34)).drew.heap[W.heap.size]? = some (.cells #[.int .i64 E, .int .i64 A, .int .i64 K, .string T] 34 (0, 0)) := World.alloc_heap_new W _
  have hB2 : Below w.heap.size w (W.alloc (.cells #[.int .i64 E, .int .i64 A, .int .i64 K, .string T] 34)).drew := (hB.alloc (by omega) _).drew
  generalize (W.alloc (.cells #[.int .i64 E, .int .i64 A, .int .i64 K, .string T] 34)).drew = W2 at hbx2 hbf hB2 ⊢
  generalize W.heap.size = B at hbf hlt ⊢
  clear hz hz0 hz1 hz2 hz3 hz4
  clear he hbx hB W j1 j2 j3 j4 i0 i1 i2 i3 i4 HE HA HK HT l0 l1 l2 l3 l4 h5
  have hne : w.heap.size ≠ B := by omega
  have hne' : B ≠ w.heap.size := by omega
  have cf : ∀ i, W2.cell? ⟨B, i, none⟩ = #[.int .i64 E, .int .i64 A, .int .i64 K, .string T][i]? := fun i => cell_of_row _ _ i _ _ (0, 0) hbf
  have cf0 : W2.cell? ⟨B, 0, none⟩ = some (.int .i64 E) := cf 0
  have cf1 : W2.cell? ⟨B, 1, none⟩ = some (.int .i64 A) := cf 1
  have cf2 : W2.cell? ⟨B, 2, none⟩ = some (.int .i64 K) := cf 2
  have cf3 : W2.cell? ⟨B, 3, none⟩ = some (.string T) := cf 3
  clear cf
  cases hr : Frame.right E A K T.data.toList with
  | false =>
    go_wp2_with fail
    refine (lay_bad E A K T hr _).mono ?_
    rintro x W3 ⟨rfl, hB3⟩
    clear cf0 cf1 cf2 cf3
    have hbx3 := (hB3.block _ (Array.getElem?_eq_some_iff.1 hbx2).1).trans hbx2
    have hB4 := hB2.trans (hB3.mono hB2.size)
    have c0 : W3.cell? ⟨w.heap.size, 0, none⟩ = some (.int .i64 0) := cell_of_row _ _ 0 _ _ (0, 0) hbx3
    have c1 : W3.cell? ⟨w.heap.size, 1, none⟩ = some (.int .i64 0) := cell_of_row _ _ 1 _ _ (0, 0) hbx3
    have c2 : W3.cell? ⟨w.heap.size, 2, none⟩ = some (.int .i64 0) := cell_of_row _ _ 2 _ _ (0, 0) hbx3
    have c3 : W3.cell? ⟨w.heap.size, 3, none⟩ = some (.string ⟨#[]⟩) := cell_of_row _ _ 3 _ _ (0, 0) hbx3
    have f0 : W3.frozen? ⟨w.heap.size, 0, none⟩ = false := frozen_of_row _ _ 0 _ _ hbx3
    have f1 : W3.frozen? ⟨w.heap.size, 1, none⟩ = false := frozen_of_row _ _ 1 _ _ hbx3
    have f2 : W3.frozen? ⟨w.heap.size, 2, none⟩ = false := frozen_of_row _ _ 2 _ _ hbx3
    have f3 : W3.frozen? ⟨w.heap.size, 3, none⟩ = false := frozen_of_row _ _ 3 _ _ hbx3
    have HR := Lib.hid hr; clear hr
    have HX := Lib.hid hbx3
    clear hbx2 hbf hB2 hB3 hbx3
    go_wp2_with fail
    have hend := row4 HX.out (.int .i64 0) (.int .i64 0) (.int .i64 0) (.string ⟨#[]⟩)
    have hB5 := (((hB4.setCell (p := ⟨w.heap.size, 0, none⟩) (Nat.le_refl _) (.int .i64 0)).setCell (p := ⟨w.heap.size, 1, none⟩) (Nat.le_refl _) (.int .i64 0)).setCell (p := ⟨w.heap.size, 2, none⟩) (Nat.le_refl _) (.int .i64 0)).setCell (p := ⟨w.heap.size, 3, none⟩) (Nat.le_refl _) (.string ⟨#[]⟩)
    generalize ((((W3.setCell ⟨w.heap.size, 0, none⟩ (.int .i64 0)).setCell ⟨w.heap.size, 1, none⟩ (.int .i64 0)).setCell ⟨w.heap.size, 2, none⟩ (.int .i64 0)).setCell ⟨w.heap.size, 3, none⟩ (.string ⟨#[]⟩)) = W4 at hend hB5 ⊢
    have e0 := cell_of_row _ _ 0 _ _ (0, 0) hend
    have e1 := cell_of_row _ _ 1 _ _ (0, 0) hend
    have e2 := cell_of_row _ _ 2 _ _ (0, 0) hend
    have e3 := cell_of_row _ _ 3 _ _ (0, 0) hend
    exact bodyPost_ret (v := .tuple #[frameV 0 0 0 ⟨#[]⟩, .int .i64 120]) (by simp [results, Try.results13, go_sem, e0, e1, e2, e3]) rfl ⟨hB5, .inr ⟨.inl HR.out, rfl⟩⟩
  | true =>
    go_wp2_with fail
    refine (lay_good E A K T hr _).mono ?_
    rintro x W3 ⟨rfl, hB3⟩
    clear cf0 cf1 cf2 cf3
    have hbx3 := (hB3.block _ (Array.getElem?_eq_some_iff.1 hbx2).1).trans hbx2
    have hB4 := hB2.trans (hB3.mono hB2.size)
    have c0 : W3.cell? ⟨w.heap.size, 0, none⟩ = some (.int .i64 0) := cell_of_row _ _ 0 _ _ (0, 0) hbx3
    have c1 : W3.cell? ⟨w.heap.size, 1, none⟩ = some (.int .i64 0) := cell_of_row _ _ 1 _ _ (0, 0) hbx3
    have c2 : W3.cell? ⟨w.heap.size, 2, none⟩ = some (.int .i64 0) := cell_of_row _ _ 2 _ _ (0, 0) hbx3
    have c3 : W3.cell? ⟨w.heap.size, 3, none⟩ = some (.string ⟨#[]⟩) := cell_of_row _ _ 3 _ _ (0, 0) hbx3
    have f0 : W3.frozen? ⟨w.heap.size, 0, none⟩ = false := frozen_of_row _ _ 0 _ _ hbx3
    have f1 : W3.frozen? ⟨w.heap.size, 1, none⟩ = false := frozen_of_row _ _ 1 _ _ hbx3
    have f2 : W3.frozen? ⟨w.heap.size, 2, none⟩ = false := frozen_of_row _ _ 2 _ _ hbx3
    have f3 : W3.frozen? ⟨w.heap.size, 3, none⟩ = false := frozen_of_row _ _ 3 _ _ hbx3
    have hbf3 := (hB3.block _ (Array.getElem?_eq_some_iff.1 hbf).1).trans hbf
    have g0 : W3.cell? ⟨B, 0, none⟩ = some (.int .i64 E) := cell_of_row _ _ 0 _ _ (0, 0) hbf3
    have g1 : W3.cell? ⟨B, 1, none⟩ = some (.int .i64 A) := cell_of_row _ _ 1 _ _ (0, 0) hbf3
    have g2 : W3.cell? ⟨B, 2, none⟩ = some (.int .i64 K) := cell_of_row _ _ 2 _ _ (0, 0) hbf3
    have g3 : W3.cell? ⟨B, 3, none⟩ = some (.string T) := cell_of_row _ _ 3 _ _ (0, 0) hbf3
    have HR := Lib.hid hr; clear hr
    have HX := Lib.hid hbx3
    clear hbx2 hbf hB2 hB3 hbx3 hbf3
    generalize hy : Frame.lay E A K T.data.toList = Y
    have HY := Lib.hid hy; clear hy
    by_cases hq : Y = s.data.toList
    · have q : (Y == s.toList) = true := by rw [beq_iff_eq, Lib.toList_data, hq]
      have HQ := Lib.hid hq; clear hq
      go_wp2_with fail
      have hend := row4 HX.out (.int .i64 E) (.int .i64 A) (.int .i64 K) (.string T)
      have hB5 := (((hB4.setCell (p := ⟨w.heap.size, 0, none⟩) (Nat.le_refl _) (.int .i64 E)).setCell (p := ⟨w.heap.size, 1, none⟩) (Nat.le_refl _) (.int .i64 A)).setCell (p := ⟨w.heap.size, 2, none⟩) (Nat.le_refl _) (.int .i64 K)).setCell (p := ⟨w.heap.size, 3, none⟩) (Nat.le_refl _) (.string T)
      generalize ((((W3.setCell ⟨w.heap.size, 0, none⟩ (.int .i64 E)).setCell ⟨w.heap.size, 1, none⟩ (.int .i64 A)).setCell ⟨w.heap.size, 2, none⟩ (.int .i64 K)).setCell ⟨w.heap.size, 3, none⟩ (.string T)) = W4 at hend hB5 ⊢
      have e0 := cell_of_row _ _ 0 _ _ (0, 0) hend
      have e1 := cell_of_row _ _ 1 _ _ (0, 0) hend
      have e2 := cell_of_row _ _ 2 _ _ (0, 0) hend
      have e3 := cell_of_row _ _ 3 _ _ (0, 0) hend
      exact bodyPost_ret (v := .tuple #[frameV E A K T, .int .i64 0]) (by simp [results, Try.results13, go_sem, e0, e1, e2, e3]) rfl ⟨hB5, .inl ⟨HR.out, HY.out.trans HQ.out, rfl⟩⟩
    · have q : (Y == s.toList) = false := by
        rw [beq_eq_false_iff_ne, Lib.toList_data]
        exact hq
      have HQ := Lib.hid hq; clear hq
      go_wp2_with fail
      have hend := row4 HX.out (.int .i64 0) (.int .i64 0) (.int .i64 0) (.string ⟨#[]⟩)
      have hB5 := (((hB4.setCell (p := ⟨w.heap.size, 0, none⟩) (Nat.le_refl _) (.int .i64 0)).setCell (p := ⟨w.heap.size, 1, none⟩) (Nat.le_refl _) (.int .i64 0)).setCell (p := ⟨w.heap.size, 2, none⟩) (Nat.le_refl _) (.int .i64 0)).setCell (p := ⟨w.heap.size, 3, none⟩) (Nat.le_refl _) (.string ⟨#[]⟩)
      generalize ((((W3.setCell ⟨w.heap.size, 0, none⟩ (.int .i64 0)).setCell ⟨w.heap.size, 1, none⟩ (.int .i64 0)).setCell ⟨w.heap.size, 2, none⟩ (.int .i64 0)).setCell ⟨w.heap.size, 3, none⟩ (.string ⟨#[]⟩)) = W4 at hend hB5 ⊢
      have e0 := cell_of_row _ _ 0 _ _ (0, 0) hend
      have e1 := cell_of_row _ _ 1 _ _ (0, 0) hend
      have e2 := cell_of_row _ _ 2 _ _ (0, 0) hend
      have e3 := cell_of_row _ _ 3 _ _ (0, 0) hend
      exact bodyPost_ret (v := .tuple #[frameV 0 0 0 ⟨#[]⟩, .int .i64 120]) (by simp [results, Try.results13, go_sem, e0, e1, e2, e3]) rfl ⟨hB5, .inr ⟨.inr (by rw [HY.out]; exact HQ.out), rfl⟩⟩
end Go.Proofs.Ytnoegbogalfdgaa
