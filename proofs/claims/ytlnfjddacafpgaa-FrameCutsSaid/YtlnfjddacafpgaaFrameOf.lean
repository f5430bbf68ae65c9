/- FrameOf: of raw numbers, a frame that is right. -/
import Derived.StillTailTactics
import Derived.Test.YtlnfjddacafpgaaFrameRead
import Derived.Test.YtlnfjddacafpgaaFramePick
namespace Go.Proofs.Ytlnfjddacafpgaa
open Go Go.RowKit Wire

set_option maxRecDepth 100000 in
set_option maxHeartbeats 4000000 in
theorem frameOf_any (e a k : Int) (s : ByteArray) (he : -9223372036854775808 ≤ e ∧ e ≤ 9223372036854775807) (ha : -9223372036854775808 ≤ a ∧ a ≤ 9223372036854775807) (hk : -9223372036854775808 ≤ k ∧ k ≤ 9223372036854775807) (hs : s.size ≤ maxLen) (w : World) :
    Calls Try.prog 13 #[frameV e a k s] w fun x w' => x = .returned (frameV (1 + Frame.pickOf e 16777215 : Nat) (Frame.pickOf a 64 : Nat) (1 + Frame.pickOf k 4 : Nat) (if 53 < s.size then s.extract 0 53 else s)) ∧ Below w.heap.size w w' := by
  unfold maxLen at hs
  have p1 := Frame.pickOf_lt e (n := 16777215) (by decide)
  have p2 := Frame.pickOf_lt a (n := 64) (by decide)
  have p3 := Frame.pickOf_lt k (n := 4) (by decide)
  by_cases hm : 53 < s.size
  · go_enter Try.func13, Try.ntmps13
    go_wp2_with fail
    have hB := ((Below.refl w.heap.size w).alloc (Nat.le_refl _) (.cells #[.int .i64 e, .int .i64 a, .int .i64 k, .string s] 23)).alloc (by simp) (.cells #[.int .i64 0, .int .i64 0, .int .i64 0, .string ⟨#[]⟩] 23)
    have hbx := World.alloc_heap_new w (.cells #[.int .i64 e, .int .i64 a, .int .i64 k, .string s] 23)
    have hrs := World.alloc_heap_new (w.alloc (.cells #[.int .i64 e, .int .i64 a, .int .i64 k, .string s] 23)) (.cells #[.int .i64 0, .int .i64 0, .int .i64 0, .string ⟨#[]⟩] 23)
    rw [World.size_alloc] at hrs
    have hbx2 := (show _ = _ from Go.heap_alloc_old (w.alloc (.cells #[.int .i64 e, .int .i64 a, .int .i64 k, .string s] 23)) (.cells #[.int .i64 0, .int .i64 0, .int .i64 0, .string ⟨#[]⟩] 23) (r := w.heap.size) (by simp)).trans hbx
    clear hbx
    generalize (w.alloc (.cells #[.int .i64 e, .int .i64 a, .int .i64 k, .string s] 23)).alloc (.cells #[.int .i64 0, .int .i64 0, .int .i64 0, .string ⟨#[]⟩] 23) = W at hB hrs hbx2 ⊢
    have c0 : W.cell? ⟨w.heap.size, 0, none⟩ = some (.int .i64 e) := cell_of_row _ _ 0 _ _ (0, 0) hbx2
    have c1 : W.cell? ⟨w.heap.size, 1, none⟩ = some (.int .i64 a) := cell_of_row _ _ 1 _ _ (0, 0) hbx2
    have c2 : W.cell? ⟨w.heap.size, 2, none⟩ = some (.int .i64 k) := cell_of_row _ _ 2 _ _ (0, 0) hbx2
    have c3 : W.cell? ⟨w.heap.size, 3, none⟩ = some (.string s) := cell_of_row _ _ 3 _ _ (0, 0) hbx2
    have r0 : W.cell? ⟨w.heap.size + 1, 0, none⟩ = some (.int .i64 0) := cell_of_row _ _ 0 _ _ (0, 0) hrs
    have r1 : W.cell? ⟨w.heap.size + 1, 1, none⟩ = some (.int .i64 0) := cell_of_row _ _ 1 _ _ (0, 0) hrs
    have r2 : W.cell? ⟨w.heap.size + 1, 2, none⟩ = some (.int .i64 0) := cell_of_row _ _ 2 _ _ (0, 0) hrs
    have r3 : W.cell? ⟨w.heap.size + 1, 3, none⟩ = some (.string ⟨#[]⟩) := cell_of_row _ _ 3 _ _ (0, 0) hrs
    have f0 : W.frozen? ⟨w.heap.size + 1, 0, none⟩ = false := frozen_of_row _ _ 0 _ _ hrs
    have f1 : W.frozen? ⟨w.heap.size + 1, 1, none⟩ = false := frozen_of_row _ _ 1 _ _ hrs
    have f2 : W.frozen? ⟨w.heap.size + 1, 2, none⟩ = false := frozen_of_row _ _ 2 _ _ hrs
    have f3 : W.frozen? ⟨w.heap.size + 1, 3, none⟩ = false := frozen_of_row _ _ 3 _ _ hrs
    have HX := Lib.hid hrs
    clear hrs hbx2
    have m1 : (53 : Int) < (s.size : Int) := by omega
    have m2 : (53 : Int) ≤ (s.size : Int) := by omega
    have m3 : decide ((53 : Int) < (s.size : Int)) = true := decide_eq_true m1
    go_still_tail 19, (by kernel_rfl)
    still_call ((pick_any e 16777215 he (by decide) (by decide) _).mono fun _ _ h => ⟨h.1, h.2.symm⟩)
    repeat still_step
    still_call ((pick_any a 64 ha (by decide) (by decide) _).mono fun _ _ h => ⟨h.1, h.2.symm⟩)
    repeat still_step
    still_call ((pick_any k 4 hk (by decide) (by decide) _).mono fun _ _ h => ⟨h.1, h.2.symm⟩)
    repeat still_step
    refine wpStill_nil ?_
    change wpList _ _ _ _ _ W.drew
    generalize hE1 : Frame.pickOf e 16777215 = E at p1 ⊢
    have HE1 := Lib.hid hE1; clear hE1
    generalize hE2 : Frame.pickOf a 64 = A at p2 ⊢
    have HE2 := Lib.hid hE2; clear hE2
    generalize hE3 : Frame.pickOf k 4 = K0 at p3 ⊢
    have HE3 := Lib.hid hE3; clear hE3
    go_wp2_with fail
    have hend : ((((W.setCell ⟨w.heap.size + 1, 0, none⟩ (.int .i64 (1 + (E : Int)))).setCell ⟨w.heap.size + 1, 1, none⟩ (.int .i64 (A : Int))).setCell ⟨w.heap.size + 1, 2, none⟩ (.int .i64 (1 + (K0 : Int)))).setCell ⟨w.heap.size + 1, 3, none⟩ (.string (s.extract 0 53))).drew.heap[w.heap.size + 1]? = _ := row4 HX.out (.int .i64 (1 + (E : Int))) (.int .i64 (A : Int)) (.int .i64 (1 + (K0 : Int))) (.string (s.extract 0 53))
    have hB5 : Below w.heap.size w ((((W.setCell ⟨w.heap.size + 1, 0, none⟩ (.int .i64 (1 + (E : Int)))).setCell ⟨w.heap.size + 1, 1, none⟩ (.int .i64 (A : Int))).setCell ⟨w.heap.size + 1, 2, none⟩ (.int .i64 (1 + (K0 : Int)))).setCell ⟨w.heap.size + 1, 3, none⟩ (.string (s.extract 0 53))).drew := ((((hB.setCell (p := ⟨w.heap.size + 1, 0, none⟩) (by simp) (.int .i64 (1 + (E : Int)))).setCell (p := ⟨w.heap.size + 1, 1, none⟩) (by simp) (.int .i64 (A : Int))).setCell (p := ⟨w.heap.size + 1, 2, none⟩) (by simp) (.int .i64 (1 + (K0 : Int)))).setCell (p := ⟨w.heap.size + 1, 3, none⟩) (by simp) (.string (s.extract 0 53))).drew
    generalize ((((W.setCell ⟨w.heap.size + 1, 0, none⟩ (.int .i64 (1 + (E : Int)))).setCell ⟨w.heap.size + 1, 1, none⟩ (.int .i64 (A : Int))).setCell ⟨w.heap.size + 1, 2, none⟩ (.int .i64 (1 + (K0 : Int)))).setCell ⟨w.heap.size + 1, 3, none⟩ (.string (s.extract 0 53))).drew = W4 at hend hB5 ⊢
    have e0 := cell_of_row _ _ 0 _ _ (0, 0) hend
    have e1 := cell_of_row _ _ 1 _ _ (0, 0) hend
    have e2 := cell_of_row _ _ 2 _ _ (0, 0) hend
    have e3 := cell_of_row _ _ 3 _ _ (0, 0) hend
    exact bodyPost_ret (v := frameV (1 + (E : Int)) A (1 + (K0 : Int)) (s.extract 0 53)) (by simp [results, Try.results13, go_sem, e0, e1, e2, e3]) rfl ⟨by rw [HE1.out, HE2.out, HE3.out], hB5⟩
  · go_enter Try.func13, Try.ntmps13
    go_wp2_with fail
    have hB := ((Below.refl w.heap.size w).alloc (Nat.le_refl _) (.cells #[.int .i64 e, .int .i64 a, .int .i64 k, .string s] 23)).alloc (by simp) (.cells #[.int .i64 0, .int .i64 0, .int .i64 0, .string ⟨#[]⟩] 23)
    have hbx := World.alloc_heap_new w (.cells #[.int .i64 e, .int .i64 a, .int .i64 k, .string s] 23)
    have hrs := World.alloc_heap_new (w.alloc (.cells #[.int .i64 e, .int .i64 a, .int .i64 k, .string s] 23)) (.cells #[.int .i64 0, .int .i64 0, .int .i64 0, .string ⟨#[]⟩] 23)
    rw [World.size_alloc] at hrs
    have hbx2 := (show _ = _ from Go.heap_alloc_old (w.alloc (.cells #[.int .i64 e, .int .i64 a, .int .i64 k, .string s] 23)) (.cells #[.int .i64 0, .int .i64 0, .int .i64 0, .string ⟨#[]⟩] 23) (r := w.heap.size) (by simp)).trans hbx
    clear hbx
    generalize (w.alloc (.cells #[.int .i64 e, .int .i64 a, .int .i64 k, .string s] 23)).alloc (.cells #[.int .i64 0, .int .i64 0, .int .i64 0, .string ⟨#[]⟩] 23) = W at hB hrs hbx2 ⊢
    have c0 : W.cell? ⟨w.heap.size, 0, none⟩ = some (.int .i64 e) := cell_of_row _ _ 0 _ _ (0, 0) hbx2
    have c1 : W.cell? ⟨w.heap.size, 1, none⟩ = some (.int .i64 a) := cell_of_row _ _ 1 _ _ (0, 0) hbx2
    have c2 : W.cell? ⟨w.heap.size, 2, none⟩ = some (.int .i64 k) := cell_of_row _ _ 2 _ _ (0, 0) hbx2
    have c3 : W.cell? ⟨w.heap.size, 3, none⟩ = some (.string s) := cell_of_row _ _ 3 _ _ (0, 0) hbx2
    have r0 : W.cell? ⟨w.heap.size + 1, 0, none⟩ = some (.int .i64 0) := cell_of_row _ _ 0 _ _ (0, 0) hrs
    have r1 : W.cell? ⟨w.heap.size + 1, 1, none⟩ = some (.int .i64 0) := cell_of_row _ _ 1 _ _ (0, 0) hrs
    have r2 : W.cell? ⟨w.heap.size + 1, 2, none⟩ = some (.int .i64 0) := cell_of_row _ _ 2 _ _ (0, 0) hrs
    have r3 : W.cell? ⟨w.heap.size + 1, 3, none⟩ = some (.string ⟨#[]⟩) := cell_of_row _ _ 3 _ _ (0, 0) hrs
    have f0 : W.frozen? ⟨w.heap.size + 1, 0, none⟩ = false := frozen_of_row _ _ 0 _ _ hrs
    have f1 : W.frozen? ⟨w.heap.size + 1, 1, none⟩ = false := frozen_of_row _ _ 1 _ _ hrs
    have f2 : W.frozen? ⟨w.heap.size + 1, 2, none⟩ = false := frozen_of_row _ _ 2 _ _ hrs
    have f3 : W.frozen? ⟨w.heap.size + 1, 3, none⟩ = false := frozen_of_row _ _ 3 _ _ hrs
    have HX := Lib.hid hrs
    clear hrs hbx2
    have m3 : decide ((53 : Int) < (s.size : Int)) = false := decide_eq_false (by omega)
    have m4 : (s.size : Int) ≤ 53 := by omega
    have m5 : (if (53 : Int) < (s.size : Int) then (53 : Int) else (s.size : Int)) = (s.size : Int) := if_neg (by omega)
    have m6 : (0 : Int) ≤ (s.size : Int) := by omega
    go_still_tail 19, (by kernel_rfl)
    still_call ((pick_any e 16777215 he (by decide) (by decide) _).mono fun _ _ h => ⟨h.1, h.2.symm⟩)
    repeat still_step
    still_call ((pick_any a 64 ha (by decide) (by decide) _).mono fun _ _ h => ⟨h.1, h.2.symm⟩)
    repeat still_step
    still_call ((pick_any k 4 hk (by decide) (by decide) _).mono fun _ _ h => ⟨h.1, h.2.symm⟩)
    repeat still_step
    refine wpStill_nil ?_
    change wpList _ _ _ _ _ W.drew
    generalize hE1 : Frame.pickOf e 16777215 = E at p1 ⊢
    have HE1 := Lib.hid hE1; clear hE1
    generalize hE2 : Frame.pickOf a 64 = A at p2 ⊢
    have HE2 := Lib.hid hE2; clear hE2
    generalize hE3 : Frame.pickOf k 4 = K0 at p3 ⊢
    have HE3 := Lib.hid hE3; clear hE3
    go_wp2_with fail
    have hend : ((((W.setCell ⟨w.heap.size + 1, 0, none⟩ (.int .i64 (1 + (E : Int)))).setCell ⟨w.heap.size + 1, 1, none⟩ (.int .i64 (A : Int))).setCell ⟨w.heap.size + 1, 2, none⟩ (.int .i64 (1 + (K0 : Int)))).setCell ⟨w.heap.size + 1, 3, none⟩ (.string s)).drew.heap[w.heap.size + 1]? = _ := row4 HX.out (.int .i64 (1 + (E : Int))) (.int .i64 (A : Int)) (.int .i64 (1 + (K0 : Int))) (.string s)
    have hB5 : Below w.heap.size w ((((W.setCell ⟨w.heap.size + 1, 0, none⟩ (.int .i64 (1 + (E : Int)))).setCell ⟨w.heap.size + 1, 1, none⟩ (.int .i64 (A : Int))).setCell ⟨w.heap.size + 1, 2, none⟩ (.int .i64 (1 + (K0 : Int)))).setCell ⟨w.heap.size + 1, 3, none⟩ (.string s)).drew := ((((hB.setCell (p := ⟨w.heap.size + 1, 0, none⟩) (by simp) (.int .i64 (1 + (E : Int)))).setCell (p := ⟨w.heap.size + 1, 1, none⟩) (by simp) (.int .i64 (A : Int))).setCell (p := ⟨w.heap.size + 1, 2, none⟩) (by simp) (.int .i64 (1 + (K0 : Int)))).setCell (p := ⟨w.heap.size + 1, 3, none⟩) (by simp) (.string s)).drew
    generalize ((((W.setCell ⟨w.heap.size + 1, 0, none⟩ (.int .i64 (1 + (E : Int)))).setCell ⟨w.heap.size + 1, 1, none⟩ (.int .i64 (A : Int))).setCell ⟨w.heap.size + 1, 2, none⟩ (.int .i64 (1 + (K0 : Int)))).setCell ⟨w.heap.size + 1, 3, none⟩ (.string s)).drew = W4 at hend hB5 ⊢
    have e0 := cell_of_row _ _ 0 _ _ (0, 0) hend
    have e1 := cell_of_row _ _ 1 _ _ (0, 0) hend
    have e2 := cell_of_row _ _ 2 _ _ (0, 0) hend
    have e3 := cell_of_row _ _ 3 _ _ (0, 0) hend
    exact bodyPost_ret (v := frameV (1 + (E : Int)) A (1 + (K0 : Int)) s) (by simp [results, Try.results13, go_sem, e0, e1, e2, e3]) rfl ⟨by rw [HE1.out, HE2.out, HE3.out], hB5⟩
end Go.Proofs.Ytlnfjddacafpgaa
