/- Cut: the frames of a batch. -/
import Derived.Deep.AppendLies
import Derived.OwnWalk
import Derived.RangeFuncRecord
import Derived.Test.YtnoegbogalfdgaaFrameRight
import Derived.Test.YtnoegbogalfdgaaFramePick
set_option linter.unusedSimpArgs false
set_option linter.unusedVariables false
namespace Frame
open Go
/-- the i-th of n frames of a batch -/
def part (e a n : Nat) (s : ByteArray) (i : Nat) : List Value :=
  [.int .i64 e, .int .i64 ((a : Int) + (i : Int)), .int .i64 (if i + 1 = n then 3 else 2), .string (if i + 1 = n then s.extract (i * 53) s.size else (s.extract (i * 53) s.size).extract 0 53)]
def parts (e a n : Nat) (s : ByteArray) (m : Nat) : List Value := (List.range m).flatMap (part e a n s)
theorem parts_succ (e a n : Nat) (s : ByteArray) (m : Nat) : parts e a n s (m + 1) = parts e a n s m ++ part e a n s m := by
  unfold parts
  rw [List.range_succ, List.flatMap_append]
  simp
end Frame
namespace Go.Proofs.Ytnoegbogalfdgaa
open Go Go.RowKit

theorem need_le (n : Nat) : Frame.need n ≤ n / 53 + 1 := by unfold Frame.need; split <;> omega

theorem infoFrame : (Try.prog.info? 34).map (fun i => (i.zero, i.size, i.bytes)) = some (some (.agg #[.int .i64 0, .int .i64 0, .int .i64 0, .string ⟨#[]⟩]), 4, 40) := by kernel_rfl

set_option maxHeartbeats 1000000 in
theorem cut_bad (e a : Int) (s : ByteArray) (hs : s.size ≤ 4611686018427387904) (h : e < 1 ∨ 16777215 < e ∨ a < 0 ∨ (64 : Int) - (Frame.need s.size : Int) < a) (w : World) :
    Calls Try.prog 7 #[.int .i64 e, .int .i64 a, .string s] w fun x w' => x = .returned (.tuple #[.slice none 0 0, .int .i64 2]) ∧ w = w' := by
  have hn := need_le s.size
  have hw : (Frame.need s.size : Int) ≤ 9223372036854775807 := by omega
  by_cases h1 : e < 1
  all_goals by_cases h2 : 16777215 < e
  all_goals by_cases h3 : a < 0
  all_goals by_cases h4 : (64 : Int) - (Frame.need s.size : Int) < a
  all_goals try (exfalso; omega)
  all_goals clear h
  all_goals go_enter Try.func7, Try.ntmps7
  all_goals go_wp2_with fail
  all_goals (refine (need_any s.size hs _).mono ?_; rintro x w1 ⟨rfl, rfl⟩)
  all_goals generalize Frame.need s.size = n at h4 hw hn ⊢
  all_goals go_wp2_with fail
  all_goals go_ret2
  all_goals exact ⟨rfl, rfl⟩

/-- the cells of a row's four and what the walk needs of them -/
theorem part_one (e a n : Nat) (s : ByteArray) (i : Nat) : ∀ u ∈ Frame.part e a n s i, u.oneCell' = true := by
  intro u hu
  simp only [Frame.part, List.mem_cons, List.not_mem_nil, or_false] at hu
  rcases hu with rfl | rfl | rfl | rfl <;> rfl

set_option maxRecDepth 100000 in
set_option maxHeartbeats 4000000 in
theorem cut_good (e a : Nat) (s : ByteArray) (n : Nat) (hn : n = Frame.need s.size) (he : 1 ≤ e ∧ e ≤ 16777215) (ha : a + n ≤ 64) (w : World) :
    Calls Try.prog 7 #[.int .i64 e, .int .i64 a, .string s] w fun x w' => ∃ v, x = .returned (.tuple #[v, .int .i64 0]) ∧ w'.ownsRow w.heap.size 34 4 v n (Frame.parts e a n s n) ∧ Below w.heap.size w w' := by
  obtain ⟨i0, hi, hz0, hz1, hz2⟩ := info_parts infoFrame
  have hs1 : s.size ≤ 53 * n := by subst hn; unfold Frame.need; split <;> omega
  have hs2 : 53 * (n - 1) ≤ s.size := by subst hn; unfold Frame.need; split <;> omega
  have hn1 : 1 ≤ n := by subst hn; unfold Frame.need; omega
  have HN := Lib.hid hn; clear hn
  go_enter Try.func7, Try.ntmps7
  go_wp2_with fail
  refine (need_any s.size (by omega) _).mono ?_
  rintro x w1 ⟨rfl, rfl⟩
  rw [← HN.out]
  go_wp2
  go_loopw [9, 32] (fun v i wr => ∃ m : Nat, m ≤ n ∧ i = .int .i64 (m : Int) ∧ wr.ownsRow w.heap.size 34 4 v m (Frame.parts e a n s m) ∧ Below w.heap.size w wr) (fun _ i _ => n - (intOf i).toNat)
  case atStart => exact ⟨0, by omega, rfl, World.ownsRow_nil _ _ _ _, Below.refl _ _⟩
  case round =>
    obtain ⟨m, hm, rfl, hrow, hB⟩ := hrel
    by_cases hlt : m < n
    · by_cases hlast : m + 1 = n
      · have d1 : ((m : Int) == (n : Int) - 1) = true := by rw [beq_iff_eq]; omega
        have hz := hB.size
        have HLA := Lib.hid hlast; clear hlast
        go_wp2_with (at_builtin; refine wpList_append_lies _ rfl _ _ _ rfl w.heap.size 34 i0 _ 4 40 Try.underlying28 hi hz0 hz1 hz2 rfl (by omega) _ m _ rfl ((hrow.alloc _).alloc _) ⟨wr.heap.size + 1, 0, none⟩ 1 1 [.int .i64 e, .int .i64 ((a : Int) + (m : Int)), .int .i64 3, .string (s.extract (m * 53) s.size)] rfl rfl (World.news_of_block (cs := #[.int .i64 e, .int .i64 ((a : Int) + (m : Int)), .int .i64 3, .string (s.extract (m * 53) s.size)]) (t := 34) (fr := (0, 0)) (by have h := World.alloc_heap_new (wr.alloc (.cells #[.int .i64 e, .int .i64 ((a : Int) + (m : Int)), .int .i64 3, .string (s.extract (m * 53) s.size)] 34)) (.cells #[.int .i64 e, .int .i64 ((a : Int) + (m : Int)), .int .i64 3, .string (s.extract (m * 53) s.size)] 34); rw [World.size_alloc] at h; exact h)) (by simp [Value.oneCell']) (by omega) (by simp [maxLen]; omega) (by omega) (by simp; omega) (wr.heap.size + 2) (by simp) ?_; intro gg cap w2 hown1 hgrow hat hlt2)
        have hB1 : Below w.heap.size w w2 := ((hB.alloc hz _).alloc (by simp; omega) _).grown hgrow (by simp; omega) (fun g hg => (hrow.lt g hg).1)
        refine ⟨⟨m + 1, by omega, by go_num, ?_, hB1⟩, by simp [intOf]; omega⟩
        rw [Frame.parts_succ]
        have e1 : Frame.part e a n s m = [.int .i64 e, .int .i64 ((a : Int) + (m : Int)), .int .i64 3, .string (s.extract (m * 53) s.size)] := by simp [Frame.part, HLA.out]
        rw [e1]
        exact hown1
      · have d1 : ((m : Int) == (n : Int) - 1) = false := by rw [beq_eq_false_iff_ne]; omega
        have j5 : (53 : Int) ≤ ((s.size - m * 53 : Nat) : Int) := by omega
        have hz := hB.size
        have HLA := Lib.hid hlast; clear hlast
        go_wp2_with (at_builtin; refine wpList_append_lies _ rfl _ _ _ rfl w.heap.size 34 i0 _ 4 40 Try.underlying28 hi hz0 hz1 hz2 rfl (by omega) _ m _ rfl ((hrow.alloc _).alloc _) ⟨wr.heap.size + 1, 0, none⟩ 1 1 [.int .i64 e, .int .i64 ((a : Int) + (m : Int)), .int .i64 2, .string ((s.extract (m * 53) s.size).extract 0 53)] rfl rfl (World.news_of_block (cs := #[.int .i64 e, .int .i64 ((a : Int) + (m : Int)), .int .i64 2, .string ((s.extract (m * 53) s.size).extract 0 53)]) (t := 34) (fr := (0, 0)) (by have h := World.alloc_heap_new (wr.alloc (.cells #[.int .i64 e, .int .i64 ((a : Int) + (m : Int)), .int .i64 2, .string ((s.extract (m * 53) s.size).extract 0 53)] 34)) (.cells #[.int .i64 e, .int .i64 ((a : Int) + (m : Int)), .int .i64 2, .string ((s.extract (m * 53) s.size).extract 0 53)] 34); rw [World.size_alloc] at h; exact h)) (by simp [Value.oneCell']) (by omega) (by simp [maxLen]; omega) (by omega) (by simp; omega) (wr.heap.size + 2) (by simp) ?_; intro gg cap w2 hown1 hgrow hat hlt2)
        have hB1 : Below w.heap.size w w2 := ((hB.alloc hz _).alloc (by simp; omega) _).grown hgrow (by simp; omega) (fun g hg => (hrow.lt g hg).1)
        refine ⟨⟨m + 1, by omega, by go_num, ?_, hB1⟩, by simp [intOf]; omega⟩
        rw [Frame.parts_succ]
        have e1 : Frame.part e a n s m = [.int .i64 e, .int .i64 ((a : Int) + (m : Int)), .int .i64 2, .string ((s.extract (m * 53) s.size).extract 0 53)] := by simp [Frame.part, HLA.out]
        rw [e1]
        exact hown1
    · obtain rfl : m = n := by omega
      go_wp2
      go_ret2
      exact ⟨_, rfl, hrow, hB⟩
end Go.Proofs.Ytnoegbogalfdgaa
