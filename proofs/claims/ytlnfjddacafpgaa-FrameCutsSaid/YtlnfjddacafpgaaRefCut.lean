/- The reference's Cut. -/
import Derived.Test.YtlnfjddacafpgaaRefNeed
import Derived.Test.YtlnfjddacafpgaaFrameCut
import Derived.Test.YtlnfjddacafpgaaFrameNeedsLaw
namespace Go.Proofs.Ytlnfjddacafpgaa
open Go Go.RowKit

theorem need_pos (n : Nat) : 1 ≤ Frame.need n := by unfold Frame.need; omega

set_option maxHeartbeats 1000000 in
theorem refCut_bad (e a : Int) (s : ByteArray) (hs : s.size ≤ 4611686018427387904) (ha : -9223372036854775808 ≤ a ∧ a ≤ 9223372036854775807) (h : e < 1 ∨ 16777215 < e ∨ a < 0 ∨ (64 : Int) - (Frame.need s.size : Int) < a) (w : World) :
    Calls Try.prog 20 #[.int .i64 e, .int .i64 a, .string s] w fun x w' => x = .returned (.tuple #[.slice none 0 0, .int .i64 2]) ∧ w = w' := by
  have hnp := need_pos s.size
  have hnl := need_le s.size
  have hnd := fun w => refNeed_any s.size (by omega) w
  generalize Frame.need s.size = n at h hnp hnl hnd
  have HND := Lib.hid hnd; clear hnd
  by_cases h1 : e < 1
  · clear h
    go_enter Try.func20, Try.ntmps20
    go_wp2_with fail
    refine (HND.out _).mono ?_
    rintro x w1 ⟨rfl, rfl⟩
    go_wp2_with fail
    go_ret2
    exact ⟨rfl, rfl⟩
  have h1' : 1 ≤ e := by omega
  by_cases h2 : 16777215 < e
  · clear h
    go_enter Try.func20, Try.ntmps20
    go_wp2_with fail
    refine (HND.out _).mono ?_
    rintro x w1 ⟨rfl, rfl⟩
    go_wp2_with fail
    go_ret2
    exact ⟨rfl, rfl⟩
  have h2' : e ≤ 16777215 := by omega
  by_cases h3 : a < 0
  · clear h
    go_enter Try.func20, Try.ntmps20
    go_wp2_with fail
    refine (HND.out _).mono ?_
    rintro x w1 ⟨rfl, rfl⟩
    go_wp2_with fail
    go_ret2
    exact ⟨rfl, rfl⟩
  have h3' : 0 ≤ a := by omega
  by_cases h4 : 64 < a
  · clear h
    go_enter Try.func20, Try.ntmps20
    go_wp2_with fail
    refine (HND.out _).mono ?_
    rintro x w1 ⟨rfl, rfl⟩
    go_wp2_with fail
    go_ret2
    exact ⟨rfl, rfl⟩
  have h4' : a ≤ 64 := by omega
  have h5 : 64 - a < (n : Int) := by omega
  clear h
  go_enter Try.func20, Try.ntmps20
  go_wp2_with fail
  refine (HND.out _).mono ?_
  rintro x w1 ⟨rfl, rfl⟩
  go_wp2_with fail
  go_ret2
  exact ⟨rfl, rfl⟩

theorem extract_full (s : ByteArray) (i : Nat) : (s.extract (i * 53) s.size).data.toList = s.data.toList.drop (i * 53) := by
  rw [ByteArray.data_extract, Array.toList_extract, List.extract_eq_take_drop]
  exact List.take_of_length_le (by simp)
theorem extract_few (s : ByteArray) (m : Nat) : s.extract (m * 53) ((m + 1) * 53) = (s.extract (m * 53) s.size).extract 0 53 := by
  apply ByteArray.ext
  apply Array.toList_inj.1
  rw [ByteArray.data_extract, Array.toList_extract, List.extract_eq_take_drop, ByteArray.data_extract, Array.toList_extract, List.extract_eq_take_drop, extract_full]
  rw [List.drop_zero, Nat.sub_zero, show (m + 1) * 53 - m * 53 = 53 from by omega]
theorem extract_end (s : ByteArray) (m : Nat) (h : s.size = (m + 1) * 53) : s.extract (m * 53) ((m + 1) * 53) = s.extract (m * 53) s.size := by rw [h]

set_option maxRecDepth 100000 in
set_option maxHeartbeats 4000000 in
theorem refCut_good (e a : Nat) (s : ByteArray) (n : Nat) (hn : n = Frame.need s.size) (he : 1 ≤ e ∧ e ≤ 16777215) (ha : a + n ≤ 64) (w : World) :
    Calls Try.prog 20 #[.int .i64 e, .int .i64 a, .string s] w fun x w' => ∃ v, x = .returned (.tuple #[v, .int .i64 0]) ∧ w'.ownsRow w.heap.size 23 4 v n (Frame.parts e a n s n) ∧ Below w.heap.size w w' := by
  obtain ⟨i0, hi, hz0, hz1, hz2⟩ := info_parts infoFrame
  have hs1 : s.size ≤ 53 * n := by subst hn; unfold Frame.need; split <;> omega
  have hs2 : 53 * (n - 1) ≤ s.size := by subst hn; unfold Frame.need; split <;> omega
  have hn1 : 1 ≤ n := by subst hn; unfold Frame.need; omega
  have hnd := fun w => refNeed_any s.size (by omega) w
  rw [← hn] at hnd
  have HND := Lib.hid hnd
  have HN := Lib.hid hn; clear hn hnd
  go_enter Try.func20, Try.ntmps20
  go_wp2_with fail
  refine (HND.out _).mono ?_
  rintro x w1 ⟨rfl, rfl⟩
  go_wp2_with fail
  go_loopw [9, 10] (fun v i wr => ∃ m : Nat, m ≤ n ∧ i = .int .i64 (m : Int) ∧ wr.ownsRow w.heap.size 23 4 v m (Frame.parts e a n s m) ∧ Below w.heap.size w wr) (fun _ i _ => n - (intOf i).toNat)
  case atStart => exact ⟨0, by omega, rfl, World.ownsRow_nil _ _ _ _, Below.refl _ _⟩
  case round =>
    obtain ⟨m, hm, rfl, hrow, hB⟩ := hrel
    by_cases hlt : m < n
    · have hz := hB.size
      obtain ⟨str, hstr, hstr2⟩ : ∃ str : ByteArray, str = (if m + 1 = n then s.extract (m * 53) s.size else (s.extract (m * 53) s.size).extract 0 53) ∧ (s.size < (m + 1) * 53 → str = s.extract (m * 53) s.size) ∧ ((m + 1) * 53 ≤ s.size → str = s.extract (m * 53) ((m + 1) * 53)) := by
        refine ⟨_, rfl, fun h => ?_, fun h => ?_⟩
        · rw [if_pos (by omega)]
        · by_cases hl : m + 1 = n
          · rw [if_pos hl, extract_end s m (by omega)]
          · rw [if_neg hl, extract_few]
      have HSTR := Lib.hid hstr
      have HSTR2 := Lib.hid hstr2
      clear hstr hstr2
      obtain ⟨kd, hkd⟩ : ∃ kd : Int, kd = if m + 1 = n then 3 else 2 := ⟨_, rfl⟩
      have HKD := Lib.hid hkd
      clear hkd
      have g0 : (0 : Int) ≤ (m : Int) * 53 := by omega
      have g1 : (m : Int) * 53 ≤ (s.size : Int) := by omega
      rcases (show (m + 1 = n ∧ s.size < (m + 1) * 53) ∨ (m + 1 = n ∧ (m + 1) * 53 ≤ s.size) ∨ (¬ m + 1 = n ∧ (m + 1) * 53 ≤ s.size) from by omega) with ⟨hl, hq⟩ | ⟨hl, hq⟩ | ⟨hl, hq⟩
      · have dl : ((m : Int) + 1 == (n : Int)) = true := by rw [beq_iff_eq]; omega
        have hkd' : kd = 3 := by rw [HKD.out, if_pos hl]
        have hst : str = s.extract (m * 53) s.size := HSTR2.out.1 hq
        have HST := Lib.hid hst; clear hst
        have HL := Lib.hid hl; clear hl
        have hq1 : (s.size : Int) < ((m : Int) + 1) * 53 := by omega
        have HKD' := Lib.hid hkd'; clear hkd'
        go_wp2_with (at_builtin; refine wpList_append_lies _ rfl _ _ _ rfl w.heap.size 23 i0 _ 4 40 Try.underlying35 hi hz0 hz1 hz2 rfl (by omega) _ m _ rfl ((hrow.alloc _).alloc _) ⟨wr.heap.size + 1, 0, none⟩ 1 1 [.int .i64 e, .int .i64 ((a : Int) + (m : Int)), .int .i64 3, .string (s.extract (m * 53) s.size)] rfl rfl (World.news_of_block (cs := #[.int .i64 e, .int .i64 ((a : Int) + (m : Int)), .int .i64 3, .string (s.extract (m * 53) s.size)]) (t := 23) (fr := (0, 0)) (by have h := World.alloc_heap_new (wr.alloc (.cells #[.int .i64 e, .int .i64 ((a : Int) + (m : Int)), .int .i64 3, .string (s.extract (m * 53) s.size)] 23)) (.cells #[.int .i64 e, .int .i64 ((a : Int) + (m : Int)), .int .i64 3, .string (s.extract (m * 53) s.size)] 23); rw [World.size_alloc] at h; exact h)) (by simp [Value.oneCell']) (by omega) (by simp [maxLen]; omega) (by omega) (by simp; omega) (wr.heap.size + 2) (by simp) ?_; intro gg cap w2 hown1 hgrow hat hlt2)
        have hB1 : Below w.heap.size w w2 := ((hB.alloc hz _).alloc (by simp; omega) _).grown hgrow (by simp; omega) (fun g hg => (hrow.lt g hg).1)
        refine ⟨⟨m + 1, by omega, by go_num, ?_, hB1⟩, by simp [intOf]; omega⟩
        rw [Frame.parts_succ]
        have e1 : Frame.part e a n s m = [.int .i64 e, .int .i64 ((a : Int) + (m : Int)), .int .i64 3, .string (s.extract (m * 53) s.size)] := by unfold Frame.part; rw [← HSTR.out, ← HKD.out, HST.out, HKD'.out]
        rw [e1]
        exact hown1
      · have dl : ((m : Int) + 1 == (n : Int)) = true := by rw [beq_iff_eq]; omega
        have hkd' : kd = 3 := by rw [HKD.out, if_pos hl]
        have hst : str = s.extract (m * 53) ((m + 1) * 53) := HSTR2.out.2 hq
        have HST := Lib.hid hst; clear hst
        have HL := Lib.hid hl; clear hl
        obtain ⟨hh, hhe⟩ : ∃ hh, hh = (m + 1) * 53 := ⟨_, rfl⟩
        obtain ⟨ll, lle⟩ : ∃ ll, ll = m * 53 := ⟨_, rfl⟩
        rw [← hhe, ← lle] at HST
        have hq1 : ((m : Int) + 1) * 53 = (hh : Int) := by omega
        have hq2 : (m : Int) * 53 = (ll : Int) := by omega
        have hq3 : (hh : Int) ≤ (s.size : Int) := by omega
        have hq4 : (ll : Int) ≤ (hh : Int) := by omega
        have hq5 : ¬ (s.size : Int) < (hh : Int) := by omega
        have hq6 : decide (s.size < hh) = false := decide_eq_false (by omega)
        clear hhe lle g0 g1 hq
        have HKD' := Lib.hid hkd'; clear hkd'
        go_wp2_with (at_builtin; refine wpList_append_lies _ rfl _ _ _ rfl w.heap.size 23 i0 _ 4 40 Try.underlying35 hi hz0 hz1 hz2 rfl (by omega) _ m _ rfl ((hrow.alloc _).alloc _) ⟨wr.heap.size + 1, 0, none⟩ 1 1 [.int .i64 e, .int .i64 ((a : Int) + (m : Int)), .int .i64 3, .string (s.extract ll hh)] rfl rfl (World.news_of_block (cs := #[.int .i64 e, .int .i64 ((a : Int) + (m : Int)), .int .i64 3, .string (s.extract ll hh)]) (t := 23) (fr := (0, 0)) (by have h := World.alloc_heap_new (wr.alloc (.cells #[.int .i64 e, .int .i64 ((a : Int) + (m : Int)), .int .i64 3, .string (s.extract ll hh)] 23)) (.cells #[.int .i64 e, .int .i64 ((a : Int) + (m : Int)), .int .i64 3, .string (s.extract ll hh)] 23); rw [World.size_alloc] at h; exact h)) (by simp [Value.oneCell']) (by omega) (by simp [maxLen]; omega) (by omega) (by simp; omega) (wr.heap.size + 2) (by simp) ?_; intro gg cap w2 hown1 hgrow hat hlt2)
        have hB1 : Below w.heap.size w w2 := ((hB.alloc hz _).alloc (by simp; omega) _).grown hgrow (by simp; omega) (fun g hg => (hrow.lt g hg).1)
        refine ⟨⟨m + 1, by omega, by go_num, ?_, hB1⟩, by simp [intOf]; omega⟩
        rw [Frame.parts_succ]
        have e1 : Frame.part e a n s m = [.int .i64 e, .int .i64 ((a : Int) + (m : Int)), .int .i64 3, .string (s.extract ll hh)] := by unfold Frame.part; rw [← HSTR.out, ← HKD.out, HST.out, HKD'.out]
        rw [e1]
        exact hown1
      · have dl : ((m : Int) + 1 == (n : Int)) = false := by rw [beq_eq_false_iff_ne]; omega
        have hkd' : kd = 2 := by rw [HKD.out, if_neg hl]
        have hst : str = s.extract (m * 53) ((m + 1) * 53) := HSTR2.out.2 hq
        have HST := Lib.hid hst; clear hst
        have HL := Lib.hid hl; clear hl
        obtain ⟨hh, hhe⟩ : ∃ hh, hh = (m + 1) * 53 := ⟨_, rfl⟩
        obtain ⟨ll, lle⟩ : ∃ ll, ll = m * 53 := ⟨_, rfl⟩
        rw [← hhe, ← lle] at HST
        have hq1 : ((m : Int) + 1) * 53 = (hh : Int) := by omega
        have hq2 : (m : Int) * 53 = (ll : Int) := by omega
        have hq3 : (hh : Int) ≤ (s.size : Int) := by omega
        have hq4 : (ll : Int) ≤ (hh : Int) := by omega
        have hq5 : ¬ (s.size : Int) < (hh : Int) := by omega
        have hq6 : decide (s.size < hh) = false := decide_eq_false (by omega)
        clear hhe lle g0 g1 hq
        have HKD' := Lib.hid hkd'; clear hkd'
        go_wp2_with (at_builtin; refine wpList_append_lies _ rfl _ _ _ rfl w.heap.size 23 i0 _ 4 40 Try.underlying35 hi hz0 hz1 hz2 rfl (by omega) _ m _ rfl ((hrow.alloc _).alloc _) ⟨wr.heap.size + 1, 0, none⟩ 1 1 [.int .i64 e, .int .i64 ((a : Int) + (m : Int)), .int .i64 2, .string (s.extract ll hh)] rfl rfl (World.news_of_block (cs := #[.int .i64 e, .int .i64 ((a : Int) + (m : Int)), .int .i64 2, .string (s.extract ll hh)]) (t := 23) (fr := (0, 0)) (by have h := World.alloc_heap_new (wr.alloc (.cells #[.int .i64 e, .int .i64 ((a : Int) + (m : Int)), .int .i64 2, .string (s.extract ll hh)] 23)) (.cells #[.int .i64 e, .int .i64 ((a : Int) + (m : Int)), .int .i64 2, .string (s.extract ll hh)] 23); rw [World.size_alloc] at h; exact h)) (by simp [Value.oneCell']) (by omega) (by simp [maxLen]; omega) (by omega) (by simp; omega) (wr.heap.size + 2) (by simp) ?_; intro gg cap w2 hown1 hgrow hat hlt2)
        have hB1 : Below w.heap.size w w2 := ((hB.alloc hz _).alloc (by simp; omega) _).grown hgrow (by simp; omega) (fun g hg => (hrow.lt g hg).1)
        refine ⟨⟨m + 1, by omega, by go_num, ?_, hB1⟩, by simp [intOf]; omega⟩
        rw [Frame.parts_succ]
        have e1 : Frame.part e a n s m = [.int .i64 e, .int .i64 ((a : Int) + (m : Int)), .int .i64 2, .string (s.extract ll hh)] := by unfold Frame.part; rw [← HSTR.out, ← HKD.out, HST.out, HKD'.out]
        rw [e1]
        exact hown1
    · obtain rfl : m = n := by omega
      go_wp2
      go_ret2
      exact ⟨_, rfl, hrow, hB⟩
end Go.Proofs.Ytlnfjddacafpgaa
