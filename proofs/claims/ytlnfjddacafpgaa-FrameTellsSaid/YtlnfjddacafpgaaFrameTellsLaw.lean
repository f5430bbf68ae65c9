/- The walk of FrameTells. -/
import Derived.Test.YtlnfjddacafpgaaFrameShown
import Derived.Test.YtlnfjddacafpgaaFrameBackLaw
namespace Go.Proofs.Ytlnfjddacafpgaa
open Go Go.RowKit Wire

theorem FBox.f3 {W : World} {r : Nat} {e a k : Int} {s : ByteArray} (h : FBox W r e a k s) : W.frozen? ⟨r, 3, none⟩ = false := frozen_of_row _ _ 3 _ _ h
theorem FBox.set3 {W : World} {r : Nat} {e a k : Int} {s : ByteArray} (h : FBox W r e a k s) (s' : ByteArray) : FBox (W.setCell ⟨r, 3, none⟩ (.string s')) r e a k s' := heap_setCell_same W r 3 _ _ (.string s') h

theorem need_both (n : Int) (hn : -9223372036854775808 ≤ n ∧ n ≤ 9223372036854775807) : ∃ m : Int, (∀ w, Calls Try.prog 17 #[.int .i64 n] w fun x w' => x = .returned (.int .i64 m) ∧ w = w') ∧ (∀ w, Calls Try.prog 18 #[.int .i64 n] w fun x w' => x = .returned (.int .i64 m) ∧ w = w') := by
  by_cases h : n < 0
  · exact ⟨0, fun w => need_neg n h w, fun w => refNeed_neg n h w⟩
  · obtain ⟨m, rfl⟩ : ∃ m : Nat, n = (m : Int) := ⟨n.toNat, by omega⟩
    exact ⟨_, fun w => need_big m (by omega) w, fun w => refNeed_any m (by omega) w⟩

set_option maxRecDepth 100000 in
set_option maxHeartbeats 4000000 in
theorem tells_walk (e a k : Int) (s0 s1 s few : ByteArray) (at' : Int) (b : UInt8) (n m : Int) (E A K : Nat) (T : ByteArray) (L : List UInt8) (q : Nat)
    (h01 : (70 < s0.size ∧ s1 = s0.extract 0 70) ∨ (s0.size ≤ 70 ∧ s1 = s0)) (hfew : (70 < s.size ∧ few = s.extract 0 70) ∨ (s.size ≤ 70 ∧ few = s)) (hs0 : s0.size ≤ 9223372036854775807) (hs : s.size ≤ 9223372036854775807)
    (hof : ∀ w, Calls Try.prog 13 #[frameV e a k s1] w fun x w' => x = .returned (frameV E A K T) ∧ Below w.heap.size w w')
    (hlay : ∀ w, Calls Try.prog 12 #[frameV E A K T] w fun x w' => x = .returned (.tuple #[.string ⟨L.toArray⟩, .int .i64 0]) ∧ Below w.heap.size w w')
    (hLl : L.length = 64) (hq : q < 64)
    (hpick : ∀ w, Calls Try.prog 14 #[.int .i64 at', .int .i64 64] w fun x w' => x = .returned (.int .i64 (q : Int)) ∧ w = w')
    (hn1 : ∀ w, Calls Try.prog 17 #[.int .i64 n] w fun x w' => x = .returned (.int .i64 m) ∧ w = w') (hn2 : ∀ w, Calls Try.prog 18 #[.int .i64 n] w fun x w' => x = .returned (.int .i64 m) ∧ w = w') (w : World) :
    Calls Try.prog 3 #[frameV e a k s0, .string s, .int .i64 at', .int .u8 (b.toNat : Int), .int .i64 n] w fun x w' => x = .returned (.bool true) ∧ Below w.heap.size w w' := by
  have HOF := Lib.hid hof; clear hof
  have HLAY := Lib.hid hlay; clear hlay
  have HPICK := Lib.hid hpick; clear hpick
  have HN1 := Lib.hid hn1; clear hn1
  have HN2 := Lib.hid hn2; clear hn2
  have HLL := Lib.hid hLl
  have H01 := Lib.hid h01; clear h01
  have HFEW := Lib.hid hfew; clear hfew
  have hLz : (⟨L.toArray⟩ : ByteArray).size = 64 := by rw [← hLl]; exact List.size_toArray
  generalize hSe : (⟨L.toArray⟩ : ByteArray) = S at hLz HLAY
  have HSE := Lib.hid hSe
  have HLZ := Lib.hid hLz
  clear hSe hLl
  have hb0 := b.toNat_lt
  go_enter Try.func3, Try.ntmps3
  clear hLz
  go_wp2_with fail
  refine (examples_any _).mono ?_
  rintro x w1 ⟨rfl, hB⟩
  have hX := (FBox.new w e a k s0).below hB
  replace hB : Below w.heap.size w w1 := ((Below.refl _ _).alloc (Nat.le_refl _) _).trans (hB.mono (by simp))
  have c0 := hX.c0
  have c1 := hX.c1
  have c2 := hX.c2
  have c3 := hX.c3
  have fz := hX.f3
  have hX1 := hX.set3 s1
  have hB1 := hB.setCell (p := ⟨w.heap.size, 3, none⟩) (Nat.le_refl _) (.string s1)
  clear hX
  have HX1 := Lib.hid hX1
  clear hX1
  rcases H01.out with ⟨hm, hs1⟩ | ⟨hm, hs1⟩
  all_goals
    first
      | (have m1 : (70 : Int) < (s0.size : Int) := by omega
         have m2 : (70 : Int) ≤ (s0.size : Int) := by omega
         have HS1 := Lib.hid hs1
         clear hs1 hm
         go_wp2_with fail
         rw [← HS1.out]
         clear m1 m2)
      | (have m3 : decide ((70 : Int) < (s0.size : Int)) = false := decide_eq_false (by omega)
         have m4 : (s0.size : Int) ≤ 70 := by omega
         have m5 : (if (70 : Int) < (s0.size : Int) then (70 : Int) else (s0.size : Int)) = (s0.size : Int) := if_neg (by omega)
         have m6 : (0 : Int) ≤ (s0.size : Int) := by omega
         subst hs1
         clear hm
         go_wp2_with fail
         clear m3 m4 m5 m6)
    have hX := HX1.out
    clear c0 c1 c2 c3 fz HX1 hB
    generalize w1.setCell ⟨w.heap.size, 3, none⟩ (.string s1) = w2 at hX hB1 ⊢
    generalize hr : w.heap.size = r at hX hB1 ⊢
    have HRS := Lib.hid hr; clear hr
    refine (HOF.out _).mono ?_
    rintro x w3 ⟨rfl, hB'⟩
    replace hX := hX.below hB'
    replace hB1 := hB1.trans (hB'.mono (by rw [← HRS.out] at hB1 ⊢; exact hB1.size)); clear hB'
    go_wp2_with fail
    refine (HLAY.out _).mono ?_
    rintro x w4 ⟨rfl, hB'⟩
    replace hX := hX.below hB'
    replace hB1 := hB1.trans (hB'.mono (by rw [← HRS.out] at hB1 ⊢; exact hB1.size)); clear hB'
    have hlz := HLZ.out
    go_wp2_with fail
    refine (HPICK.out _).mono ?_
    rintro x w5 ⟨rfl, rfl⟩
    go_wp2_with fail
    clear hlz
    have hsz := HLZ.out
    have hqs : q < S.size := by omega
    have hS1 : S.size ≤ 64 := by omega
    clear hsz
    have f1 : (0 : Int) ≤ (q : Int) := by omega
    have f2 : (q : Int) ≤ (S.size : Int) := by omega
    have f2' : q ≤ S.size := by omega
    have f3 : IntKind.i64.wrap ((q : Int) + 1) = (q : Int) + 1 := IntWalk.i64_in _ (by omega)
    have f4 : (q : Int) + 1 ≤ (S.size : Int) := by omega
    have f4' : q + 1 ≤ S.size := by omega
    have f6 : (0 : Int) ≤ (q : Int) + 1 := by omega
    have f5 : ((q : Int) + 1).toNat = q + 1 := by omega
    have hcv := one_string b w4
    go_region
    clear f1 f2 f2' f3 f4 f4' f5 f6 hcv
    generalize S.extract 0 q ++ ({ data := #[b] } : ByteArray) ++ S.extract (q + 1) S.size = TT
    have hB' : Below w4.heap.size w4 (w4.alloc (.cells #[.int .u8 (b.toNat : Int)] 5)).drew := ((Below.refl _ _).alloc (Nat.le_refl _) _).drew
    replace hX := hX.below hB'
    replace hB1 := hB1.trans (hB'.mono (by rw [← HRS.out] at hB1 ⊢; exact hB1.size)); clear hB'
    generalize (w4.alloc (.cells #[.int .u8 (b.toNat : Int)] 5)).drew = w6 at hX hB1 ⊢
    have hz1 : (1 : Int) ≤ (S.size : Int) := by omega
    have hz1' : 1 ≤ S.size := by omega
    have c0 := hX.c0
    have c1 := hX.c1
    have c2 := hX.c2
    have c3 := hX.c3
    rcases HFEW.out with ⟨hm, hs1⟩ | ⟨hm, hs1⟩
    all_goals
      first
        | (have m1 : (70 : Int) < (s.size : Int) := by omega
           have m2 : (70 : Int) ≤ (s.size : Int) := by omega
           clear hm
           have HS9 := Lib.hid hs1
           clear hs1
           go_wp2_with fail
           clear m1 m2)
        | (have m3 : decide ((70 : Int) < (s.size : Int)) = false := decide_eq_false (by omega)
           have m4 : (s.size : Int) ≤ 70 := by omega
           have m5 : (if (70 : Int) < (s.size : Int) then (70 : Int) else (s.size : Int)) = (s.size : Int) := if_neg (by omega)
           have m6 : (0 : Int) ≤ (s.size : Int) := by omega
           clear hm
           have HS9 := Lib.hid hs1
           clear hs1
           go_wp2_with fail
           clear m3 m4 m5 m6)
      clear c0 c1 c2 c3
      refine (told_any e a k s1 _).mono ?_
      rintro x w7 ⟨rfl, hB'⟩
      replace hX := hX.below hB'
      replace hB1 := hB1.trans (hB'.mono (by rw [← HRS.out] at hB1 ⊢; exact hB1.size)); clear hB'
      have c0 := hX.c0
      have c1 := hX.c1
      have c2 := hX.c2
      have c3 := hX.c3
      go_wp2_with fail
      clear c0 c1 c2 c3 hX
      refine (HOF.out _).mono ?_
      rintro x w8 ⟨rfl, hB'⟩
      replace hB1 := hB1.trans (hB'.mono (by rw [← HRS.out] at hB1 ⊢; exact hB1.size)); clear hB'
      go_wp2_with fail
      refine (told_any _ _ _ _ _).mono ?_
      rintro x w9 ⟨rfl, hB'⟩
      replace hB1 := hB1.trans (hB'.mono (by rw [← HRS.out] at hB1 ⊢; exact hB1.size)); clear hB'
      go_wp2_with fail
      refine (read_any _ _).mono ?_
      rintro x w10 ⟨rfl, hB'⟩
      replace hB1 := hB1.trans (hB'.mono (by rw [← HRS.out] at hB1 ⊢; exact hB1.size)); clear hB'
      go_wp2_with fail
      refine (read_any _ _).mono ?_
      rintro x w11 ⟨rfl, hB'⟩
      replace hB1 := hB1.trans (hB'.mono (by rw [← HRS.out] at hB1 ⊢; exact hB1.size)); clear hB'
      go_wp2_with fail
      refine (read_any _ _).mono ?_
      rintro x w12 ⟨rfl, hB'⟩
      replace hB1 := hB1.trans (hB'.mono (by rw [← HRS.out] at hB1 ⊢; exact hB1.size)); clear hB'
      go_wp2_with fail
      refine (read_any _ _).mono ?_
      rintro x w13 ⟨rfl, hB'⟩
      replace hB1 := hB1.trans (hB'.mono (by rw [← HRS.out] at hB1 ⊢; exact hB1.size)); clear hB'
      go_wp2_with fail
      refine (HN1.out _).mono ?_
      rintro x w14 ⟨rfl, rfl⟩
      go_wp2_with fail
      refine (HN2.out _).mono ?_
      rintro x w14 ⟨rfl, rfl⟩
      go_wp2_with fail
      go_ret
      exact ⟨by simp, by rw [HRS.out]; exact hB1⟩

theorem frameTells_walk (e a k : Int) (s0 : ByteArray) (s : ByteArray) (at' by' n : Int) (he : -9223372036854775808 ≤ e ∧ e ≤ 9223372036854775807) (ha : -9223372036854775808 ≤ a ∧ a ≤ 9223372036854775807) (hk : -9223372036854775808 ≤ k ∧ k ≤ 9223372036854775807) (hs0 : s0.size ≤ maxLen)
    (hs : s.size ≤ maxLen) (hat : -9223372036854775808 ≤ at' ∧ at' ≤ 9223372036854775807) (hby : 0 ≤ by' ∧ by' ≤ 255) (hn : -9223372036854775808 ≤ n ∧ n ≤ 9223372036854775807) (w : World) :
    Calls Try.prog 3 #[frameV e a k s0, .string s, .int .i64 at', .int .u8 by', .int .i64 n] w fun x w' => x = .returned (.bool true) ∧ Below w.heap.size w w' := by
  unfold maxLen at hs0 hs
  obtain ⟨s1, h01⟩ : ∃ s1, (70 < s0.size ∧ s1 = s0.extract 0 70) ∨ (s0.size ≤ 70 ∧ s1 = s0) := by
    by_cases h : 70 < s0.size
    · exact ⟨_, .inl ⟨h, rfl⟩⟩
    · exact ⟨_, .inr ⟨by omega, rfl⟩⟩
  obtain ⟨few, hfew⟩ : ∃ few, (70 < s.size ∧ few = s.extract 0 70) ∨ (s.size ≤ 70 ∧ few = s) := by
    by_cases h : 70 < s.size
    · exact ⟨_, .inl ⟨h, rfl⟩⟩
    · exact ⟨_, .inr ⟨by omega, rfl⟩⟩
  have hs1 : s1.size ≤ maxLen := by
    unfold maxLen
    rcases h01 with ⟨_, rfl⟩ | ⟨_, rfl⟩
    · rw [ByteArray.size_extract]; omega
    · exact hs0
  have hof := frameOf_any e a k s1 he ha hk hs1
  have hr := few_right e a k s1
  obtain ⟨b, rfl⟩ : ∃ b : UInt8, by' = (b.toNat : Int) := ⟨UInt8.ofNat by'.toNat, by rw [Frame.ofNat_toNat (by omega)]; omega⟩
  obtain ⟨m, hn1, hn2⟩ := need_both n hn
  have hpick := fun w => pick_any at' 64 hat (by decide) (by decide) w
  have hq := Frame.pickOf_lt at' (n := 64) (by decide)
  exact tells_walk e a k s0 s1 s few at' b n m _ _ _ _ _ _ h01 hfew (by omega) (by omega) hof (refLay_good _ _ _ _ hr) (Frame.lay_length _ _ _ _ (right_len hr)) hq hpick hn1 hn2 w
end Go.Proofs.Ytlnfjddacafpgaa
