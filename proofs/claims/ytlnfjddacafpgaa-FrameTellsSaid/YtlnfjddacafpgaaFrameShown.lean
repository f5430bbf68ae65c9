/- told, read: of both. -/
import Derived.Test.YtlnfjddacafpgaaRefRead
import Derived.Test.YtlnfjddacafpgaaRefNeed
namespace Go.Proofs.Ytlnfjddacafpgaa
open Go Go.RowKit Go.Shelf

set_option maxHeartbeats 2000000 in
theorem told_any (e a k : Int) (s : ByteArray) (w : World) :
    Calls Try.prog 15 #[frameV e a k s] w fun x w' => x = .returned (.bool true) ∧ Below w.heap.size w w' := by
  have hB0 := (Below.refl w.heap.size w).alloc (Nat.le_refl _) (.cells #[.int .i64 e, .int .i64 a, .int .i64 k, .string s] 23)
  have hX := FBox.new w e a k s
  have hboth : ∃ (S : ByteArray) (c : Int), (∀ w, Calls Try.prog 25 #[frameV e a k s] w fun x w' => x = .returned (.tuple #[.string S, .int .i64 c]) ∧ Below w.heap.size w w') ∧
      (∀ w, Calls Try.prog 12 #[frameV e a k s] w fun x w' => x = .returned (.tuple #[.string S, .int .i64 c]) ∧ Below w.heap.size w w') := by
    cases hr : Frame.right e a k s.data.toList with
    | false => exact ⟨_, _, fun w => lay_bad e a k s hr w, fun w => refLay_bad e a k s hr w⟩
    | true =>
      have h := hr
      unfold Frame.right at h
      simp only [decide_eq_true_eq] at h
      obtain ⟨e, rfl⟩ : ∃ E : Nat, e = (E : Int) := ⟨e.toNat, by omega⟩
      obtain ⟨a, rfl⟩ : ∃ E : Nat, a = (E : Int) := ⟨a.toNat, by omega⟩
      obtain ⟨k, rfl⟩ : ∃ E : Nat, k = (E : Int) := ⟨k.toNat, by omega⟩
      exact ⟨_, _, fun w => lay_good e a k s hr w, fun w => refLay_good e a k s hr w⟩
  obtain ⟨S, c, h1, h2⟩ := hboth
  have H1 := Lib.hid h1
  have H2 := Lib.hid h2
  clear h1 h2
  go_enter Try.func15, Try.ntmps15
  go_wp2_with fail
  generalize w.alloc (.cells #[.int .i64 e, .int .i64 a, .int .i64 k, .string s] 23) = w1 at hB0 hX ⊢
  refine (H1.out _).mono ?_
  rintro x w2 ⟨rfl, hB'⟩
  replace hX := hX.below hB'
  replace hB0 := hB0.trans (hB'.mono hB0.size)
  have c0 := hX.c0
  have c1 := hX.c1
  have c2 := hX.c2
  have c3 := hX.c3
  clear hB' hX
  go_wp2_with fail
  clear c0 c1 c2 c3
  refine (H2.out _).mono ?_
  rintro x w3 ⟨rfl, hB'⟩
  replace hB0 := hB0.trans (hB'.mono hB0.size)
  clear hB'
  go_wp2_with fail
  go_ret
  exact ⟨by simp, hB0⟩

set_option maxHeartbeats 2000000 in
theorem read_any (s : ByteArray) (w : World) :
    Calls Try.prog 16 #[.string s] w fun x w' => x = .returned (.bool true) ∧ Below w.heap.size w w' := by
  have hboth : ∃ (e a k : Int) (T : ByteArray) (c : Int), (∀ w, Calls Try.prog 26 #[.string s] w fun x w' => x = .returned (.tuple #[frameV e a k T, .int .i64 c]) ∧ Below w.heap.size w w') ∧
      (∀ w, Calls Try.prog 38 #[.string s] w fun x w' => x = .returned (.tuple #[frameV e a k T, .int .i64 c]) ∧ Below w.heap.size w w') := by
    by_cases h : ∃ (e a k : Nat) (t : List UInt8), Frame.right e a k t = true ∧ Frame.lay e a k t = s.data.toList
    · obtain ⟨e, a, k, t, h1, h2⟩ := h
      have hs : s = ⟨(Frame.lay e a k (⟨t.toArray⟩ : ByteArray).data.toList).toArray⟩ := by
        apply ByteArray.ext
        apply Array.toList_inj.1
        show s.data.toList = Frame.lay e a k t
        rw [h2]
      rw [hs]
      exact ⟨_, _, _, _, _, fun w => read_some e a k ⟨t.toArray⟩ h1 w, fun w => refRead_some e a k ⟨t.toArray⟩ h1 w⟩
    · have hn : ∀ (e a k : Nat) (t : List UInt8), Frame.right e a k t = true → Frame.lay e a k t ≠ s.data.toList := fun e a k t h1 h2 => h ⟨e, a, k, t, h1, h2⟩
      exact ⟨_, _, _, _, _, fun w => read_none s hn w, fun w => refRead_none s hn w⟩
  obtain ⟨e, a, k, T, c, h1, h2⟩ := hboth
  have H1 := Lib.hid h1
  have H2 := Lib.hid h2
  clear h1 h2
  go_enter Try.func16, Try.ntmps16
  go_wp2_with fail
  refine (H1.out _).mono ?_
  rintro x w2 ⟨rfl, hB⟩
  go_wp2_with fail
  have hX := FBox.new w2 e a k T
  replace hB := hB.alloc hB.size (.cells #[.int .i64 e, .int .i64 a, .int .i64 k, .string T] 23)
  generalize w2.alloc (.cells #[.int .i64 e, .int .i64 a, .int .i64 k, .string T] 23) = w3 at hB hX ⊢
  generalize w2.heap.size = r at hX ⊢
  refine (H2.out _).mono ?_
  rintro x w4 ⟨rfl, hB'⟩
  replace hX := (hX.below hB').alloc (.cells #[.int .i64 e, .int .i64 a, .int .i64 k, .string T] 23)
  replace hB := (hB.trans (hB'.mono hB.size)).alloc (hB.trans (hB'.mono hB.size)).size (.cells #[.int .i64 e, .int .i64 a, .int .i64 k, .string T] 23)
  have c0 := hX.c0
  have c1 := hX.c1
  have c2 := hX.c2
  have c3 := hX.c3
  clear hB' hX
  go_wp2_with fail
  go_ret
  exact ⟨by simp, hB⟩
end Go.Proofs.Ytlnfjddacafpgaa
