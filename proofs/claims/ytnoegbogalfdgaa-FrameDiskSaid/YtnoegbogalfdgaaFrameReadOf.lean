/- Read, by what was laid. -/
import Derived.Test.YtnoegbogalfdgaaFrameRead
set_option linter.unusedSimpArgs false
set_option linter.unusedVariables false
namespace Go.Proofs.Ytnoegbogalfdgaa
open Go Go.RowKit Wire

/-- what no frame lays is none -/
theorem read_none (s : ByteArray) (h : ∀ (e a k : Nat) (t : List UInt8), Frame.right e a k t = true → Frame.lay e a k t ≠ s.data.toList) (w : World) :
    Calls Try.prog 13 #[.string s] w fun x w' => x = noFrame ∧ Below w.heap.size w w' := by
  by_cases hs : s.size = 64
  · by_cases h5 : (s[5]'(by omega)).toNat ≤ 53
    · refine (read_body s (by omega) (by omega) h5 _ _ _ _ rfl rfl rfl rfl w).mono ?_
      rintro x w' ⟨hB, ⟨h1, h2, _⟩ | ⟨_, rfl⟩⟩
      · exact (h _ _ _ _ h1 h2).elim
      · exact ⟨rfl, hB⟩
    · exact read_long s (by omega) (by omega) (by omega) w
  · exact read_short s hs w

/-- what a frame lays is that frame -/
theorem read_some (e a k : Nat) (t : ByteArray) (h : Frame.right e a k t.data.toList = true) (w : World) :
    Calls Try.prog 13 #[.string ⟨(Frame.lay e a k t.data.toList).toArray⟩] w fun x w' => x = .returned (.tuple #[frameV e a k t, .int .i64 0]) ∧ Below w.heap.size w w' := by
  have hr : e ≤ 16777215 ∧ a < 64 ∧ k ≤ 4 ∧ t.data.toList.length ≤ 53 := by
    unfold Frame.right at h
    rw [decide_eq_true_eq] at h
    omega
  obtain ⟨he, ha, hk, ht⟩ := hr
  have hsz : (⟨(Frame.lay e a k t.data.toList).toArray⟩ : ByteArray).size = 64 := by
    show (Frame.lay e a k t.data.toList).toArray.size = 64
    rw [List.size_toArray]
    exact Frame.lay_length e a k _ ht
  have g : ∀ (i : Nat) (hi : i < (⟨(Frame.lay e a k t.data.toList).toArray⟩ : ByteArray).size) (x : UInt8), (Frame.lay e a k t.data.toList)[i]? = some x → (⟨(Frame.lay e a k t.data.toList).toArray⟩ : ByteArray)[i] = x := fun i hi x hx => by
    have hi' : i < (Frame.lay e a k t.data.toList).length := by rw [Frame.lay_length e a k _ ht]; omega
    rw [List.getElem?_eq_getElem hi'] at hx
    exact Option.some.inj hx
  have g0 := g 0 (by omega) (UInt8.ofNat (e / 65536 % 256)) rfl
  have g1 := g 1 (by omega) (UInt8.ofNat (e / 256 % 256)) rfl
  have g2 := g 2 (by omega) (UInt8.ofNat (e % 256)) rfl
  have g3 := g 3 (by omega) (UInt8.ofNat a) rfl
  have g4 := g 4 (by omega) (UInt8.ofNat k) rfl
  have g5 := g 5 (by omega) (UInt8.ofNat t.data.toList.length) rfl
  have h5 : ((⟨(Frame.lay e a k t.data.toList).toArray⟩ : ByteArray)[5]'(by omega)).toNat = t.data.toList.length := by rw [g5, Frame.ofNat_toNat (by omega)]
  have hT : t = (⟨(Frame.lay e a k t.data.toList).toArray⟩ : ByteArray).extract 7 (7 + ((⟨(Frame.lay e a k t.data.toList).toArray⟩ : ByteArray)[5]'(by omega)).toNat) := by
    rw [h5]
    apply ByteArray.ext
    apply Array.toList_inj.1
    have e1 : Frame.lay e a k t.data.toList = (Frame.big3 e ++ [UInt8.ofNat a, UInt8.ofNat k, UInt8.ofNat t.data.toList.length, 0]) ++ (t.data.toList ++ (List.replicate (53 - t.data.toList.length) 0 ++ Frame.big4 (Wire.crc (Frame.body e a k t.data.toList)))) := by
      simp [Frame.lay, Frame.body]
    have e2 : ((⟨(Frame.lay e a k t.data.toList).toArray⟩ : ByteArray).extract 7 (7 + t.data.toList.length)).data.toList = ((Frame.lay e a k t.data.toList).drop 7).take t.data.toList.length := by
      rw [ByteArray.data_extract, Array.toList_extract, List.extract_eq_take_drop]
      congr 1; omega
    rw [e2, e1, List.drop_left' (by simp [Frame.big3]), List.take_left' rfl]
  refine (read_body _ (by omega) (by omega) (by rw [h5]; exact ht) e a k t ?_ ?_ ?_ hT w).mono ?_
  · rw [g0, g1, g2, Frame.ofNat_toNat (by omega), Frame.ofNat_toNat (by omega), Frame.ofNat_toNat (by omega)]; omega
  · rw [g3, Frame.ofNat_toNat (by omega)]
  · rw [g4, Frame.ofNat_toNat (by omega)]
  · rintro x w' ⟨hB, ⟨_, _, rfl⟩ | ⟨h1 | h1, _⟩⟩
    · exact ⟨rfl, hB⟩
    · rw [h] at h1; cases h1
    · exact (h1 rfl).elim
end Go.Proofs.Ytnoegbogalfdgaa
