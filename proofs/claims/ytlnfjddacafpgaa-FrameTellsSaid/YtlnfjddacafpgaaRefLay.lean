/- The reference's Lay. -/
import Derived.Deep.RegionHeld3
import Derived.Test.YtlnfjddacafpgaaRefSum
import Derived.Test.YtlnfjddacafpgaaFrameBackLaw
namespace Go.Proofs.Ytlnfjddacafpgaa
open Go Go.RowKit Go.Shelf

set_option maxHeartbeats 1000000 in
theorem refLay_bad (e a k : Int) (s : ByteArray) (h : Frame.right e a k s.data.toList = false) (w : World) :
    Calls Try.prog 12 #[frameV e a k s] w fun x w' => x = .returned (.tuple #[.string ⟨#[]⟩, .int .i64 120]) ∧ Below w.heap.size w w' := by
  go_enter Try.func12, Try.ntmps12
  go_wp2_with fail
  refine (refRight_any e a k s _).mono ?_
  rintro x w1 ⟨rfl, hB⟩
  rw [h]
  go_wp2_with fail
  go_ret2
  exact ⟨rfl, ((Below.refl _ _).alloc (Nat.le_refl _) _).trans (hB.mono (by simp))⟩

theorem refBytes3 (n : Nat) (hn : n ≤ 9223372036854775807) (w : World) : Calls Try.prog 36 #[.int .i64 (n : Int), .int .i64 3] w fun x w' => x = .returned (.string ⟨#[UInt8.ofNat (n / 65536 % 256), UInt8.ofNat (n / 256 % 256), UInt8.ofNat (n % 256)]⟩) ∧ Below w.heap.size w w' := by
  have h := refBytes_any n 3 hn (by decide) w
  rw [Frame.bytesOf_three] at h
  exact h
theorem refBytes1 (n : Nat) (hn : n < 256) (w : World) : Calls Try.prog 36 #[.int .i64 (n : Int), .int .i64 1] w fun x w' => x = .returned (.string ⟨#[UInt8.ofNat n]⟩) ∧ Below w.heap.size w w' := by
  have h := refBytes_any n 1 (by omega) (by decide) w
  rw [Frame.bytesOf_one n hn] at h
  exact h
theorem refBytes0 (w : World) : Calls Try.prog 36 #[.int .i64 0, .int .i64 1] w fun x w' => x = .returned (.string ⟨#[0]⟩) ∧ Below w.heap.size w w' := refBytes1 0 (by decide) w
theorem refBytes4 (n : Nat) (hn : n ≤ 9223372036854775807) (w : World) : Calls Try.prog 36 #[.int .i64 (n : Int), .int .i64 4] w fun x w' => x = .returned (.string ⟨(Frame.big4 n).toArray⟩) ∧ Below w.heap.size w w' := by
  have h := refBytes_any n 4 hn (by decide) w
  rw [Frame.bytesOf_four] at h
  exact h

/-- the box of the argument, and what is below it -/
structure RB (w : World) (r : Nat) (e a k : Int) (s : ByteArray) (W : World) : Prop where
  box : FBox W r e a k s
  below : Below w.heap.size w W
theorem RB.more {w W W' : World} {r : Nat} {e a k : Int} {s : ByteArray} (h : RB w r e a k s W) (hb : Below W.heap.size W W') : RB w r e a k s W' :=
  ⟨h.box.below hb, h.below.trans (hb.mono h.below.size)⟩

theorem RB.all {w W : World} {r : Nat} {e a k : Int} {s : ByteArray} (h : RB w r e a k s W) :
    W.cell? ⟨r, 0, none⟩ = some (.int .i64 e) ∧ W.cell? ⟨r, 1, none⟩ = some (.int .i64 a) ∧ W.cell? ⟨r, 2, none⟩ = some (.int .i64 k) ∧ W.cell? ⟨r, 3, none⟩ = some (.string s) ∧ RB w r e a k s W :=
  ⟨h.box.c0, h.box.c1, h.box.c2, h.box.c3, h⟩

set_option maxHeartbeats 4000000 in
theorem refLay_good (e a k : Nat) (s : ByteArray) (h : Frame.right e a k s.data.toList = true) (w : World) :
    Calls Try.prog 12 #[frameV e a k s] w fun x w' => x = .returned (.tuple #[.string ⟨(Frame.lay e a k s.data.toList).toArray⟩, .int .i64 0]) ∧ Below w.heap.size w w' := by
  have hr := h
  unfold Frame.right at hr
  simp only [decide_eq_true_eq] at hr
  have hsz : s.data.toList.length = s.size := by simp
  rw [hsz] at hr
  have HSZ := Lib.hid hsz
  clear hsz
  obtain ⟨r1, r2, r3, r4, r5, r6, r7⟩ := hr
  go_enter Try.func12, Try.ntmps12
  go_wp2_with fail
  refine (refRight_any e a k s _).mono ?_
  rintro x w1 ⟨rfl, hB⟩
  rw [h]
  go_wp2_with fail
  have hRB : RB w w.heap.size e a k s w1 := ⟨(FBox.new w e a k s).below hB, ((Below.refl _ _).alloc (Nat.le_refl _) _).trans (hB.mono (by simp))⟩
  clear hB h
  have q7 : 7 + s.size ≤ 9223372036854775807 := by omega
  have q8 : s.size ≤ 9223372036854775800 := by omega
  have q9 : ¬ 9223372036854775807 < 7 + s.size := by omega
  have q10 : ¬ 9223372036854775800 < s.size := by omega
  have hall := RB.all (hRB.more (show Below w1.heap.size w1 w1.drew from (Below.refl _ _).drew))
  clear hRB
  go_region_held3 (fun W => W.cell? ⟨w.heap.size, 0, none⟩ = some (.int .i64 (e : Int)) ∧ W.cell? ⟨w.heap.size, 1, none⟩ = some (.int .i64 (a : Int)) ∧ W.cell? ⟨w.heap.size, 2, none⟩ = some (.int .i64 (k : Int)) ∧ W.cell? ⟨w.heap.size, 3, none⟩ = some (.string s) ∧ RB w w.heap.size e a k s W)
    (first | assumption | exact hall2)
    ((first | (go_simp; go_at_call 36; first | (with_reducible refine (refBytes0 _).mono ?_) | (with_reducible refine (refBytes3 e (by omega) _).mono ?_) | (with_reducible refine (refBytes1 a (by omega) _).mono ?_) | (with_reducible refine (refBytes1 k (by omega) _).mono ?_) | (with_reducible refine (refBytes1 s.size (by omega) _).mono ?_)); (rintro x W' ⟨rfl, hbb⟩; go_split_ands; have hall2 := RB.all (RB.more (by assumption) hbb))))
  have hB := hall2.2.2.2.2.below
  clear hall2 q7 q8 q9 q10
  generalize hT0 : (({ data := #[UInt8.ofNat (e / 65536 % 256), UInt8.ofNat (e / 256 % 256), UInt8.ofNat (e % 256)] } : ByteArray) ++ { data := #[UInt8.ofNat a] } ++ { data := #[UInt8.ofNat k] } ++ { data := #[UInt8.ofNat s.size] } ++ { data := #[0] } ++ s) = T0
  have ht0 : T0.data.toList = Frame.big3 e ++ ([UInt8.ofNat a, UInt8.ofNat k, UInt8.ofNat s.size, 0] ++ s.data.toList) := by
    rw [← hT0]; simp [Frame.big3]
  have hz0 : T0.size = 7 + s.size := by
    have h1 : T0.data.toList.length = T0.size := by simp
    have h2 : s.data.toList.length = s.size := by simp
    rw [← h1, ht0]; simp [Frame.big3, h2]; omega
  clear hT0
  have HT0 := Lib.hid ht0
  have HZ0 := Lib.hid hz0
  clear ht0 hz0
  go_wp2_with fail
  go_loopw [4] (fun v4 wr => ∃ (j : Nat) (T : ByteArray), j ≤ 53 - s.size ∧ T.size = 7 + s.size + j ∧ T.data.toList = T0.data.toList ++ List.replicate j 0 ∧ v4 = .string T ∧ Below w.heap.size w wr) (fun v4 _ => match v4 with | .string T => 60 - T.size | _ => 0)
  case atStart => exact ⟨0, T0, by omega, by rw [HZ0.out]; rfl, by simp, rfl, hB⟩
  case round =>
    obtain ⟨j, T, hj, hz, hT, rfl, hBr⟩ := hrel
    have HT := Lib.hid hT
    clear hT
    by_cases hlt : T.size < 60
    · have hlt' : (T.size : Int) < 60 := by omega
      have hz1 : T.size + 1 ≤ 9223372036854775807 := by omega
      have hz2 : T.size ≤ 9223372036854775806 := by omega
      have HZ := Lib.hid hz
      clear hz
      go_wp2_with fail
      refine (refBytes0 _).mono ?_
      rintro x W2 ⟨rfl, hb2⟩
      go_wp2_with fail
      exact ⟨⟨j + 1, T ++ { data := #[0] }, by have := HZ.out; omega, by have := HZ.out; rw [ByteArray.size_append, show (⟨#[0]⟩ : ByteArray).size = 1 from rfl]; omega, by simp [HT.out, List.replicate_succ'], rfl, hBr.trans (hb2.mono hBr.size)⟩, by show 60 - (T ++ (⟨#[0]⟩ : ByteArray)).size < 60 - T.size; rw [ByteArray.size_append, show (⟨#[0]⟩ : ByteArray).size = 1 from rfl]; omega⟩
    · have hj53 : j = 53 - s.size := by omega
      have hlt' : decide ((T.size : Int) < 60) = false := decide_eq_false (by omega)
      have hbody : T.data.toList = Frame.body e a k s.data.toList := by
        rw [HT.out, HT0.out]
        unfold Frame.body
        rw [HSZ.out, hj53]
        simp
      have hz60 : T.size = 60 := by omega
      have hlay : T ++ (⟨(Frame.big4 (Wire.crc T.data.toList)).toArray⟩ : ByteArray) = ⟨(Frame.lay e a k s.data.toList).toArray⟩ := by
        unfold Frame.lay
        rw [← hbody]
        apply ByteArray.ext
        simp
      have hcl := Wire.crc_lt T.data.toList
      have hbz : (⟨(Frame.big4 (Wire.crc T.data.toList)).toArray⟩ : ByteArray).size = 4 := by
        have : (⟨(Frame.big4 (Wire.crc T.data.toList)).toArray⟩ : ByteArray).size = (Frame.big4 (Wire.crc T.data.toList)).length := List.size_toArray
        rw [this]; rfl
      have hsum := fun w => refSum_any T (by omega) w
      generalize Wire.crc T.data.toList = cr at hlay hcl hbz hsum
      have hbb := fun w => refBytes4 cr (by omega) w
      generalize (⟨(Frame.big4 cr).toArray⟩ : ByteArray) = B4 at hlay hbz hbb
      have HLAY := Lib.hid hlay
      have HSUM := Lib.hid hsum
      have HBB := Lib.hid hbb
      have HBZ := Lib.hid hbz
      have HZ60 := Lib.hid hz60
      have z1 : T.size ≤ 60 := by omega
      have z2 : B4.size ≤ 4 := by omega
      clear hlay hsum hbb hbody hbz hz60 hz hj53
      go_wp2_with fail
      refine (HSUM.out _).mono ?_
      rintro x W2 ⟨rfl, rfl⟩
      go_wp2_with fail
      refine (HBB.out _).mono ?_
      rintro x W2 ⟨rfl, hb2⟩
      have z3 : T.size + B4.size ≤ 9223372036854775807 := by omega
      have z4 : ¬ 9223372036854775807 < T.size + B4.size := by omega
      go_wp2_with fail
      go_ret2
      exact ⟨by rw [← HLAY.out]; rfl, hBr.trans (hb2.mono hBr.size)⟩
end Go.Proofs.Ytlnfjddacafpgaa
