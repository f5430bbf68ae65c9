/- groups(n): an iterator over the groups of a number. -/
import Derived.RangeFuncBox
import Derived.RangeFuncBound
import Derived.RangeFuncCalls
import Derived.RangeFuncLeaves
import Derived.Shelf.Abstract
import Derived.Shelf.RegionOpen
import Derived.WalkKit
import Derived.OwnWalkIn
import Derived.TacticsInMore
import Derived.LoopNIn
import Derived.LoopIn
import Derived.Lib.Hide
import Derived.Outline
import Derived.IntWalk
import Derived.Test.YtffoklhopmhjaaaGreatDoorProg
import Derived.Test.YtffoklhopmhjaaaGreatDoorWireMath
set_option linter.unusedSimpArgs false
set_option linter.unusedVariables false
namespace Go.Proofs.YtffoklhopmhjaaaGreatDoor
open Go Go.RowKit Go.Shelf
attribute [local go_sem] Oper.semAt_some

set_option maxHeartbeats 400000 in
/-- groups(n): n is boxed; the function value captures the box. -/
theorem groups_in (F : Fence) (n : Nat) (h : F.fn 73) (hro : F.round = none) (x : Int) (w : World) :
    CallsIn F n Tryz.prog 73 #[.int .i64 x] w fun e w' => e = .returned (.func (.func 90) #[] #[.pointer (some ⟨w.heap.size, 0, none⟩)]) ∧ w' = w.alloc (.cells #[.int .i64 x] 3) := by
  refine callsIn_of_wp Tryz.func73 rfl h ?_ hro
  simp only [Tryz.ntmps73, List.size_toArray, List.length_cons, List.length_nil, Nat.reduceAdd, Nat.reduceSub, Array.replicate_succ, Array.replicate_zero, List.push_toArray, List.append_toArray, List.nil_append, List.cons_append]
  gi_wp2
  go_ret
  exact ⟨rfl, rfl⟩

set_option maxRecDepth 100000 in
set_option maxHeartbeats 1000000 in
theorem groups1_pos (F : Fence) (n : Nat) (h6 : F.fn 90) (hro : F.round = none) (hn : 1 ≤ n) (l Bn n₀ : Nat) (x : Int) (hx0 : 0 ≤ x) (hx1 : x ≤ 9223372036854775807) (J Jx : List UInt8 → World → Prop)
    (hY : ∀ pre b W, J pre W → pre.length < (Wire.groups x).length → YieldAt F (n - 1) Tryz.prog l #[.int .u8 (b.toNat : Int)] W fun e W' =>
      (e = .returned (.bool true) ∧ J (pre ++ [b]) W' ∧ Below n₀ W W') ∨ (e = .returned (.bool false) ∧ Jx (pre ++ [b]) W'))
    (W : World) (hBn : W.cell? ⟨Bn, 0, none⟩ = some (.int .i64 x)) (h0 : J [] W) :
    CallsIn F n Tryz.prog 90 #[.func (.yield l) #[] #[], .pointer (some ⟨Bn, 0, none⟩)] W fun e W' => (∃ v, e = .returned v) ∧
      ((∃ ys, ys = Wire.groups x ∧ J ys W') ∨ (∃ pre, pre <+: Wire.groups x ∧ Jx pre W')) := by
  refine callsIn_of_wp Tryz.func90 rfl h6 ?_ hro
  simp only [Tryz.ntmps90, List.size_toArray, List.length_cons, List.length_nil, Nat.reduceAdd, Nat.reduceSub, Array.replicate_succ, Array.replicate_zero, List.push_toArray, List.append_toArray, List.nil_append, List.cons_append]
  have hY0 := hY [] (UInt8.ofNat (Wire.mOf x % 64 * 2 + Wire.sOf x)) W h0 (by simp [Wire.groups_split])
  obtain ⟨fn, tmps, assign, body, hy, hR⟩ := hY0
  have hm : (Wire.mOf x : Int) = x := by unfold Wire.mOf; split <;> omega
  have hs : Wire.sOf x = 0 := by unfold Wire.sOf; split <;> omega
  have hb : (((UInt8.ofNat (Wire.mOf x % 64 * 2 + Wire.sOf x)).toNat : Nat) : Int) = x % 64 * 2 := by
    rw [Wire.ofNat_toNat (by omega)]; omega
  rw [hb] at hy
  have hM := Lib.hid hm; clear hm
  clear hb hs
  gi_wp2
  refine hR.mono ?_
  rintro e W3 (⟨rfl, hJ3, hk3⟩ | ⟨rfl, hJx3⟩)
  · clear hy hR
    gi_wp2
    gi_loopw [3] (fun p wr => ∃ (pre : List UInt8) (r : Nat), p = .int .u64 (r : Int) ∧ r ≤ 9223372036854775807 ∧ Wire.groups x = pre ++ (Wire.restGroups r).map UInt8.ofNat ∧ J pre wr)
      (fun p _ => (intOf p).toNat)
    case atStart =>
      refine ⟨_, Wire.mOf x / 64, ?_, by have := hM.out; omega, Wire.groups_split x, hJ3⟩
      have := hM.out
      congr 1; omega
    case round =>
      obtain ⟨pre, r, rfl, hr, hx, hJs⟩ := hrel
      have hX := Lib.hid hx; clear hx
      by_cases h0r : 0 < r
      · obtain ⟨fn, tmps, assign, body, hy, hR⟩ := hY pre (UInt8.ofNat (r % 128)) wr hJs (by rw [hX.out, Wire.restGroups_pos h0r]; simp)
        rw [Wire.ofNat_toNat (by omega), show (((r % 128 : Nat)) : Int) = (r : Int) % 128 from by omega] at hy
        gi_wp2
        refine hR.mono ?_
        rintro e W4 (⟨rfl, hJ4, hk4⟩ | ⟨rfl, hJx4⟩)
        · clear hy hR
          gi_wp2
          go_roundw
          case rel => exact ⟨_, r / 128, rfl, by omega, by rw [hX.out, Wire.restGroups_pos h0r]; simp, hJ4⟩
          case measure => simp [intOf]; omega
        · clear hy hR
          gi_wp2
          refine bodyPost_ret (results_none rfl _ _ _) rfl ?_
          exact ⟨⟨_, rfl⟩, .inr ⟨_, ⟨(Wire.restGroups (r / 128)).map UInt8.ofNat, by rw [hX.out, Wire.restGroups_pos h0r]; simp⟩, hJx4⟩⟩
      · obtain rfl : r = 0 := by omega
        gi_wp2
        go_end0
        exact ⟨⟨_, rfl⟩, .inl ⟨_, by rw [hX.out, Wire.restGroups_zero]; simp, hJs⟩⟩
  · clear hy hR
    gi_wp2
    refine bodyPost_ret (results_none rfl _ _ _) rfl ?_
    exact ⟨⟨_, rfl⟩, .inr ⟨_, ⟨_, (Wire.groups_split x).symm⟩, hJx3⟩⟩

set_option maxRecDepth 100000 in
set_option maxHeartbeats 1000000 in
theorem groups1_neg (F : Fence) (n : Nat) (h6 : F.fn 90) (hro : F.round = none) (hn : 1 ≤ n) (l Bn n₀ : Nat) (x : Int) (hx0 : x < 0) (hx1 : -9223372036854775808 ≤ x) (J Jx : List UInt8 → World → Prop)
    (hY : ∀ pre b W, J pre W → pre.length < (Wire.groups x).length → YieldAt F (n - 1) Tryz.prog l #[.int .u8 (b.toNat : Int)] W fun e W' =>
      (e = .returned (.bool true) ∧ J (pre ++ [b]) W' ∧ Below n₀ W W') ∨ (e = .returned (.bool false) ∧ Jx (pre ++ [b]) W'))
    (W : World) (hBn : W.cell? ⟨Bn, 0, none⟩ = some (.int .i64 x)) (h0 : J [] W) :
    CallsIn F n Tryz.prog 90 #[.func (.yield l) #[] #[], .pointer (some ⟨Bn, 0, none⟩)] W fun e W' => (∃ v, e = .returned v) ∧
      ((∃ ys, ys = Wire.groups x ∧ J ys W') ∨ (∃ pre, pre <+: Wire.groups x ∧ Jx pre W')) := by
  refine callsIn_of_wp Tryz.func90 rfl h6 ?_ hro
  simp only [Tryz.ntmps90, List.size_toArray, List.length_cons, List.length_nil, Nat.reduceAdd, Nat.reduceSub, Array.replicate_succ, Array.replicate_zero, List.push_toArray, List.append_toArray, List.nil_append, List.cons_append]
  have hY0 := hY [] (UInt8.ofNat (Wire.mOf x % 64 * 2 + Wire.sOf x)) W h0 (by simp [Wire.groups_split])
  obtain ⟨fn, tmps, assign, body, hy, hR⟩ := hY0
  have hm : (Wire.mOf x : Int) = -1 - x := by unfold Wire.mOf; split <;> omega
  have hs : Wire.sOf x = 1 := by unfold Wire.sOf; split <;> omega
  have hb : (((UInt8.ofNat (Wire.mOf x % 64 * 2 + Wire.sOf x)).toNat : Nat) : Int) = (-1 - x) % 64 * 2 + 1 := by
    rw [Wire.ofNat_toNat (by omega)]; omega
  rw [hb] at hy
  have hM := Lib.hid hm; clear hm
  clear hb hs
  gi_wp2
  refine hR.mono ?_
  rintro e W3 (⟨rfl, hJ3, hk3⟩ | ⟨rfl, hJx3⟩)
  · clear hy hR
    gi_wp2
    gi_loopw [3] (fun p wr => ∃ (pre : List UInt8) (r : Nat), p = .int .u64 (r : Int) ∧ r ≤ 9223372036854775807 ∧ Wire.groups x = pre ++ (Wire.restGroups r).map UInt8.ofNat ∧ J pre wr)
      (fun p _ => (intOf p).toNat)
    case atStart =>
      refine ⟨_, Wire.mOf x / 64, ?_, by have := hM.out; omega, Wire.groups_split x, hJ3⟩
      have := hM.out
      congr 1; omega
    case round =>
      obtain ⟨pre, r, rfl, hr, hx, hJs⟩ := hrel
      have hX := Lib.hid hx; clear hx
      by_cases h0r : 0 < r
      · obtain ⟨fn, tmps, assign, body, hy, hR⟩ := hY pre (UInt8.ofNat (r % 128)) wr hJs (by rw [hX.out, Wire.restGroups_pos h0r]; simp)
        rw [Wire.ofNat_toNat (by omega), show (((r % 128 : Nat)) : Int) = (r : Int) % 128 from by omega] at hy
        gi_wp2
        refine hR.mono ?_
        rintro e W4 (⟨rfl, hJ4, hk4⟩ | ⟨rfl, hJx4⟩)
        · clear hy hR
          gi_wp2
          go_roundw
          case rel => exact ⟨_, r / 128, rfl, by omega, by rw [hX.out, Wire.restGroups_pos h0r]; simp, hJ4⟩
          case measure => simp [intOf]; omega
        · clear hy hR
          gi_wp2
          refine bodyPost_ret (results_none rfl _ _ _) rfl ?_
          exact ⟨⟨_, rfl⟩, .inr ⟨_, ⟨(Wire.restGroups (r / 128)).map UInt8.ofNat, by rw [hX.out, Wire.restGroups_pos h0r]; simp⟩, hJx4⟩⟩
      · obtain rfl : r = 0 := by omega
        gi_wp2
        go_end0
        exact ⟨⟨_, rfl⟩, .inl ⟨_, by rw [hX.out, Wire.restGroups_zero]; simp, hJs⟩⟩
  · clear hy hR
    gi_wp2
    refine bodyPost_ret (results_none rfl _ _ _) rfl ?_
    exact ⟨⟨_, rfl⟩, .inr ⟨_, ⟨_, (Wire.groups_split x).symm⟩, hJx3⟩⟩

theorem groups1_stops (F : Fence) (n : Nat) (h6 : F.fn 90) (hro : F.round = none) (hn : 1 ≤ n) (Bn n₀ : Nat) (x : Int) (hx0 : -9223372036854775808 ≤ x) (hx1 : x ≤ 9223372036854775807) (w : World) (hBn : Bn < w.heap.size)
    (hc : w.cell? ⟨Bn, 0, none⟩ = some (.int .i64 x)) :
    SeqStopsK F n Tryz.prog 90 #[.pointer (some ⟨Bn, 0, none⟩)] (fun b : UInt8 => #[Value.int .u8 (b.toNat : Int)]) (Below n₀) (fun ys => ys = Wire.groups x) (fun pre => pre <+: Wire.groups x) (Wire.groups x).length w := fun l J Jx W hW _ _ hY h0 => by
  by_cases h : 0 ≤ x
  · exact groups1_pos F n h6 hro hn l Bn n₀ x h hx1 J Jx hY W ((hW.cell (p := ⟨Bn, 0, none⟩) hBn).trans hc) h0
  · exact groups1_neg F n h6 hro hn l Bn n₀ x (by omega) hx0 J Jx hY W ((hW.cell (p := ⟨Bn, 0, none⟩) hBn).trans hc) h0
end Go.Proofs.YtffoklhopmhjaaaGreatDoor
