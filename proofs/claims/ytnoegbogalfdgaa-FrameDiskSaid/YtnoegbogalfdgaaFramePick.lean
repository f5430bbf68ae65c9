/- pick; Need. -/
import Derived.WalkKit
import Derived.Below
import Derived.Lib.Hide
import Derived.IntWalk
import Derived.Test.YtnoegbogalfdgaaProg
set_option linter.unusedSimpArgs false
set_option linter.unusedVariables false
namespace Frame
/-- which of n things a raw number speaks of -/
def pickOf (c : Int) (n : Nat) : Nat := (if c < 0 then (-(c + 1)).toNat else c.toNat) % n
theorem pickOf_lt (c : Int) {n : Nat} (h : 0 < n) : pickOf c n < n := Nat.mod_lt _ h
/-- how many frames a batch of n bytes takes -/
def need (n : Nat) : Nat := max (n / 53 + (if n % 53 > 0 then 1 else 0)) 1
end Frame
namespace Go.Proofs.Ytnoegbogalfdgaa
open Go Go.RowKit

set_option maxHeartbeats 1000000 in
theorem pick_any (c : Int) (n : Nat) (hc : -9223372036854775808 ≤ c ∧ c ≤ 9223372036854775807) (hn : 0 < n) (hn2 : n ≤ 9223372036854775807) (w : World) :
    Calls Try.prog 17 #[.int .i64 c, .int .i64 (n : Int)] w fun x w' => x = .returned (.int .i64 (Frame.pickOf c n : Int)) ∧ w = w' := by
  by_cases h : c < 0
  · obtain ⟨m, hm⟩ : ∃ m : Nat, -(c + 1) = (m : Int) := ⟨(-(c + 1)).toNat, by omega⟩
    have hp : Frame.pickOf c n = m % n := by unfold Frame.pickOf; rw [if_pos h, hm]; rfl
    have f1 : IntKind.i64.wrap (c + 1) = c + 1 := IntWalk.i64_in _ (by omega)
    have f2 : IntKind.i64.wrap (-(c + 1)) = (m : Int) := by rw [IntWalk.i64_in _ (by omega), hm]
    have hm2 : (m : Int) ≤ 9223372036854775807 := by omega
    have f3 : -(c + 1) = (m : Int) := hm
    have HP := Lib.hid hp; clear hp hm
    go_enter Try.func17, Try.ntmps17
    go_wp2
    go_ret
    exact ⟨by rw [HP.out]; rfl, rfl⟩
  · obtain ⟨m, rfl⟩ : ∃ m : Nat, c = (m : Int) := ⟨c.toNat, by omega⟩
    have hp : Frame.pickOf m n = m % n := by unfold Frame.pickOf; rw [if_neg h]; rfl
    have HP := Lib.hid hp; clear hp
    go_enter Try.func17, Try.ntmps17
    go_wp2
    go_ret
    exact ⟨by rw [HP.out]; rfl, rfl⟩

set_option maxHeartbeats 1000000 in
theorem need_any (n : Nat) (hn : n ≤ 4611686018427387904) (w : World) :
    Calls Try.prog 20 #[.int .i64 (n : Int)] w fun x w' => x = .returned (.int .i64 (Frame.need n : Int)) ∧ w = w' := by
  have hne : Frame.need n = max (n / 53 + (if n % 53 > 0 then 1 else 0)) 1 := rfl
  have HN := Lib.hid hne; clear hne
  by_cases h : n % 53 > 0
  · go_enter Try.func20, Try.ntmps20
    go_wp2
    all_goals go_ret
    all_goals exact ⟨congrArg (fun z => Ending.returned (Value.int .i64 z)) (by rw [HN.out]; first | (rw [if_pos (by omega)]; omega) | (rw [if_neg (by omega)]; omega)), rfl⟩
  · go_enter Try.func20, Try.ntmps20
    go_wp2
    all_goals go_ret
    all_goals exact ⟨congrArg (fun z => Ending.returned (Value.int .i64 z)) (by rw [HN.out]; first | (rw [if_pos (by omega)]; omega) | (rw [if_neg (by omega)]; omega)), rfl⟩

theorem need_neg (n : Int) (hn : n < 0) (w : World) :
    Calls Try.prog 20 #[.int .i64 n] w fun x w' => x = .returned (.int .i64 0) ∧ w = w' := by
  go_enter Try.func20, Try.ntmps20
  go_wp2
  go_ret
  exact ⟨rfl, rfl⟩
end Go.Proofs.Ytnoegbogalfdgaa
