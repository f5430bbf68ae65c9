/- Need of any number, of both. -/
import Derived.Test.YtlnfjddacafpgaaFramePick
namespace Go.Proofs.Ytlnfjddacafpgaa
open Go Go.RowKit

set_option maxHeartbeats 1000000 in
theorem need_big (n : Nat) (hn : n ≤ 9223372036854775807) (w : World) :
    Calls Try.prog 17 #[.int .i64 (n : Int)] w fun x w' => x = .returned (.int .i64 (Frame.need n : Int)) ∧ w = w' := by
  have hne : Frame.need n = max (n / 53 + (if n % 53 > 0 then 1 else 0)) 1 := rfl
  have HN := Lib.hid hne; clear hne
  by_cases h : n % 53 > 0
  all_goals
    go_enter Try.func17, Try.ntmps17
    go_wp2
    all_goals go_ret
    all_goals exact ⟨congrArg (fun z => Ending.returned (Value.int .i64 z)) (by rw [HN.out]; first | (rw [if_pos (by omega)]; omega) | (rw [if_neg (by omega)]; omega)), rfl⟩
set_option maxHeartbeats 1000000 in
theorem refNeed_any (n : Nat) (hn : n ≤ 9223372036854775807) (w : World) :
    Calls Try.prog 18 #[.int .i64 (n : Int)] w fun x w' => x = .returned (.int .i64 (Frame.need n : Int)) ∧ w = w' := by
  have hne : Frame.need n = max (n / 53 + (if n % 53 > 0 then 1 else 0)) 1 := rfl
  have HN := Lib.hid hne; clear hne
  by_cases h : n % 53 > 0
  all_goals
    go_enter Try.func18, Try.ntmps18
    go_wp2
    all_goals go_ret
    all_goals exact ⟨congrArg (fun z => Ending.returned (Value.int .i64 z)) (by rw [HN.out]; first | (rw [if_pos (by omega)]; omega) | (rw [if_neg (by omega)]; omega) | (rw [if_pos (by omega)]; (repeat split) <;> omega) | (rw [if_neg (by omega)]; (repeat split) <;> omega)), rfl⟩
theorem refNeed_neg (n : Int) (hn : n < 0) (w : World) :
    Calls Try.prog 18 #[.int .i64 n] w fun x w' => x = .returned (.int .i64 0) ∧ w = w' := by
  go_enter Try.func18, Try.ntmps18
  go_wp2
  go_ret
  exact ⟨rfl, rfl⟩

end Go.Proofs.Ytlnfjddacafpgaa
