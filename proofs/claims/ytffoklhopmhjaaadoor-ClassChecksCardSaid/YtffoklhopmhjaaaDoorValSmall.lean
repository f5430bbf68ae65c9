/- moraineref03.Order, cmp.Compare[string], words.Digit. -/
import Derived.WalkKit
import Derived.Below
import Derived.BigQuiet
import Derived.BigCall
import Derived.Lib.Hide
import Derived.IntWalk
import Derived.Lib.Strings
import Derived.Laws.Cover1
import Derived.Test.YtffoklhopmhjaaaDoorProg
set_option linter.unusedSimpArgs false
set_option linter.unusedVariables false
namespace Go.Proofs.YtffoklhopmhjaaaDoor
open Go Go.RowKit

def ordI (a b : Int) : Int := if a < b then -1 else if b < a then 1 else 0

set_option maxHeartbeats 1000000 in
theorem digit_any (c : Int) (w : World) : Calls Tryd.prog 70 #[.int .u8 c] w fun e w' => e = .returned (.bool (decide (48 ≤ c ∧ c ≤ 57))) ∧ w = w' := by
  generalize hr : decide (48 ≤ c ∧ c ≤ 57) = r
  have HR := Lib.hid hr; clear hr
  go_enter Tryd.func70, Tryd.ntmps70
  by_cases h1 : 48 ≤ c
  · by_cases h2 : c ≤ 57
    · go_wp2
      go_ret
      exact ⟨congrArg (fun b => Ending.returned (Value.bool b)) (by rw [← HR.out]; exact (decide_eq_true ⟨h1, h2⟩).symm), rfl⟩
    · go_wp2
      go_ret
      exact ⟨congrArg (fun b => Ending.returned (Value.bool b)) (by rw [← HR.out]; exact (decide_eq_false (by omega)).symm), rfl⟩
  · go_wp2
    go_ret
    exact ⟨congrArg (fun b => Ending.returned (Value.bool b)) (by rw [← HR.out]; exact (decide_eq_false (by omega)).symm), rfl⟩

/-- two texts, byte by byte -/
def ordS (a b : ByteArray) : Int := if Op.bytesLess a.toList b.toList = true then -1 else if (a.toList == b.toList) = true then 0 else 1

/-- the first that is not 0 -/
def orI : List Int → Int
  | [] => 0
  | x :: xs => if x = 0 then orI xs else x

theorem orI_take : ∀ (l : List Int) (k : Nat), (∀ x ∈ l.take k, x = 0) → orI l = orI (l.drop k)
  | l, 0, _ => rfl
  | [], k + 1, _ => by simp
  | x :: xs, k + 1, h => by
    show (if x = 0 then orI xs else x) = _
    rw [if_pos (h x (by simp)), List.drop_succ_cons]
    exact orI_take xs k (fun y hy => h y (by simp [hy]))

end Go.Proofs.YtffoklhopmhjaaaDoor
