/- right: may a frame be? -/
import Derived.WalkKit
import Derived.Below
import Derived.Lib.Hide
import Derived.IntWalk
import Derived.Test.YtnoegbogalfdgaaProg
import Derived.Test.YtnoegbogalfdgaaFrameMath
set_option linter.unusedSimpArgs false
set_option linter.unusedVariables false
namespace Go.Proofs.Ytnoegbogalfdgaa
open Go Go.RowKit

/-- a frame as a value -/
abbrev frameV (e a k : Int) (s : ByteArray) : Value := .agg #[.int .i64 e, .int .i64 a, .int .i64 k, .string s]

set_option maxHeartbeats 1000000 in
theorem right_any (e a k : Int) (s : ByteArray) (w : World) :
    Calls Try.prog 21 #[frameV e a k s] w fun x w' => x = .returned (.bool (Frame.right e a k s.data.toList)) ∧ Below w.heap.size w w' := by
  go_enter Try.func21, Try.ntmps21
  have hs : s.data.toList.length = s.size := by simp
  have HS := Lib.hid hs; clear hs
  go_wp2
  all_goals go_ret
  all_goals exact ⟨congrArg (fun b => Ending.returned (Value.bool b)) (by unfold Frame.right; rw [HS.out]; first | (symm; rw [decide_eq_false_iff_not]; omega) | (rw [decide_eq_decide]; omega)), (Below.refl _ w).alloc (Nat.le_refl _) _⟩
end Go.Proofs.Ytnoegbogalfdgaa
