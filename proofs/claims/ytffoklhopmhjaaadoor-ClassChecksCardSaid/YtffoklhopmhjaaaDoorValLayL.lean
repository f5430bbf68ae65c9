/- val.lay of lists. -/
import Derived.Test.YtffoklhopmhjaaaDoorValLayT
set_option linter.unusedSimpArgs false
set_option linter.unusedVariables false
namespace Go.Proofs.YtffoklhopmhjaaaDoor
open Go Go.RowKit Go.Shelf

def itemsBytes : List It → List UInt8
  | [] => []
  | x :: xs => flatBytes x.k x.n x.s ++ itemsBytes xs
theorem itemsBytes_append (a b : List It) : itemsBytes (a ++ b) = itemsBytes a ++ itemsBytes b := by
  induction a with
  | nil => rfl
  | cons x xs ih => show flatBytes x.k x.n x.s ++ itemsBytes (xs ++ b) = _; rw [ih]; simp [itemsBytes]
theorem itemsBytes_take {xs : List It} {j : Nat} (h : j < xs.length) : itemsBytes (xs.take (j + 1)) = itemsBytes (xs.take j) ++ flatBytes xs[j].k xs[j].n xs[j].s := by
  rw [List.take_succ_eq_append_getElem h, itemsBytes_append]
  simp [itemsBytes]
theorem itemsBytes_le {xs : List It} {j : Nat} (h : j < xs.length) : (itemsBytes (xs.take j)).length + (flatBytes xs[j].k xs[j].n xs[j].s).length ≤ (itemsBytes xs).length := by
  have : itemsBytes xs = itemsBytes (xs.take (j + 1)) ++ itemsBytes (xs.drop (j + 1)) := by rw [← itemsBytes_append, List.take_append_drop]
  rw [this, List.length_append, itemsBytes_take h, List.length_append]
  omega

/-- what an item must keep -/
structure It.flat (x : It) : Prop where
  k5 : x.k ≠ 5
  k : -9223372036854775808 ≤ x.k ∧ x.k ≤ 9223372036854775807
  n : -9223372036854775808 ≤ x.n ∧ x.n ≤ 9223372036854775807
  s : x.s.size ≤ 10000

end Go.Proofs.YtffoklhopmhjaaaDoor
