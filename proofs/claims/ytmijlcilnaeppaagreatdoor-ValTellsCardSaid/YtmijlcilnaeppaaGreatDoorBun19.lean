/- Texts put together: LaidP, RowOpensT. -/
import Derived.Test.YtmijlcilnaeppaaGreatDoorBun15
import Derived.Test.YtmijlcilnaeppaaGreatDoorWritInZ
import Derived.Lib.LaidTab
/- The table of strconv's Itoa out of a row's list. -/
set_option linter.unusedSimpArgs false
set_option linter.unusedVariables false
namespace Go.Proofs.YtmijlcilnaeppaaGreatDoor
open Go Go.RowKit

theorem pow_eq : (Rows.laid_internal_strconv_uint64pow10 : DataW Unit) = Lib.tabData .u64 Lib.pow10Tab := by kernel_rfl
theorem pow_of {r : List (String × DataW Unit)} {W : World} (h : laidMet Tryz.prog (("internal/strconv.uint64pow10", Rows.laid_internal_strconv_uint64pow10) :: r) W) : Pow W := by
  rw [pow_eq] at h
  exact Lib.tabIs_of_head (g := 3) (by kernel_rfl) (t := 150) (by kernel_rfl) Tryz.underlying150 Tryz.underlying128 (by kernel_rfl) (by kernel_rfl) h
end Go.Proofs.YtmijlcilnaeppaaGreatDoor

/- The arguments of the row of ValTells, opened: raw numbers of values, a type. -/
set_option linter.unusedSimpArgs false
set_option linter.unusedVariables false
namespace Go.Proofs.YtmijlcilnaeppaaGreatDoor
open Go Go.ChangeShapes Go.WideShapes Go.ChangeAt Go.RowKit Go.ChangeMaps
section
variable {H : Type} {enc : TypeId × Value → H} {W : World} {base : Nat} {v : Value} {d : DataW H} {p : List MemPlace}

set_option maxRecDepth 100000 in
theorem openTyp (hv : Value.okWide Tryz.prog W .any base 26 v) (h : DataW.Trod enc Tryz.prog W 0 (fun _ => true) true 26 v d p) :
    ∃ k o : Int, v = .agg #[.int .i64 k, .int .i64 o] ∧ (-9223372036854775808 ≤ k ∧ k ≤ 9223372036854775807) ∧ (-9223372036854775808 ≤ o ∧ o ≤ 9223372036854775807) := by
  obtain ⟨v0, v1, y0, y1, n, rfl, _, rfl, t0, t1⟩ := Joins.open_agg2 Tryz.underlying26 (by kernel_rfl) (by kernel_rfl) hv h
  obtain ⟨k, h0, _, b0⟩ := DataW.trod_int Tryz.underlying3 t0
  obtain ⟨m, h1, _, b1⟩ := DataW.trod_int Tryz.underlying3 t1
  simp only [List.cons.injEq, and_true] at h0 h1
  subst h0 h1
  exact ⟨k, m, rfl, bounds_i64 b0, bounds_i64 b1⟩
end
end Go.Proofs.YtmijlcilnaeppaaGreatDoor
