/- The table of strconv's Itoa out of a row's list. -/
import Derived.Test.YtbmfclankoblfaaDoorBun15
import Derived.Test.YtbmfclankoblfaaDoorWritInZ
import Derived.Lib.LaidTab
set_option linter.unusedSimpArgs false
set_option linter.unusedVariables false
namespace Go.Proofs.YtbmfclankoblfaaDoor
open Go Go.RowKit

theorem pow_eq : (Rows.laid_internal_strconv_uint64pow10 : DataW Unit) = Lib.tabData .u64 Lib.pow10Tab := by kernel_rfl
theorem pow_of {r : List (String × DataW Unit)} {W : World} (h : laidMet Tryd.prog (("internal/strconv.uint64pow10", Rows.laid_internal_strconv_uint64pow10) :: r) W) : Pow W := by
  rw [pow_eq] at h
  exact Lib.tabIs_of_head (g := 3) (by kernel_rfl) (t := 155) (by kernel_rfl) Tryd.underlying155 Tryd.underlying145 (by kernel_rfl) (by kernel_rfl) h
end Go.Proofs.YtbmfclankoblfaaDoor
