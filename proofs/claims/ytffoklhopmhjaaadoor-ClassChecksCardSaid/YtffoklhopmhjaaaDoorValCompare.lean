/- val.Compare, val.Same. -/
import Derived.Test.YtffoklhopmhjaaaDoorValCmp
set_option linter.unusedSimpArgs false
set_option linter.unusedVariables false
namespace Go.Proofs.YtffoklhopmhjaaaDoor
open Go Go.RowKit Go.Shelf

end Go.Proofs.YtffoklhopmhjaaaDoor
