/- val.lay of texts; of any value that is no list. -/
import Derived.Test.YtffoklhopmhjaaaDoorValLayN
set_option linter.unusedSimpArgs false
set_option linter.unusedVariables false
namespace Go.Proofs.YtffoklhopmhjaaaDoor
open Go Go.RowKit Go.Shelf

/-- the bytes of a value that is no list -/
def flatBytes (k n : Int) (s : ByteArray) : List UInt8 := Wire.num k ++ if k = 1 ∨ k = 3 ∨ k = 4 then Wire.num n else if k = 2 then Wire.num s.size ++ s.data.toList else []

end Go.Proofs.YtffoklhopmhjaaaDoor
