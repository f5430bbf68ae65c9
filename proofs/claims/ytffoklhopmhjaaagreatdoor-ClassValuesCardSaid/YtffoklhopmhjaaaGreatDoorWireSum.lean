/- Sum(s). -/
import Derived.RangeFuncBox
import Derived.WalkKit
import Derived.Shelf.RegionOpen
import Derived.Lib.Hide
import Derived.Outline
import Derived.IntWalk
import Derived.BigQuiet
import Derived.Deep.QuietTactic
import Derived.StillTailTactics
import Derived.WalkLawsBesides
import Derived.Laws.BitsAllLaws
import Derived.RegionTactic
import Derived.Test.YtffoklhopmhjaaaGreatDoorProg
import Derived.Test.YtffoklhopmhjaaaGreatDoorWireCrc
set_option linter.unusedSimpArgs false
set_option linter.unusedVariables false
namespace Go.Proofs.YtffoklhopmhjaaaGreatDoor
open Go Go.RowKit Go.Shelf

theorem u32_half_xor (c : Nat) (h : c < 4294967296) : bits .xor .u32 ((c : Int) / 2) 3988292384 = ((c / 2 ^^^ 3988292384 : Nat) : Int) := by
  have := u32_xor_nat (c / 2) 3988292384 (by omega) (by omega)
  rw [← this]; congr 1

theorem xor_u32_byte (c : Nat) (hc : c < 4294967296) (b : UInt8) : bits .xor .u32 (c : Int) (b.toNat : Int) = ((c ^^^ b.toNat : Nat) : Int) :=
  u32_xor_nat c b.toNat hc (by have := b.toNat_lt; omega)

end Go.Proofs.YtffoklhopmhjaaaGreatDoor
