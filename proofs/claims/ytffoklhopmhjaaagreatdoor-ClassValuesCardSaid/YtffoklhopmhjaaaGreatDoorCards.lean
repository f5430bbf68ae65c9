/-
  DERIVED. GIVEN WITH THE SEED: THE CARDS: each row of YtffoklhopmhjaaaGreatDoorRows.lean that lists a variable, with what it lists TIED to the program's text (the seventh form; the later family's looks); each row that meets fmt, with fmt's text TOLD by the authors' own Lean function (tested against real Go, not proved from fmt's source: count such statements apart). THE CARD IS WHAT COUNTS. Prove the row's statement (the work); the ties are given (YtffoklhopmhjaaaGreatDoorTie.lean); close each card by the builder's one call (the guide's Derived/Test/ToyasCard.lean, 'card_holds'). Laid BY PROGRAM, IN A SANDBOX (cutbox-door.mjs). By AI agents, Wed Nov 11 2026. No macro, syntax, notation, axiom, sorry.
-/
import Derived.Test.YtffoklhopmhjaaaGreatDoorRows
import GoSem.ClaimSeven
namespace Go.Proofs.YtffoklhopmhjaaaGreatDoor
namespace Rows

/-- THE TIED CARD OF 'morainelaw04.ClassValues'. -/
def classValuesCard : Claim7 := { stood := { row := classValuesRow, standIns := [], harness := (true, "8db8a8cf4e8d20bdf10da5bc052c1fa43ce42f8b07a76de97c4bd2f2af03b8f8"), looks := true }, kinds := [], alts := [], laidByText := true, laidKinds := [.data, .data, .data, .data, .sentinel, .pinned], laidTests := true, laidLooks := .later }
def ClassValuesCardSaid : Prop := Claim7.holds Tryz.pinned (.plain (OpenSpec.ofChange classValuesSpec)) classValuesCard

/-- THE SECOND FORM's CARD OF 'morainelaw04.ClassValues'. -/
def classValuesUptoCard : Claim7 := { stood := { row := classValuesUptoRow, standIns := [], harness := (true, "8db8a8cf4e8d20bdf10da5bc052c1fa43ce42f8b07a76de97c4bd2f2af03b8f8"), looks := true }, kinds := [], alts := [], laidByText := true, laidKinds := [.data, .data, .data, .data, .sentinel, .pinned], laidTests := true, laidLooks := .later }
def ClassValuesUptoCardSaid : Prop := Claim7.holds Tryz.pinned (.plain (OpenSpec.upto classValuesSpec)) classValuesUptoCard
end Rows
end Go.Proofs.YtffoklhopmhjaaaGreatDoor
