/-
  DERIVED. GIVEN WITH THE SEED: THE CARDS: each row of YtmijlcilnaeppaaGreatDoorRows.lean that lists a variable, with what it lists TIED to the program's text (the seventh form; the later family's looks); each row that meets fmt, with fmt's text TOLD by the authors' own Lean function (tested against real Go, not proved from fmt's source: count such statements apart). THE CARD IS WHAT COUNTS. Prove the row's statement (the work); the ties are given (YtmijlcilnaeppaaGreatDoorTie.lean); close each card by the builder's one call (the guide's Derived/Test/ToyasCard.lean, 'card_holds'). Laid BY PROGRAM, IN A SANDBOX (cutbox-door.mjs). By AI agents, Wed Nov 11 2026. No macro, syntax, notation, axiom, sorry.
-/
import Derived.Test.YtmijlcilnaeppaaGreatDoorRows
import GoSem.ClaimSeven
namespace Go.Proofs.YtmijlcilnaeppaaGreatDoor
namespace Rows

/-- THE TIED CARD OF 'morainelaw03.ValTells'. -/
def valTellsCard : Claim7 := { stood := { row := valTellsRow, standIns := [], harness := (true, "61416a4ae21a5e53775a56d8944c732d43977b37925fca454f2897c0b4f12212"), looks := true }, kinds := [], alts := [], laidByText := true, laidKinds := [.data, .data, .data, .data, .sentinel, .pinned], laidTests := true, laidLooks := .later }
def ValTellsCardSaid : Prop := Claim7.holds Tryz.pinned (.plain (OpenSpec.ofChange valTellsSpec)) valTellsCard

/-- THE SECOND FORM's CARD OF 'morainelaw03.ValTells'. -/
def valTellsUptoCard : Claim7 := { stood := { row := valTellsUptoRow, standIns := [], harness := (true, "61416a4ae21a5e53775a56d8944c732d43977b37925fca454f2897c0b4f12212"), looks := true }, kinds := [], alts := [], laidByText := true, laidKinds := [.data, .data, .data, .data, .sentinel, .pinned], laidTests := true, laidLooks := .later }
def ValTellsUptoCardSaid : Prop := Claim7.holds Tryz.pinned (.plain (OpenSpec.upto valTellsSpec)) valTellsUptoCard
end Rows
end Go.Proofs.YtmijlcilnaeppaaGreatDoor
