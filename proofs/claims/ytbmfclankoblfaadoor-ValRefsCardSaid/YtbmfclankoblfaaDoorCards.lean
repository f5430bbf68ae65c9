/-
  DERIVED. GIVEN WITH THE SEED: THE CARDS: each row of YtbmfclankoblfaaDoorRows.lean that lists a variable, with what it lists TIED to the program's text (the seventh form; the later family's looks); each row that meets fmt, with fmt's text TOLD by the authors' own Lean function (tested against real Go, not proved from fmt's source: count such statements apart). THE CARD IS WHAT COUNTS. Prove the row's statement (the work); the ties are given (YtbmfclankoblfaaDoorTie.lean); close each card by the builder's one call (the guide's Derived/Test/ToyasCard.lean, 'card_holds'). Laid BY PROGRAM, IN A SANDBOX (cutbox-door.mjs). By AI agents, Wed Nov 11 2026. No macro, syntax, notation, axiom, sorry.
-/
import Derived.Test.YtbmfclankoblfaaDoorRows
import GoSem.ClaimSeven
namespace Go.Proofs.YtbmfclankoblfaaDoor
namespace Rows

/-- THE TIED CARD OF 'morainelaw03.ValBack'. -/
def valBackCard : Claim7 := { stood := { row := valBackRow, standIns := [], harness := (true, "597a1bb0f4c8a556ea687e093905d1d4fbf98775a8df78242346ddaa796ad148"), looks := true }, kinds := [], alts := [], laidByText := true, laidKinds := [.data, .sentinel, .pinned], laidTests := true, laidLooks := .later }
def ValBackCardSaid : Prop := Claim7.holds Tryd.pinned (.plain (OpenSpec.ofChange valBackSpec)) valBackCard

/-- THE TIED CARD OF 'morainelaw03.ValWritten'. -/
def valWrittenCard : Claim7 := { stood := { row := valWrittenRow, standIns := [], harness := (true, "597a1bb0f4c8a556ea687e093905d1d4fbf98775a8df78242346ddaa796ad148"), looks := true }, kinds := [], alts := [], laidByText := true, laidKinds := [.data, .data, .data, .data, .sentinel, .pinned], laidTests := true, laidLooks := .later }
def ValWrittenCardSaid : Prop := Claim7.holds Tryd.pinned (.plain (OpenSpec.ofChange valWrittenSpec)) valWrittenCard

/-- THE TIED CARD OF 'morainelaw03.ValOrder'. -/
def valOrderCard : Claim7 := { stood := { row := valOrderRow, standIns := [], harness := (true, "597a1bb0f4c8a556ea687e093905d1d4fbf98775a8df78242346ddaa796ad148"), looks := true }, kinds := [], alts := [], laidByText := true, laidKinds := [.data, .sentinel, .pinned], laidTests := true, laidLooks := .later }
def ValOrderCardSaid : Prop := Claim7.holds Tryd.pinned (.plain (OpenSpec.ofChange valOrderSpec)) valOrderCard

/-- THE TIED CARD OF 'morainelaw03.ValFits'. -/
def valFitsCard : Claim7 := { stood := { row := valFitsRow, standIns := [], harness := (true, "597a1bb0f4c8a556ea687e093905d1d4fbf98775a8df78242346ddaa796ad148"), looks := true }, kinds := [], alts := [], laidByText := true, laidKinds := [.data, .sentinel, .pinned], laidTests := true, laidLooks := .later }
def ValFitsCardSaid : Prop := Claim7.holds Tryd.pinned (.plain (OpenSpec.ofChange valFitsSpec)) valFitsCard

/-- THE TIED CARD OF 'morainelaw03.ValRefs'. -/
def valRefsCard : Claim7 := { stood := { row := valRefsRow, standIns := [], harness := (true, "597a1bb0f4c8a556ea687e093905d1d4fbf98775a8df78242346ddaa796ad148"), looks := true }, kinds := [], alts := [], laidByText := true, laidKinds := [.data, .data, .data, .data, .sentinel, .pinned], laidTests := true, laidLooks := .later }
def ValRefsCardSaid : Prop := Claim7.holds Tryd.pinned (.plain (OpenSpec.ofChange valRefsSpec)) valRefsCard

/-- THE TIED CARD OF 'morainelaw03.ValCut'. -/
def valCutCard : Claim7 := { stood := { row := valCutRow, standIns := [], harness := (true, "597a1bb0f4c8a556ea687e093905d1d4fbf98775a8df78242346ddaa796ad148"), looks := true }, kinds := [], alts := [], laidByText := true, laidKinds := [.data, .sentinel, .pinned], laidTests := true, laidLooks := .later }
def ValCutCardSaid : Prop := Claim7.holds Tryd.pinned (.plain (OpenSpec.ofChange valCutSpec)) valCutCard

/-- THE TIED CARD OF 'morainelaw03.ValKinds'. -/
def valKindsCard : Claim7 := { stood := { row := valKindsRow, standIns := [], harness := (true, "597a1bb0f4c8a556ea687e093905d1d4fbf98775a8df78242346ddaa796ad148"), looks := true }, kinds := [], alts := [], laidByText := true, laidKinds := [.data, .sentinel, .pinned], laidTests := true, laidLooks := .later }
def ValKindsCardSaid : Prop := Claim7.holds Tryd.pinned (.plain (OpenSpec.ofChange valKindsSpec)) valKindsCard

/-- THE SECOND FORM's CARD OF 'morainelaw03.ValBack'. -/
def valBackUptoCard : Claim7 := { stood := { row := valBackUptoRow, standIns := [], harness := (true, "597a1bb0f4c8a556ea687e093905d1d4fbf98775a8df78242346ddaa796ad148"), looks := true }, kinds := [], alts := [], laidByText := true, laidKinds := [.data, .sentinel, .pinned], laidTests := true, laidLooks := .later }
def ValBackUptoCardSaid : Prop := Claim7.holds Tryd.pinned (.plain (OpenSpec.upto valBackSpec)) valBackUptoCard

/-- THE SECOND FORM's CARD OF 'morainelaw03.ValWritten'. -/
def valWrittenUptoCard : Claim7 := { stood := { row := valWrittenUptoRow, standIns := [], harness := (true, "597a1bb0f4c8a556ea687e093905d1d4fbf98775a8df78242346ddaa796ad148"), looks := true }, kinds := [], alts := [], laidByText := true, laidKinds := [.data, .data, .data, .data, .sentinel, .pinned], laidTests := true, laidLooks := .later }
def ValWrittenUptoCardSaid : Prop := Claim7.holds Tryd.pinned (.plain (OpenSpec.upto valWrittenSpec)) valWrittenUptoCard

/-- THE SECOND FORM's CARD OF 'morainelaw03.ValOrder'. -/
def valOrderUptoCard : Claim7 := { stood := { row := valOrderUptoRow, standIns := [], harness := (true, "597a1bb0f4c8a556ea687e093905d1d4fbf98775a8df78242346ddaa796ad148"), looks := true }, kinds := [], alts := [], laidByText := true, laidKinds := [.data, .sentinel, .pinned], laidTests := true, laidLooks := .later }
def ValOrderUptoCardSaid : Prop := Claim7.holds Tryd.pinned (.plain (OpenSpec.upto valOrderSpec)) valOrderUptoCard

/-- THE SECOND FORM's CARD OF 'morainelaw03.ValFits'. -/
def valFitsUptoCard : Claim7 := { stood := { row := valFitsUptoRow, standIns := [], harness := (true, "597a1bb0f4c8a556ea687e093905d1d4fbf98775a8df78242346ddaa796ad148"), looks := true }, kinds := [], alts := [], laidByText := true, laidKinds := [.data, .sentinel, .pinned], laidTests := true, laidLooks := .later }
def ValFitsUptoCardSaid : Prop := Claim7.holds Tryd.pinned (.plain (OpenSpec.upto valFitsSpec)) valFitsUptoCard

/-- THE SECOND FORM's CARD OF 'morainelaw03.ValRefs'. -/
def valRefsUptoCard : Claim7 := { stood := { row := valRefsUptoRow, standIns := [], harness := (true, "597a1bb0f4c8a556ea687e093905d1d4fbf98775a8df78242346ddaa796ad148"), looks := true }, kinds := [], alts := [], laidByText := true, laidKinds := [.data, .data, .data, .data, .sentinel, .pinned], laidTests := true, laidLooks := .later }
def ValRefsUptoCardSaid : Prop := Claim7.holds Tryd.pinned (.plain (OpenSpec.upto valRefsSpec)) valRefsUptoCard

/-- THE SECOND FORM's CARD OF 'morainelaw03.ValCut'. -/
def valCutUptoCard : Claim7 := { stood := { row := valCutUptoRow, standIns := [], harness := (true, "597a1bb0f4c8a556ea687e093905d1d4fbf98775a8df78242346ddaa796ad148"), looks := true }, kinds := [], alts := [], laidByText := true, laidKinds := [.data, .sentinel, .pinned], laidTests := true, laidLooks := .later }
def ValCutUptoCardSaid : Prop := Claim7.holds Tryd.pinned (.plain (OpenSpec.upto valCutSpec)) valCutUptoCard

/-- THE SECOND FORM's CARD OF 'morainelaw03.ValKinds'. -/
def valKindsUptoCard : Claim7 := { stood := { row := valKindsUptoRow, standIns := [], harness := (true, "597a1bb0f4c8a556ea687e093905d1d4fbf98775a8df78242346ddaa796ad148"), looks := true }, kinds := [], alts := [], laidByText := true, laidKinds := [.data, .sentinel, .pinned], laidTests := true, laidLooks := .later }
def ValKindsUptoCardSaid : Prop := Claim7.holds Tryd.pinned (.plain (OpenSpec.upto valKindsSpec)) valKindsUptoCard
end Rows
end Go.Proofs.YtbmfclankoblfaaDoor
