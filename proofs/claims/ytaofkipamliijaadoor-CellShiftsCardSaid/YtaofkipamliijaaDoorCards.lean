/-
  DERIVED. GIVEN WITH THE SEED: THE CARDS: each row of YtaofkipamliijaaDoorRows.lean that lists a variable, with what it lists TIED to the program's text (the seventh form; the later family's looks); each row that meets fmt, with fmt's text TOLD by the authors' own Lean function (tested against real Go, not proved from fmt's source: count such statements apart). THE CARD IS WHAT COUNTS. Prove the row's statement (the work); the ties are given (YtaofkipamliijaaDoorTie.lean); close each card by the builder's one call (the guide's Derived/Test/ToyasCard.lean, 'card_holds'). Laid BY PROGRAM, IN A SANDBOX (cutbox-door.mjs). By AI agents, Wed Nov 11 2026. No macro, syntax, notation, axiom, sorry.
-/
import Derived.Test.YtaofkipamliijaaDoorRows
import GoSem.ClaimSeven
namespace Go.Proofs.YtaofkipamliijaaDoor
namespace Rows

/-- THE TIED CARD OF 'spyglasslaw08.CellMay'. -/
def cellMayCard : Claim7 := { stood := { row := cellMayRow, standIns := [], harness := (true, "ac454e33c40bfb1642d8b74b5934d74daabf64a102e2889f78441077ee353a58"), looks := false }, kinds := [], alts := [], laidByText := true, laidKinds := [.data], laidTests := true, laidLooks := .later }
def CellMayCardSaid : Prop := Claim7.holds Tryd.pinned (.plain (OpenSpec.ofChange cellMaySpec)) cellMayCard

/-- THE TIED CARD OF 'spyglasslaw08.CellDoes'. -/
def cellDoesCard : Claim7 := { stood := { row := cellDoesRow, standIns := [], harness := (true, "ac454e33c40bfb1642d8b74b5934d74daabf64a102e2889f78441077ee353a58"), looks := false }, kinds := [], alts := [], laidByText := true, laidKinds := [.data], laidTests := true, laidLooks := .later }
def CellDoesCardSaid : Prop := Claim7.holds Tryd.pinned (.plain (OpenSpec.ofChange cellDoesSpec)) cellDoesCard

/-- THE TIED CARD OF 'spyglasslaw08.CellPlays'. -/
def cellPlaysCard : Claim7 := { stood := { row := cellPlaysRow, standIns := [], harness := (true, "ac454e33c40bfb1642d8b74b5934d74daabf64a102e2889f78441077ee353a58"), looks := false }, kinds := [], alts := [], laidByText := true, laidKinds := [.data], laidTests := true, laidLooks := .later }
def CellPlaysCardSaid : Prop := Claim7.holds Tryd.pinned (.plain (OpenSpec.ofChange cellPlaysSpec)) cellPlaysCard

/-- THE TIED CARD OF 'spyglasslaw08.CellElse'. -/
def cellElseCard : Claim7 := { stood := { row := cellElseRow, standIns := [], harness := (true, "ac454e33c40bfb1642d8b74b5934d74daabf64a102e2889f78441077ee353a58"), looks := false }, kinds := [], alts := [], laidByText := true, laidKinds := [.data], laidTests := true, laidLooks := .later }
def CellElseCardSaid : Prop := Claim7.holds Tryd.pinned (.plain (OpenSpec.ofChange cellElseSpec)) cellElseCard

/-- THE TIED CARD OF 'spyglasslaw08.CellShifts'. -/
def cellShiftsCard : Claim7 := { stood := { row := cellShiftsRow, standIns := [], harness := (true, "ac454e33c40bfb1642d8b74b5934d74daabf64a102e2889f78441077ee353a58"), looks := false }, kinds := [], alts := [], laidByText := true, laidKinds := [.data], laidTests := true, laidLooks := .later }
def CellShiftsCardSaid : Prop := Claim7.holds Tryd.pinned (.plain (OpenSpec.ofChange cellShiftsSpec)) cellShiftsCard

/-- THE SECOND FORM's CARD OF 'spyglasslaw08.CellMay'. -/
def cellMayUptoCard : Claim7 := { stood := { row := cellMayUptoRow, standIns := [], harness := (true, "ac454e33c40bfb1642d8b74b5934d74daabf64a102e2889f78441077ee353a58"), looks := false }, kinds := [], alts := [], laidByText := true, laidKinds := [.data], laidTests := true, laidLooks := .later }
def CellMayUptoCardSaid : Prop := Claim7.holds Tryd.pinned (.plain (OpenSpec.upto cellMaySpec)) cellMayUptoCard

/-- THE SECOND FORM's CARD OF 'spyglasslaw08.CellDoes'. -/
def cellDoesUptoCard : Claim7 := { stood := { row := cellDoesUptoRow, standIns := [], harness := (true, "ac454e33c40bfb1642d8b74b5934d74daabf64a102e2889f78441077ee353a58"), looks := false }, kinds := [], alts := [], laidByText := true, laidKinds := [.data], laidTests := true, laidLooks := .later }
def CellDoesUptoCardSaid : Prop := Claim7.holds Tryd.pinned (.plain (OpenSpec.upto cellDoesSpec)) cellDoesUptoCard

/-- THE SECOND FORM's CARD OF 'spyglasslaw08.CellPlays'. -/
def cellPlaysUptoCard : Claim7 := { stood := { row := cellPlaysUptoRow, standIns := [], harness := (true, "ac454e33c40bfb1642d8b74b5934d74daabf64a102e2889f78441077ee353a58"), looks := false }, kinds := [], alts := [], laidByText := true, laidKinds := [.data], laidTests := true, laidLooks := .later }
def CellPlaysUptoCardSaid : Prop := Claim7.holds Tryd.pinned (.plain (OpenSpec.upto cellPlaysSpec)) cellPlaysUptoCard

/-- THE SECOND FORM's CARD OF 'spyglasslaw08.CellElse'. -/
def cellElseUptoCard : Claim7 := { stood := { row := cellElseUptoRow, standIns := [], harness := (true, "ac454e33c40bfb1642d8b74b5934d74daabf64a102e2889f78441077ee353a58"), looks := false }, kinds := [], alts := [], laidByText := true, laidKinds := [.data], laidTests := true, laidLooks := .later }
def CellElseUptoCardSaid : Prop := Claim7.holds Tryd.pinned (.plain (OpenSpec.upto cellElseSpec)) cellElseUptoCard

/-- THE SECOND FORM's CARD OF 'spyglasslaw08.CellShifts'. -/
def cellShiftsUptoCard : Claim7 := { stood := { row := cellShiftsUptoRow, standIns := [], harness := (true, "ac454e33c40bfb1642d8b74b5934d74daabf64a102e2889f78441077ee353a58"), looks := false }, kinds := [], alts := [], laidByText := true, laidKinds := [.data], laidTests := true, laidLooks := .later }
def CellShiftsUptoCardSaid : Prop := Claim7.holds Tryd.pinned (.plain (OpenSpec.upto cellShiftsSpec)) cellShiftsUptoCard
end Rows
end Go.Proofs.YtaofkipamliijaaDoor
