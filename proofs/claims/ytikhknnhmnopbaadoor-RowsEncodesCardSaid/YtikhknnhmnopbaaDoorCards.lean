/-
  DERIVED. GIVEN WITH THE SEED: THE CARDS: each row of YtikhknnhmnopbaaDoorRows.lean that lists a variable, with what it lists TIED to the program's text (the seventh form; the later family's looks); each row that meets fmt, with fmt's text TOLD by the authors' own Lean function (tested against real Go, not proved from fmt's source: count such statements apart). THE CARD IS WHAT COUNTS. Prove the row's statement (the work); the ties are given (YtikhknnhmnopbaaDoorTie.lean); close each card by the builder's one call (the guide's Derived/Test/ToyasCard.lean, 'card_holds'). Laid BY PROGRAM, IN A SANDBOX (cutbox-door.mjs). By AI agents, Wed Nov 11 2026. No macro, syntax, notation, axiom, sorry.
-/
import Derived.Test.YtikhknnhmnopbaaDoorRows
import GoSem.ClaimSeven
namespace Go.Proofs.YtikhknnhmnopbaaDoor
namespace Rows

/-- THE TIED CARD OF 'spyglasslaw16.RowsEncodes'. -/
def rowsEncodesCard : Claim7 := { stood := { row := rowsEncodesRow, standIns := [], harness := (true, "520eab830173c5a1699062a849ea6fe3e5f47b34bb5f7b413a3ba680548f58c4"), looks := false }, kinds := [], alts := [], laidByText := true, laidKinds := [.data, .data, .pinned], laidTests := true, laidLooks := .later }
def RowsEncodesCardSaid : Prop := Claim7.holds Tryd.pinned (.plain (OpenSpec.ofChange rowsEncodesSpec)) rowsEncodesCard

/-- THE TIED CARD OF 'spyglasslaw16.RowsFit'. -/
def rowsFitCard : Claim7 := { stood := { row := rowsFitRow, standIns := [], harness := (true, "520eab830173c5a1699062a849ea6fe3e5f47b34bb5f7b413a3ba680548f58c4"), looks := false }, kinds := [], alts := [], laidByText := true, laidKinds := [.data, .data, .pinned], laidTests := true, laidLooks := .later }
def RowsFitCardSaid : Prop := Claim7.holds Tryd.pinned (.plain (OpenSpec.ofChange rowsFitSpec)) rowsFitCard

/-- THE TIED CARD OF 'spyglasslaw16.RowsStill'. -/
def rowsStillCard : Claim7 := { stood := { row := rowsStillRow, standIns := [], harness := (true, "520eab830173c5a1699062a849ea6fe3e5f47b34bb5f7b413a3ba680548f58c4"), looks := false }, kinds := [], alts := [], laidByText := true, laidKinds := [.data, .data, .pinned], laidTests := true, laidLooks := .later }
def RowsStillCardSaid : Prop := Claim7.holds Tryd.pinned (.plain (OpenSpec.ofChange rowsStillSpec)) rowsStillCard

/-- THE SECOND FORM's CARD OF 'spyglasslaw16.RowsEncodes'. -/
def rowsEncodesUptoCard : Claim7 := { stood := { row := rowsEncodesUptoRow, standIns := [], harness := (true, "520eab830173c5a1699062a849ea6fe3e5f47b34bb5f7b413a3ba680548f58c4"), looks := false }, kinds := [], alts := [], laidByText := true, laidKinds := [.data, .data, .pinned], laidTests := true, laidLooks := .later }
def RowsEncodesUptoCardSaid : Prop := Claim7.holds Tryd.pinned (.plain (OpenSpec.upto rowsEncodesSpec)) rowsEncodesUptoCard

/-- THE SECOND FORM's CARD OF 'spyglasslaw16.RowsFit'. -/
def rowsFitUptoCard : Claim7 := { stood := { row := rowsFitUptoRow, standIns := [], harness := (true, "520eab830173c5a1699062a849ea6fe3e5f47b34bb5f7b413a3ba680548f58c4"), looks := false }, kinds := [], alts := [], laidByText := true, laidKinds := [.data, .data, .pinned], laidTests := true, laidLooks := .later }
def RowsFitUptoCardSaid : Prop := Claim7.holds Tryd.pinned (.plain (OpenSpec.upto rowsFitSpec)) rowsFitUptoCard

/-- THE SECOND FORM's CARD OF 'spyglasslaw16.RowsStill'. -/
def rowsStillUptoCard : Claim7 := { stood := { row := rowsStillUptoRow, standIns := [], harness := (true, "520eab830173c5a1699062a849ea6fe3e5f47b34bb5f7b413a3ba680548f58c4"), looks := false }, kinds := [], alts := [], laidByText := true, laidKinds := [.data, .data, .pinned], laidTests := true, laidLooks := .later }
def RowsStillUptoCardSaid : Prop := Claim7.holds Tryd.pinned (.plain (OpenSpec.upto rowsStillSpec)) rowsStillUptoCard
end Rows
end Go.Proofs.YtikhknnhmnopbaaDoor
