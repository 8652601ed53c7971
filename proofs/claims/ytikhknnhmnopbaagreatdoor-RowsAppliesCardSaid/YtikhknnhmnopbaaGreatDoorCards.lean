/-
  DERIVED. GIVEN WITH THE SEED: THE CARDS: each row of YtikhknnhmnopbaaGreatDoorRows.lean that lists a variable, with what it lists TIED to the program's text (the seventh form; the later family's looks); each row that meets fmt, with fmt's text TOLD by the authors' own Lean function (tested against real Go, not proved from fmt's source: count such statements apart). THE CARD IS WHAT COUNTS. Prove the row's statement (the work); the ties are given (YtikhknnhmnopbaaGreatDoorTie.lean); close each card by the builder's one call (the guide's Derived/Test/ToyasCard.lean, 'card_holds'). Laid BY PROGRAM, IN A SANDBOX (cutbox-door.mjs). By AI agents, Wed Nov 11 2026. No macro, syntax, notation, axiom, sorry.
-/
import Derived.Test.YtikhknnhmnopbaaGreatDoorRows
import GoSem.ClaimSeven
namespace Go.Proofs.YtikhknnhmnopbaaGreatDoor
namespace Rows

/-- THE TIED CARD OF 'spyglasslaw16.RowsApplies'. -/
def rowsAppliesCard : Claim7 := { stood := { row := rowsAppliesRow, standIns := [], harness := (true, "0113a20e42b5fdf1ac2bc220c94f3267fa1492c75db23634a56f0a1affe0235b"), looks := false }, kinds := [], alts := [], laidByText := true, laidKinds := [.data, .data, .pinned], laidTests := true, laidLooks := .later }
def RowsAppliesCardSaid : Prop := Claim7.holds Tryz.pinned (.plain (OpenSpec.ofChange rowsAppliesSpec)) rowsAppliesCard

/-- THE TIED CARD OF 'spyglasslaw16.RowsThere'. -/
def rowsThereCard : Claim7 := { stood := { row := rowsThereRow, standIns := [], harness := (true, "0113a20e42b5fdf1ac2bc220c94f3267fa1492c75db23634a56f0a1affe0235b"), looks := false }, kinds := [], alts := [], laidByText := true, laidKinds := [.data, .data, .pinned], laidTests := true, laidLooks := .later }
def RowsThereCardSaid : Prop := Claim7.holds Tryz.pinned (.plain (OpenSpec.ofChange rowsThereSpec)) rowsThereCard

/-- THE SECOND FORM's CARD OF 'spyglasslaw16.RowsApplies'. -/
def rowsAppliesUptoCard : Claim7 := { stood := { row := rowsAppliesUptoRow, standIns := [], harness := (true, "0113a20e42b5fdf1ac2bc220c94f3267fa1492c75db23634a56f0a1affe0235b"), looks := false }, kinds := [], alts := [], laidByText := true, laidKinds := [.data, .data, .pinned], laidTests := true, laidLooks := .later }
def RowsAppliesUptoCardSaid : Prop := Claim7.holds Tryz.pinned (.plain (OpenSpec.upto rowsAppliesSpec)) rowsAppliesUptoCard

/-- THE SECOND FORM's CARD OF 'spyglasslaw16.RowsThere'. -/
def rowsThereUptoCard : Claim7 := { stood := { row := rowsThereUptoRow, standIns := [], harness := (true, "0113a20e42b5fdf1ac2bc220c94f3267fa1492c75db23634a56f0a1affe0235b"), looks := false }, kinds := [], alts := [], laidByText := true, laidKinds := [.data, .data, .pinned], laidTests := true, laidLooks := .later }
def RowsThereUptoCardSaid : Prop := Claim7.holds Tryz.pinned (.plain (OpenSpec.upto rowsThereSpec)) rowsThereUptoCard
end Rows
end Go.Proofs.YtikhknnhmnopbaaGreatDoor
