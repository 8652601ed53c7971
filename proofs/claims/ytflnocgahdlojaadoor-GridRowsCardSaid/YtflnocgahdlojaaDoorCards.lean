/-
  DERIVED. GIVEN WITH THE SEED: THE CARDS: each row of YtflnocgahdlojaaDoorRows.lean that lists a variable, with what it lists TIED to the program's text (the seventh form; the later family's looks); each row that meets fmt, with fmt's text TOLD by the authors' own Lean function (tested against real Go, not proved from fmt's source: count such statements apart). THE CARD IS WHAT COUNTS. Prove the row's statement (the work); the ties are given (YtflnocgahdlojaaDoorTie.lean); close each card by the builder's one call (the guide's Derived/Test/ToyasCard.lean, 'card_holds'). Laid BY PROGRAM, IN A SANDBOX (cutbox-door.mjs). By AI agents, Wed Nov 11 2026. No macro, syntax, notation, axiom, sorry.
-/
import Derived.Test.YtflnocgahdlojaaDoorRows
import GoSem.ClaimSeven
namespace Go.Proofs.YtflnocgahdlojaaDoor
namespace Rows

/-- THE TIED CARD OF 'spyglasslaw09.GridDoes'. -/
def gridDoesCard : Claim7 := { stood := { row := gridDoesRow, standIns := [], harness := (true, "1402c3bb44645e580263086e8b2c52a2316482ec8501d4f94f397f31781cf020"), looks := false }, kinds := [], alts := [], laidByText := true, laidKinds := [.data], laidTests := true, laidLooks := .later }
def GridDoesCardSaid : Prop := Claim7.holds Tryd.pinned (.plain (OpenSpec.ofChange gridDoesSpec)) gridDoesCard

/-- THE TIED CARD OF 'spyglasslaw09.GridNew'. -/
def gridNewCard : Claim7 := { stood := { row := gridNewRow, standIns := [], harness := (true, "1402c3bb44645e580263086e8b2c52a2316482ec8501d4f94f397f31781cf020"), looks := false }, kinds := [], alts := [], laidByText := true, laidKinds := [.data], laidTests := true, laidLooks := .later }
def GridNewCardSaid : Prop := Claim7.holds Tryd.pinned (.plain (OpenSpec.ofChange gridNewSpec)) gridNewCard

/-- THE TIED CARD OF 'spyglasslaw09.GridPlays'. -/
def gridPlaysCard : Claim7 := { stood := { row := gridPlaysRow, standIns := [], harness := (true, "1402c3bb44645e580263086e8b2c52a2316482ec8501d4f94f397f31781cf020"), looks := false }, kinds := [], alts := [], laidByText := true, laidKinds := [.data], laidTests := true, laidLooks := .later }
def GridPlaysCardSaid : Prop := Claim7.holds Tryd.pinned (.plain (OpenSpec.ofChange gridPlaysSpec)) gridPlaysCard

/-- THE TIED CARD OF 'spyglasslaw09.GridRows'. -/
def gridRowsCard : Claim7 := { stood := { row := gridRowsRow, standIns := [], harness := (true, "1402c3bb44645e580263086e8b2c52a2316482ec8501d4f94f397f31781cf020"), looks := false }, kinds := [], alts := [], laidByText := true, laidKinds := [.data], laidTests := true, laidLooks := .later }
def GridRowsCardSaid : Prop := Claim7.holds Tryd.pinned (.plain (OpenSpec.ofChange gridRowsSpec)) gridRowsCard

/-- THE TIED CARD OF 'spyglasslaw09.GridScrolls'. -/
def gridScrollsCard : Claim7 := { stood := { row := gridScrollsRow, standIns := [], harness := (true, "1402c3bb44645e580263086e8b2c52a2316482ec8501d4f94f397f31781cf020"), looks := false }, kinds := [], alts := [], laidByText := true, laidKinds := [.data], laidTests := true, laidLooks := .later }
def GridScrollsCardSaid : Prop := Claim7.holds Tryd.pinned (.plain (OpenSpec.ofChange gridScrollsSpec)) gridScrollsCard

/-- THE TIED CARD OF 'spyglasslaw09.GridBack'. -/
def gridBackCard : Claim7 := { stood := { row := gridBackRow, standIns := [], harness := (true, "1402c3bb44645e580263086e8b2c52a2316482ec8501d4f94f397f31781cf020"), looks := false }, kinds := [], alts := [], laidByText := true, laidKinds := [.data], laidTests := true, laidLooks := .later }
def GridBackCardSaid : Prop := Claim7.holds Tryd.pinned (.plain (OpenSpec.ofChange gridBackSpec)) gridBackCard

/-- THE SECOND FORM's CARD OF 'spyglasslaw09.GridDoes'. -/
def gridDoesUptoCard : Claim7 := { stood := { row := gridDoesUptoRow, standIns := [], harness := (true, "1402c3bb44645e580263086e8b2c52a2316482ec8501d4f94f397f31781cf020"), looks := false }, kinds := [], alts := [], laidByText := true, laidKinds := [.data], laidTests := true, laidLooks := .later }
def GridDoesUptoCardSaid : Prop := Claim7.holds Tryd.pinned (.plain (OpenSpec.upto gridDoesSpec)) gridDoesUptoCard

/-- THE SECOND FORM's CARD OF 'spyglasslaw09.GridNew'. -/
def gridNewUptoCard : Claim7 := { stood := { row := gridNewUptoRow, standIns := [], harness := (true, "1402c3bb44645e580263086e8b2c52a2316482ec8501d4f94f397f31781cf020"), looks := false }, kinds := [], alts := [], laidByText := true, laidKinds := [.data], laidTests := true, laidLooks := .later }
def GridNewUptoCardSaid : Prop := Claim7.holds Tryd.pinned (.plain (OpenSpec.upto gridNewSpec)) gridNewUptoCard

/-- THE SECOND FORM's CARD OF 'spyglasslaw09.GridPlays'. -/
def gridPlaysUptoCard : Claim7 := { stood := { row := gridPlaysUptoRow, standIns := [], harness := (true, "1402c3bb44645e580263086e8b2c52a2316482ec8501d4f94f397f31781cf020"), looks := false }, kinds := [], alts := [], laidByText := true, laidKinds := [.data], laidTests := true, laidLooks := .later }
def GridPlaysUptoCardSaid : Prop := Claim7.holds Tryd.pinned (.plain (OpenSpec.upto gridPlaysSpec)) gridPlaysUptoCard

/-- THE SECOND FORM's CARD OF 'spyglasslaw09.GridRows'. -/
def gridRowsUptoCard : Claim7 := { stood := { row := gridRowsUptoRow, standIns := [], harness := (true, "1402c3bb44645e580263086e8b2c52a2316482ec8501d4f94f397f31781cf020"), looks := false }, kinds := [], alts := [], laidByText := true, laidKinds := [.data], laidTests := true, laidLooks := .later }
def GridRowsUptoCardSaid : Prop := Claim7.holds Tryd.pinned (.plain (OpenSpec.upto gridRowsSpec)) gridRowsUptoCard

/-- THE SECOND FORM's CARD OF 'spyglasslaw09.GridScrolls'. -/
def gridScrollsUptoCard : Claim7 := { stood := { row := gridScrollsUptoRow, standIns := [], harness := (true, "1402c3bb44645e580263086e8b2c52a2316482ec8501d4f94f397f31781cf020"), looks := false }, kinds := [], alts := [], laidByText := true, laidKinds := [.data], laidTests := true, laidLooks := .later }
def GridScrollsUptoCardSaid : Prop := Claim7.holds Tryd.pinned (.plain (OpenSpec.upto gridScrollsSpec)) gridScrollsUptoCard

/-- THE SECOND FORM's CARD OF 'spyglasslaw09.GridBack'. -/
def gridBackUptoCard : Claim7 := { stood := { row := gridBackUptoRow, standIns := [], harness := (true, "1402c3bb44645e580263086e8b2c52a2316482ec8501d4f94f397f31781cf020"), looks := false }, kinds := [], alts := [], laidByText := true, laidKinds := [.data], laidTests := true, laidLooks := .later }
def GridBackUptoCardSaid : Prop := Claim7.holds Tryd.pinned (.plain (OpenSpec.upto gridBackSpec)) gridBackUptoCard
end Rows
end Go.Proofs.YtflnocgahdlojaaDoor
