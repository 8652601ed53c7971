/-
  DERIVED. GIVEN WITH THE SEED: THE CARDS: each row of YtfbfidlgfdnneaaDoorRows.lean that lists a variable, with what it lists TIED to the program's text (the seventh form; the later family's looks); each row that meets fmt, with fmt's text TOLD by the authors' own Lean function (tested against real Go, not proved from fmt's source: count such statements apart). THE CARD IS WHAT COUNTS. Prove the row's statement (the work); the ties are given (YtfbfidlgfdnneaaDoorTie.lean); close each card by the builder's one call (the guide's Derived/Test/ToyasCard.lean, 'card_holds'). Laid BY PROGRAM, IN A SANDBOX (cutbox-door.mjs). By AI agents, Wed Nov 11 2026. No macro, syntax, notation, axiom, sorry.
-/
import Derived.Test.YtfbfidlgfdnneaaDoorRows
import GoSem.ClaimSeven
namespace Go.Proofs.YtfbfidlgfdnneaaDoor
namespace Rows

/-- THE TIED CARD OF 'spyglasslaw13.ColorParts'. -/
def colorPartsCard : Claim7 := { stood := { row := colorPartsRow, standIns := [], harness := (true, "4878ab61f23355af7d03711200d005886ac35439fc0f24baf5c444cbd1a34ecd"), looks := false }, kinds := [], alts := [], laidByText := true, laidKinds := [.data, .data], laidTests := true, laidLooks := .later }
def ColorPartsCardSaid : Prop := Claim7.holds Tryd.pinned (.plain (OpenSpec.ofChange colorPartsSpec)) colorPartsCard

/-- THE TIED CARD OF 'spyglasslaw13.ColorFits'. -/
def colorFitsCard : Claim7 := { stood := { row := colorFitsRow, standIns := [], harness := (true, "4878ab61f23355af7d03711200d005886ac35439fc0f24baf5c444cbd1a34ecd"), looks := false }, kinds := [], alts := [], laidByText := true, laidKinds := [.data, .data], laidTests := true, laidLooks := .later }
def ColorFitsCardSaid : Prop := Claim7.holds Tryd.pinned (.plain (OpenSpec.ofChange colorFitsSpec)) colorFitsCard

/-- THE TIED CARD OF 'spyglasslaw13.ColorNearest'. -/
def colorNearestCard : Claim7 := { stood := { row := colorNearestRow, standIns := [], harness := (true, "4878ab61f23355af7d03711200d005886ac35439fc0f24baf5c444cbd1a34ecd"), looks := false }, kinds := [], alts := [], laidByText := true, laidKinds := [.data, .data], laidTests := true, laidLooks := .later }
def ColorNearestCardSaid : Prop := Claim7.holds Tryd.pinned (.plain (OpenSpec.ofChange colorNearestSpec)) colorNearestCard

/-- THE TIED CARD OF 'spyglasslaw13.ColorTwice'. -/
def colorTwiceCard : Claim7 := { stood := { row := colorTwiceRow, standIns := [], harness := (true, "4878ab61f23355af7d03711200d005886ac35439fc0f24baf5c444cbd1a34ecd"), looks := false }, kinds := [], alts := [], laidByText := true, laidKinds := [.data, .data], laidTests := true, laidLooks := .later }
def ColorTwiceCardSaid : Prop := Claim7.holds Tryd.pinned (.plain (OpenSpec.ofChange colorTwiceSpec)) colorTwiceCard

/-- THE TIED CARD OF 'spyglasslaw13.ColorFew'. -/
def colorFewCard : Claim7 := { stood := { row := colorFewRow, standIns := [], harness := (true, "4878ab61f23355af7d03711200d005886ac35439fc0f24baf5c444cbd1a34ecd"), looks := false }, kinds := [], alts := [], laidByText := true, laidKinds := [.data, .data], laidTests := true, laidLooks := .later }
def ColorFewCardSaid : Prop := Claim7.holds Tryd.pinned (.plain (OpenSpec.ofChange colorFewSpec)) colorFewCard

/-- THE SECOND FORM's CARD OF 'spyglasslaw13.ColorParts'. -/
def colorPartsUptoCard : Claim7 := { stood := { row := colorPartsUptoRow, standIns := [], harness := (true, "4878ab61f23355af7d03711200d005886ac35439fc0f24baf5c444cbd1a34ecd"), looks := false }, kinds := [], alts := [], laidByText := true, laidKinds := [.data, .data], laidTests := true, laidLooks := .later }
def ColorPartsUptoCardSaid : Prop := Claim7.holds Tryd.pinned (.plain (OpenSpec.upto colorPartsSpec)) colorPartsUptoCard

/-- THE SECOND FORM's CARD OF 'spyglasslaw13.ColorFits'. -/
def colorFitsUptoCard : Claim7 := { stood := { row := colorFitsUptoRow, standIns := [], harness := (true, "4878ab61f23355af7d03711200d005886ac35439fc0f24baf5c444cbd1a34ecd"), looks := false }, kinds := [], alts := [], laidByText := true, laidKinds := [.data, .data], laidTests := true, laidLooks := .later }
def ColorFitsUptoCardSaid : Prop := Claim7.holds Tryd.pinned (.plain (OpenSpec.upto colorFitsSpec)) colorFitsUptoCard

/-- THE SECOND FORM's CARD OF 'spyglasslaw13.ColorNearest'. -/
def colorNearestUptoCard : Claim7 := { stood := { row := colorNearestUptoRow, standIns := [], harness := (true, "4878ab61f23355af7d03711200d005886ac35439fc0f24baf5c444cbd1a34ecd"), looks := false }, kinds := [], alts := [], laidByText := true, laidKinds := [.data, .data], laidTests := true, laidLooks := .later }
def ColorNearestUptoCardSaid : Prop := Claim7.holds Tryd.pinned (.plain (OpenSpec.upto colorNearestSpec)) colorNearestUptoCard

/-- THE SECOND FORM's CARD OF 'spyglasslaw13.ColorTwice'. -/
def colorTwiceUptoCard : Claim7 := { stood := { row := colorTwiceUptoRow, standIns := [], harness := (true, "4878ab61f23355af7d03711200d005886ac35439fc0f24baf5c444cbd1a34ecd"), looks := false }, kinds := [], alts := [], laidByText := true, laidKinds := [.data, .data], laidTests := true, laidLooks := .later }
def ColorTwiceUptoCardSaid : Prop := Claim7.holds Tryd.pinned (.plain (OpenSpec.upto colorTwiceSpec)) colorTwiceUptoCard

/-- THE SECOND FORM's CARD OF 'spyglasslaw13.ColorFew'. -/
def colorFewUptoCard : Claim7 := { stood := { row := colorFewUptoRow, standIns := [], harness := (true, "4878ab61f23355af7d03711200d005886ac35439fc0f24baf5c444cbd1a34ecd"), looks := false }, kinds := [], alts := [], laidByText := true, laidKinds := [.data, .data], laidTests := true, laidLooks := .later }
def ColorFewUptoCardSaid : Prop := Claim7.holds Tryd.pinned (.plain (OpenSpec.upto colorFewSpec)) colorFewUptoCard
end Rows
end Go.Proofs.YtfbfidlgfdnneaaDoor
