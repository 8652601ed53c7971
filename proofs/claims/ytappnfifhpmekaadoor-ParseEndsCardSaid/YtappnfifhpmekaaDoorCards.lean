/-
  DERIVED. GIVEN WITH THE SEED: THE CARDS: each row of YtappnfifhpmekaaDoorRows.lean that lists a variable, with what it lists TIED to the program's text (the seventh form; the later family's looks); each row that meets fmt, with fmt's text TOLD by the authors' own Lean function (tested against real Go, not proved from fmt's source: count such statements apart). THE CARD IS WHAT COUNTS. Prove the row's statement (the work); the ties are given (YtappnfifhpmekaaDoorTie.lean); close each card by the builder's one call (the guide's Derived/Test/ToyasCard.lean, 'card_holds'). Laid BY PROGRAM, IN A SANDBOX (cutbox-door.mjs). By AI agents, Wed Nov 11 2026. No macro, syntax, notation, axiom, sorry.
-/
import Derived.Test.YtappnfifhpmekaaDoorRows
import GoSem.ClaimSeven
namespace Go.Proofs.YtappnfifhpmekaaDoor
namespace Rows

/-- THE TIED CARD OF 'spyglasslaw11.ParseLays'. -/
def parseLaysCard : Claim7 := { stood := { row := parseLaysRow, standIns := [], harness := (true, "22d29cc82c8b355bfb1424932b06b9cc5aa63eb26655af52878d104497273544"), looks := false }, kinds := [], alts := [], laidByText := true, laidKinds := [.data, .data, .data, .data, .pinned], laidTests := true, laidLooks := .later }
def ParseLaysCardSaid : Prop := Claim7.holds Tryd.pinned (.plain (OpenSpec.ofChange parseLaysSpec)) parseLaysCard

/-- THE TIED CARD OF 'spyglasslaw11.ParseBack'. -/
def parseBackCard : Claim7 := { stood := { row := parseBackRow, standIns := [], harness := (true, "22d29cc82c8b355bfb1424932b06b9cc5aa63eb26655af52878d104497273544"), looks := false }, kinds := [], alts := [], laidByText := true, laidKinds := [.data, .data, .data, .data, .pinned], laidTests := true, laidLooks := .later }
def ParseBackCardSaid : Prop := Claim7.holds Tryd.pinned (.plain (OpenSpec.ofChange parseBackSpec)) parseBackCard

/-- THE TIED CARD OF 'spyglasslaw11.ParseEnds'. -/
def parseEndsCard : Claim7 := { stood := { row := parseEndsRow, standIns := [], harness := (true, "22d29cc82c8b355bfb1424932b06b9cc5aa63eb26655af52878d104497273544"), looks := false }, kinds := [], alts := [], laidByText := true, laidKinds := [.data, .pinned], laidTests := true, laidLooks := .later }
def ParseEndsCardSaid : Prop := Claim7.holds Tryd.pinned (.plain (OpenSpec.ofChange parseEndsSpec)) parseEndsCard

/-- THE TIED CARD OF 'spyglasslaw11.ParseBounds'. -/
def parseBoundsCard : Claim7 := { stood := { row := parseBoundsRow, standIns := [], harness := (true, "22d29cc82c8b355bfb1424932b06b9cc5aa63eb26655af52878d104497273544"), looks := false }, kinds := [], alts := [], laidByText := true, laidKinds := [.data, .pinned], laidTests := true, laidLooks := .later }
def ParseBoundsCardSaid : Prop := Claim7.holds Tryd.pinned (.plain (OpenSpec.ofChange parseBoundsSpec)) parseBoundsCard

/-- THE SECOND FORM's CARD OF 'spyglasslaw11.ParseLays'. -/
def parseLaysUptoCard : Claim7 := { stood := { row := parseLaysUptoRow, standIns := [], harness := (true, "22d29cc82c8b355bfb1424932b06b9cc5aa63eb26655af52878d104497273544"), looks := false }, kinds := [], alts := [], laidByText := true, laidKinds := [.data, .data, .data, .data, .pinned], laidTests := true, laidLooks := .later }
def ParseLaysUptoCardSaid : Prop := Claim7.holds Tryd.pinned (.plain (OpenSpec.upto parseLaysSpec)) parseLaysUptoCard

/-- THE SECOND FORM's CARD OF 'spyglasslaw11.ParseBack'. -/
def parseBackUptoCard : Claim7 := { stood := { row := parseBackUptoRow, standIns := [], harness := (true, "22d29cc82c8b355bfb1424932b06b9cc5aa63eb26655af52878d104497273544"), looks := false }, kinds := [], alts := [], laidByText := true, laidKinds := [.data, .data, .data, .data, .pinned], laidTests := true, laidLooks := .later }
def ParseBackUptoCardSaid : Prop := Claim7.holds Tryd.pinned (.plain (OpenSpec.upto parseBackSpec)) parseBackUptoCard

/-- THE SECOND FORM's CARD OF 'spyglasslaw11.ParseEnds'. -/
def parseEndsUptoCard : Claim7 := { stood := { row := parseEndsUptoRow, standIns := [], harness := (true, "22d29cc82c8b355bfb1424932b06b9cc5aa63eb26655af52878d104497273544"), looks := false }, kinds := [], alts := [], laidByText := true, laidKinds := [.data, .pinned], laidTests := true, laidLooks := .later }
def ParseEndsUptoCardSaid : Prop := Claim7.holds Tryd.pinned (.plain (OpenSpec.upto parseEndsSpec)) parseEndsUptoCard

/-- THE SECOND FORM's CARD OF 'spyglasslaw11.ParseBounds'. -/
def parseBoundsUptoCard : Claim7 := { stood := { row := parseBoundsUptoRow, standIns := [], harness := (true, "22d29cc82c8b355bfb1424932b06b9cc5aa63eb26655af52878d104497273544"), looks := false }, kinds := [], alts := [], laidByText := true, laidKinds := [.data, .pinned], laidTests := true, laidLooks := .later }
def ParseBoundsUptoCardSaid : Prop := Claim7.holds Tryd.pinned (.plain (OpenSpec.upto parseBoundsSpec)) parseBoundsUptoCard
end Rows
end Go.Proofs.YtappnfifhpmekaaDoor
