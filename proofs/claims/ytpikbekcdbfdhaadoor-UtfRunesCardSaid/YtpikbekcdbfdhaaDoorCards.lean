/-
  DERIVED. GIVEN WITH THE SEED: THE CARDS: each row of YtpikbekcdbfdhaaDoorRows.lean that lists a variable, with what it lists TIED to the program's text (the seventh form; the later family's looks); each row that meets fmt, with fmt's text TOLD by the authors' own Lean function (tested against real Go, not proved from fmt's source: count such statements apart). THE CARD IS WHAT COUNTS. Prove the row's statement (the work); the ties are given (YtpikbekcdbfdhaaDoorTie.lean); close each card by the builder's one call (the guide's Derived/Test/ToyasCard.lean, 'card_holds'). Laid BY PROGRAM, IN A SANDBOX (cutbox-door.mjs). By AI agents, Wed Nov 11 2026. No macro, syntax, notation, axiom, sorry.
-/
import Derived.Test.YtpikbekcdbfdhaaDoorRows
import GoSem.ClaimSeven
namespace Go.Proofs.YtpikbekcdbfdhaaDoor
namespace Rows

/-- THE TIED CARD OF 'spyglasslaw07.UtfFeeds'. -/
def utfFeedsCard : Claim7 := { stood := { row := utfFeedsRow, standIns := [], harness := (true, "48c5dde3a83d8e4e03bab96b107ca90b0c69bb21c39cf3b42bbf8073ebfc8228"), looks := false }, kinds := [], alts := [], laidByText := true, laidKinds := [.data, .data, .pinned], laidTests := true, laidLooks := .later }
def UtfFeedsCardSaid : Prop := Claim7.holds Tryd.pinned (.plain (OpenSpec.ofChange utfFeedsSpec)) utfFeedsCard

/-- THE TIED CARD OF 'spyglasslaw07.UtfRunes'. -/
def utfRunesCard : Claim7 := { stood := { row := utfRunesRow, standIns := [], harness := (true, "48c5dde3a83d8e4e03bab96b107ca90b0c69bb21c39cf3b42bbf8073ebfc8228"), looks := false }, kinds := [], alts := [], laidByText := true, laidKinds := [.data, .data, .pinned], laidTests := true, laidLooks := .later }
def UtfRunesCardSaid : Prop := Claim7.holds Tryd.pinned (.plain (OpenSpec.ofChange utfRunesSpec)) utfRunesCard

/-- THE TIED CARD OF 'spyglasslaw07.UtfBack'. -/
def utfBackCard : Claim7 := { stood := { row := utfBackRow, standIns := [], harness := (true, "48c5dde3a83d8e4e03bab96b107ca90b0c69bb21c39cf3b42bbf8073ebfc8228"), looks := false }, kinds := [], alts := [], laidByText := true, laidKinds := [.data, .data, .pinned], laidTests := true, laidLooks := .later }
def UtfBackCardSaid : Prop := Claim7.holds Tryd.pinned (.plain (OpenSpec.ofChange utfBackSpec)) utfBackCard

/-- THE TIED CARD OF 'spyglasslaw07.UtfValid'. -/
def utfValidCard : Claim7 := { stood := { row := utfValidRow, standIns := [], harness := (true, "48c5dde3a83d8e4e03bab96b107ca90b0c69bb21c39cf3b42bbf8073ebfc8228"), looks := false }, kinds := [], alts := [], laidByText := true, laidKinds := [.data, .data, .pinned], laidTests := true, laidLooks := .later }
def UtfValidCardSaid : Prop := Claim7.holds Tryd.pinned (.plain (OpenSpec.ofChange utfValidSpec)) utfValidCard

/-- THE TIED CARD OF 'spyglasslaw07.UtfApart'. -/
def utfApartCard : Claim7 := { stood := { row := utfApartRow, standIns := [], harness := (true, "48c5dde3a83d8e4e03bab96b107ca90b0c69bb21c39cf3b42bbf8073ebfc8228"), looks := false }, kinds := [], alts := [], laidByText := true, laidKinds := [.data, .data, .pinned], laidTests := true, laidLooks := .later }
def UtfApartCardSaid : Prop := Claim7.holds Tryd.pinned (.plain (OpenSpec.ofChange utfApartSpec)) utfApartCard

/-- THE TIED CARD OF 'spyglasslaw07.UtfWidths'. -/
def utfWidthsCard : Claim7 := { stood := { row := utfWidthsRow, standIns := [], harness := (true, "48c5dde3a83d8e4e03bab96b107ca90b0c69bb21c39cf3b42bbf8073ebfc8228"), looks := false }, kinds := [], alts := [], laidByText := true, laidKinds := [.data, .data, .pinned], laidTests := true, laidLooks := .later }
def UtfWidthsCardSaid : Prop := Claim7.holds Tryd.pinned (.plain (OpenSpec.ofChange utfWidthsSpec)) utfWidthsCard

/-- THE SECOND FORM's CARD OF 'spyglasslaw07.UtfFeeds'. -/
def utfFeedsUptoCard : Claim7 := { stood := { row := utfFeedsUptoRow, standIns := [], harness := (true, "48c5dde3a83d8e4e03bab96b107ca90b0c69bb21c39cf3b42bbf8073ebfc8228"), looks := false }, kinds := [], alts := [], laidByText := true, laidKinds := [.data, .data, .pinned], laidTests := true, laidLooks := .later }
def UtfFeedsUptoCardSaid : Prop := Claim7.holds Tryd.pinned (.plain (OpenSpec.upto utfFeedsSpec)) utfFeedsUptoCard

/-- THE SECOND FORM's CARD OF 'spyglasslaw07.UtfRunes'. -/
def utfRunesUptoCard : Claim7 := { stood := { row := utfRunesUptoRow, standIns := [], harness := (true, "48c5dde3a83d8e4e03bab96b107ca90b0c69bb21c39cf3b42bbf8073ebfc8228"), looks := false }, kinds := [], alts := [], laidByText := true, laidKinds := [.data, .data, .pinned], laidTests := true, laidLooks := .later }
def UtfRunesUptoCardSaid : Prop := Claim7.holds Tryd.pinned (.plain (OpenSpec.upto utfRunesSpec)) utfRunesUptoCard

/-- THE SECOND FORM's CARD OF 'spyglasslaw07.UtfBack'. -/
def utfBackUptoCard : Claim7 := { stood := { row := utfBackUptoRow, standIns := [], harness := (true, "48c5dde3a83d8e4e03bab96b107ca90b0c69bb21c39cf3b42bbf8073ebfc8228"), looks := false }, kinds := [], alts := [], laidByText := true, laidKinds := [.data, .data, .pinned], laidTests := true, laidLooks := .later }
def UtfBackUptoCardSaid : Prop := Claim7.holds Tryd.pinned (.plain (OpenSpec.upto utfBackSpec)) utfBackUptoCard

/-- THE SECOND FORM's CARD OF 'spyglasslaw07.UtfValid'. -/
def utfValidUptoCard : Claim7 := { stood := { row := utfValidUptoRow, standIns := [], harness := (true, "48c5dde3a83d8e4e03bab96b107ca90b0c69bb21c39cf3b42bbf8073ebfc8228"), looks := false }, kinds := [], alts := [], laidByText := true, laidKinds := [.data, .data, .pinned], laidTests := true, laidLooks := .later }
def UtfValidUptoCardSaid : Prop := Claim7.holds Tryd.pinned (.plain (OpenSpec.upto utfValidSpec)) utfValidUptoCard

/-- THE SECOND FORM's CARD OF 'spyglasslaw07.UtfApart'. -/
def utfApartUptoCard : Claim7 := { stood := { row := utfApartUptoRow, standIns := [], harness := (true, "48c5dde3a83d8e4e03bab96b107ca90b0c69bb21c39cf3b42bbf8073ebfc8228"), looks := false }, kinds := [], alts := [], laidByText := true, laidKinds := [.data, .data, .pinned], laidTests := true, laidLooks := .later }
def UtfApartUptoCardSaid : Prop := Claim7.holds Tryd.pinned (.plain (OpenSpec.upto utfApartSpec)) utfApartUptoCard

/-- THE SECOND FORM's CARD OF 'spyglasslaw07.UtfWidths'. -/
def utfWidthsUptoCard : Claim7 := { stood := { row := utfWidthsUptoRow, standIns := [], harness := (true, "48c5dde3a83d8e4e03bab96b107ca90b0c69bb21c39cf3b42bbf8073ebfc8228"), looks := false }, kinds := [], alts := [], laidByText := true, laidKinds := [.data, .data, .pinned], laidTests := true, laidLooks := .later }
def UtfWidthsUptoCardSaid : Prop := Claim7.holds Tryd.pinned (.plain (OpenSpec.upto utfWidthsSpec)) utfWidthsUptoCard
end Rows
end Go.Proofs.YtpikbekcdbfdhaaDoor
