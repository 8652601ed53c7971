/-
  DERIVED. GIVEN WITH THE SEED: THE CARDS: each row of YtojchkhnalnncaaDoorRows.lean that lists a variable, with what it lists TIED to the program's text (the seventh form; the later family's looks); each row that meets fmt, with fmt's text TOLD by the authors' own Lean function (tested against real Go, not proved from fmt's source: count such statements apart). THE CARD IS WHAT COUNTS. Prove the row's statement (the work); the ties are given (YtojchkhnalnncaaDoorTie.lean); close each card by the builder's one call (the guide's Derived/Test/ToyasCard.lean, 'card_holds'). Laid BY PROGRAM, IN A SANDBOX (cutbox-door.mjs). By AI agents, Wed Nov 11 2026. No macro, syntax, notation, axiom, sorry.
-/
import Derived.Test.YtojchkhnalnncaaDoorRows
import GoSem.ClaimSeven
namespace Go.Proofs.YtojchkhnalnncaaDoor
namespace Rows

/-- THE TIED CARD OF 'spyglasslaw15.ProjectShows'. -/
def projectShowsCard : Claim7 := { stood := { row := projectShowsRow, standIns := [], harness := (true, "f1cbec98baf94f759baa2ac5bcccab792b990e3736dec96f6cad13a341a4cf1d"), looks := false }, kinds := [], alts := [], laidByText := true, laidKinds := [.data, .data, .data, .data, .pinned], laidTests := true, laidLooks := .later }
def ProjectShowsCardSaid : Prop := Claim7.holds Tryd.pinned (.plain (OpenSpec.ofChange projectShowsSpec)) projectShowsCard

/-- THE TIED CARD OF 'spyglasslaw15.ProjectRight'. -/
def projectRightCard : Claim7 := { stood := { row := projectRightRow, standIns := [], harness := (true, "f1cbec98baf94f759baa2ac5bcccab792b990e3736dec96f6cad13a341a4cf1d"), looks := false }, kinds := [], alts := [], laidByText := true, laidKinds := [.data, .data, .data, .data, .pinned], laidTests := true, laidLooks := .later }
def ProjectRightCardSaid : Prop := Claim7.holds Tryd.pinned (.plain (OpenSpec.ofChange projectRightSpec)) projectRightCard

/-- THE TIED CARD OF 'spyglasslaw15.ProjectTwice'. -/
def projectTwiceCard : Claim7 := { stood := { row := projectTwiceRow, standIns := [], harness := (true, "f1cbec98baf94f759baa2ac5bcccab792b990e3736dec96f6cad13a341a4cf1d"), looks := false }, kinds := [], alts := [], laidByText := true, laidKinds := [.data, .data, .data, .data, .pinned], laidTests := true, laidLooks := .later }
def ProjectTwiceCardSaid : Prop := Claim7.holds Tryd.pinned (.plain (OpenSpec.ofChange projectTwiceSpec)) projectTwiceCard

/-- THE TIED CARD OF 'spyglasslaw15.ProjectPlain'. -/
def projectPlainCard : Claim7 := { stood := { row := projectPlainRow, standIns := [], harness := (true, "f1cbec98baf94f759baa2ac5bcccab792b990e3736dec96f6cad13a341a4cf1d"), looks := false }, kinds := [], alts := [], laidByText := true, laidKinds := [.data, .data, .data, .data, .pinned], laidTests := true, laidLooks := .later }
def ProjectPlainCardSaid : Prop := Claim7.holds Tryd.pinned (.plain (OpenSpec.ofChange projectPlainSpec)) projectPlainCard

/-- THE TIED CARD OF 'spyglasslaw15.ProjectBlank'. -/
def projectBlankCard : Claim7 := { stood := { row := projectBlankRow, standIns := [], harness := (true, "f1cbec98baf94f759baa2ac5bcccab792b990e3736dec96f6cad13a341a4cf1d"), looks := false }, kinds := [], alts := [], laidByText := true, laidKinds := [.data, .data, .data, .data, .pinned], laidTests := true, laidLooks := .later }
def ProjectBlankCardSaid : Prop := Claim7.holds Tryd.pinned (.plain (OpenSpec.ofChange projectBlankSpec)) projectBlankCard

/-- THE SECOND FORM's CARD OF 'spyglasslaw15.ProjectShows'. -/
def projectShowsUptoCard : Claim7 := { stood := { row := projectShowsUptoRow, standIns := [], harness := (true, "f1cbec98baf94f759baa2ac5bcccab792b990e3736dec96f6cad13a341a4cf1d"), looks := false }, kinds := [], alts := [], laidByText := true, laidKinds := [.data, .data, .data, .data, .pinned], laidTests := true, laidLooks := .later }
def ProjectShowsUptoCardSaid : Prop := Claim7.holds Tryd.pinned (.plain (OpenSpec.upto projectShowsSpec)) projectShowsUptoCard

/-- THE SECOND FORM's CARD OF 'spyglasslaw15.ProjectRight'. -/
def projectRightUptoCard : Claim7 := { stood := { row := projectRightUptoRow, standIns := [], harness := (true, "f1cbec98baf94f759baa2ac5bcccab792b990e3736dec96f6cad13a341a4cf1d"), looks := false }, kinds := [], alts := [], laidByText := true, laidKinds := [.data, .data, .data, .data, .pinned], laidTests := true, laidLooks := .later }
def ProjectRightUptoCardSaid : Prop := Claim7.holds Tryd.pinned (.plain (OpenSpec.upto projectRightSpec)) projectRightUptoCard

/-- THE SECOND FORM's CARD OF 'spyglasslaw15.ProjectTwice'. -/
def projectTwiceUptoCard : Claim7 := { stood := { row := projectTwiceUptoRow, standIns := [], harness := (true, "f1cbec98baf94f759baa2ac5bcccab792b990e3736dec96f6cad13a341a4cf1d"), looks := false }, kinds := [], alts := [], laidByText := true, laidKinds := [.data, .data, .data, .data, .pinned], laidTests := true, laidLooks := .later }
def ProjectTwiceUptoCardSaid : Prop := Claim7.holds Tryd.pinned (.plain (OpenSpec.upto projectTwiceSpec)) projectTwiceUptoCard

/-- THE SECOND FORM's CARD OF 'spyglasslaw15.ProjectPlain'. -/
def projectPlainUptoCard : Claim7 := { stood := { row := projectPlainUptoRow, standIns := [], harness := (true, "f1cbec98baf94f759baa2ac5bcccab792b990e3736dec96f6cad13a341a4cf1d"), looks := false }, kinds := [], alts := [], laidByText := true, laidKinds := [.data, .data, .data, .data, .pinned], laidTests := true, laidLooks := .later }
def ProjectPlainUptoCardSaid : Prop := Claim7.holds Tryd.pinned (.plain (OpenSpec.upto projectPlainSpec)) projectPlainUptoCard

/-- THE SECOND FORM's CARD OF 'spyglasslaw15.ProjectBlank'. -/
def projectBlankUptoCard : Claim7 := { stood := { row := projectBlankUptoRow, standIns := [], harness := (true, "f1cbec98baf94f759baa2ac5bcccab792b990e3736dec96f6cad13a341a4cf1d"), looks := false }, kinds := [], alts := [], laidByText := true, laidKinds := [.data, .data, .data, .data, .pinned], laidTests := true, laidLooks := .later }
def ProjectBlankUptoCardSaid : Prop := Claim7.holds Tryd.pinned (.plain (OpenSpec.upto projectBlankSpec)) projectBlankUptoCard
end Rows
end Go.Proofs.YtojchkhnalnncaaDoor
