/-
  NARROWER THAN 'FOR EVERY INPUT', by the rows' own cells (each row's printed sentence says how): UtfFeeds: laid · UtfRunes: laid · UtfBack: laid · UtfValid: laid · UtfApart: laid · UtfWidths: laid.
  DERIVED. THE GIVEN ROWS OF THIS SEAT. 6 by the template 'for every input the law returns true; each argument reads behind the call as it read before'; 0 by the template 'total and deterministic' (their statements: YtpikbekcdbfdhaaDoorTotals.lean).
  GIVEN WITH THE SEED: the statements are not yours to turn. If you find one false, say at which input.
  Laid BY PROGRAM, IN A SANDBOX (cutbox-rows.mjs): the forced cells as the released guide's own fill.sh prints them over the translation e639de056ce164da… (all of the seat's roots in one cut). By AI agents, Wed Nov 11 2026. No macro, syntax, notation, axiom, sorry.
-/
import Derived.Test.YtpikbekcdbfdhaaDoorChecked
import GoSem.PinnedTables
import GoSem.Claim
import GoSem.ClaimJoined
import GoSem.ClaimMapViews
import Derived.JoinedTies
import Derived.KernelRfl
namespace Go.Proofs.YtpikbekcdbfdhaaDoor
/- THE CELL 'sum', in the pinned program and in every row, IS THE sha256 OF THE DUMP (.gsa) THAT YtpikbekcdbfdhaaDoorProg.lean LOADS. Nothing in Lean hashes anything: it is a label: what it is worth is what the hold of that sum in a sandbox is worth. -/
noncomputable def Tryd.pinned : Pinned := { name := "ytpikbekcdbfdhaadoor", sum := "e639de056ce164daa24d0be846db32e7e71833fa64528b475662261c176726e9", checked := Tryd.checked }
namespace Rows
def none {H : Type} : Left H := { results := [], args := [] }

/- WHAT THE LISTED PACKAGE-LEVEL VARIABLES READ AS WHEN THE CALL BEGINS. Each datum BY PROGRAM (the guide's laid-datum.mjs) off the statement by which the dump's own 'gosem.cut.vars' lays the variable. In a bare row this is a premise. The card (YtpikbekcdbfdhaaDoorCards.lean) ties it to the program's text. -/
def laid_unicode_utf8_acceptRanges {H : Type} : DataW H := .agg [.agg [.lit (.int .u8 128), .lit (.int .u8 191)], .agg [.lit (.int .u8 160), .lit (.int .u8 191)], .agg [.lit (.int .u8 128), .lit (.int .u8 159)], .agg [.lit (.int .u8 144), .lit (.int .u8 191)], .agg [.lit (.int .u8 128), .lit (.int .u8 143)], .agg [.lit (.int .u8 0), .lit (.int .u8 0)], .agg [.lit (.int .u8 0), .lit (.int .u8 0)], .agg [.lit (.int .u8 0), .lit (.int .u8 0)], .agg [.lit (.int .u8 0), .lit (.int .u8 0)], .agg [.lit (.int .u8 0), .lit (.int .u8 0)], .agg [.lit (.int .u8 0), .lit (.int .u8 0)], .agg [.lit (.int .u8 0), .lit (.int .u8 0)], .agg [.lit (.int .u8 0), .lit (.int .u8 0)], .agg [.lit (.int .u8 0), .lit (.int .u8 0)], .agg [.lit (.int .u8 0), .lit (.int .u8 0)], .agg [.lit (.int .u8 0), .lit (.int .u8 0)]]
def laid_spyglass_utf_stretches {H : Type} : DataW H := .agg [.agg [.lit (.int .i32 0), .lit (.int .i32 31), .lit (.int .i64 0)], .agg [.lit (.int .i32 127), .lit (.int .i32 159), .lit (.int .i64 0)], .agg [.lit (.int .i32 768), .lit (.int .i32 879), .lit (.int .i64 0)], .agg [.lit (.int .i32 8203), .lit (.int .i32 8207), .lit (.int .i64 0)], .agg [.lit (.int .i32 65024), .lit (.int .i32 65039), .lit (.int .i64 0)], .agg [.lit (.int .i32 4352), .lit (.int .i32 4447), .lit (.int .i64 2)], .agg [.lit (.int .i32 11904), .lit (.int .i32 12350), .lit (.int .i64 2)], .agg [.lit (.int .i32 12353), .lit (.int .i32 42191), .lit (.int .i64 2)], .agg [.lit (.int .i32 44032), .lit (.int .i32 55203), .lit (.int .i64 2)], .agg [.lit (.int .i32 63744), .lit (.int .i32 64255), .lit (.int .i64 2)], .agg [.lit (.int .i32 65072), .lit (.int .i32 65135), .lit (.int .i64 2)], .agg [.lit (.int .i32 65280), .lit (.int .i32 65376), .lit (.int .i64 2)], .agg [.lit (.int .i32 65504), .lit (.int .i32 65510), .lit (.int .i64 2)], .agg [.lit (.int .i32 127744), .lit (.int .i32 128591), .lit (.int .i64 2)], .agg [.lit (.int .i32 131072), .lit (.int .i32 262141), .lit (.int .i64 2)]]
/-- One of Go's own tables, pinned by name: the form's constant. -/
def laid_unicode_utf8_first : DataW Unit := Go.Pinned.utf8First

/-- 'spyglasslaw07.UtfFeeds': WHATEVER THE INPUT: true; the input reads as it did. -/
def utfFeedsSpec : ChangeSpec := { name := "utfFeeds", fn := fun _ => fun
  | [d] => { results := [.lit (.bool true)], args := [d] }
  | _ => none }
def utfFeedsRow : OpenClaim := { program := "ytpikbekcdbfdhaadoor", sum := "e639de056ce164daa24d0be846db32e7e71833fa64528b475662261c176726e9", func := "spyglass/spyglasslaw07.UtfFeeds", spec := "utfFeeds", recurses := true, named := ["unicode/utf8.first", "unicode/utf8.acceptRanges", "spyglass/utf.stretches"], apart := false, laid := [("unicode/utf8.acceptRanges", laid_unicode_utf8_acceptRanges), ("spyglass/utf.stretches", laid_spyglass_utf_stretches), ("unicode/utf8.first", laid_unicode_utf8_first)] }
def UtfFeedsSaid : Prop := utfFeedsRow.holds Tryd.pinned (OpenSpec.ofChange utfFeedsSpec)

/-- ITS FALSE NEIGHBOUR: 'it returns false'. Refute it at one input. -/
def utfFeedsWrong : ChangeSpec := { name := "utfFeeds", fn := fun _ => fun
  | [d] => { results := [.lit (.bool false)], args := [d] }
  | _ => none }
def UtfFeedsWrongFalsely : Prop := utfFeedsRow.holds Tryd.pinned (OpenSpec.ofChange utfFeedsWrong)

/-- 'spyglasslaw07.UtfRunes': WHATEVER THE INPUT: true; the input reads as it did. -/
def utfRunesSpec : ChangeSpec := { name := "utfRunes", fn := fun _ => fun
  | [d] => { results := [.lit (.bool true)], args := [d] }
  | _ => none }
def utfRunesRow : OpenClaim := { program := "ytpikbekcdbfdhaadoor", sum := "e639de056ce164daa24d0be846db32e7e71833fa64528b475662261c176726e9", func := "spyglass/spyglasslaw07.UtfRunes", spec := "utfRunes", recurses := true, named := ["unicode/utf8.first", "unicode/utf8.acceptRanges", "spyglass/utf.stretches"], apart := false, laid := [("unicode/utf8.acceptRanges", laid_unicode_utf8_acceptRanges), ("spyglass/utf.stretches", laid_spyglass_utf_stretches), ("unicode/utf8.first", laid_unicode_utf8_first)] }
def UtfRunesSaid : Prop := utfRunesRow.holds Tryd.pinned (OpenSpec.ofChange utfRunesSpec)

/-- ITS FALSE NEIGHBOUR: 'it returns false'. Refute it at one input. -/
def utfRunesWrong : ChangeSpec := { name := "utfRunes", fn := fun _ => fun
  | [d] => { results := [.lit (.bool false)], args := [d] }
  | _ => none }
def UtfRunesWrongFalsely : Prop := utfRunesRow.holds Tryd.pinned (OpenSpec.ofChange utfRunesWrong)

/-- 'spyglasslaw07.UtfBack': WHATEVER THE INPUT: true; the input reads as it did. -/
def utfBackSpec : ChangeSpec := { name := "utfBack", fn := fun _ => fun
  | [d] => { results := [.lit (.bool true)], args := [d] }
  | _ => none }
def utfBackRow : OpenClaim := { program := "ytpikbekcdbfdhaadoor", sum := "e639de056ce164daa24d0be846db32e7e71833fa64528b475662261c176726e9", func := "spyglass/spyglasslaw07.UtfBack", spec := "utfBack", named := ["unicode/utf8.first", "unicode/utf8.acceptRanges", "spyglass/utf.stretches"], apart := false, laid := [("unicode/utf8.acceptRanges", laid_unicode_utf8_acceptRanges), ("spyglass/utf.stretches", laid_spyglass_utf_stretches), ("unicode/utf8.first", laid_unicode_utf8_first)] }
def UtfBackSaid : Prop := utfBackRow.holds Tryd.pinned (OpenSpec.ofChange utfBackSpec)

/-- ITS FALSE NEIGHBOUR: 'it returns false'. Refute it at one input. -/
def utfBackWrong : ChangeSpec := { name := "utfBack", fn := fun _ => fun
  | [d] => { results := [.lit (.bool false)], args := [d] }
  | _ => none }
def UtfBackWrongFalsely : Prop := utfBackRow.holds Tryd.pinned (OpenSpec.ofChange utfBackWrong)

/-- 'spyglasslaw07.UtfValid': WHATEVER THE INPUT: true; the input reads as it did. -/
def utfValidSpec : ChangeSpec := { name := "utfValid", fn := fun _ => fun
  | [d] => { results := [.lit (.bool true)], args := [d] }
  | _ => none }
def utfValidRow : OpenClaim := { program := "ytpikbekcdbfdhaadoor", sum := "e639de056ce164daa24d0be846db32e7e71833fa64528b475662261c176726e9", func := "spyglass/spyglasslaw07.UtfValid", spec := "utfValid", named := ["unicode/utf8.first", "unicode/utf8.acceptRanges", "spyglass/utf.stretches"], apart := false, laid := [("unicode/utf8.acceptRanges", laid_unicode_utf8_acceptRanges), ("spyglass/utf.stretches", laid_spyglass_utf_stretches), ("unicode/utf8.first", laid_unicode_utf8_first)] }
def UtfValidSaid : Prop := utfValidRow.holds Tryd.pinned (OpenSpec.ofChange utfValidSpec)

/-- ITS FALSE NEIGHBOUR: 'it returns false'. Refute it at one input. -/
def utfValidWrong : ChangeSpec := { name := "utfValid", fn := fun _ => fun
  | [d] => { results := [.lit (.bool false)], args := [d] }
  | _ => none }
def UtfValidWrongFalsely : Prop := utfValidRow.holds Tryd.pinned (OpenSpec.ofChange utfValidWrong)

/-- 'spyglasslaw07.UtfApart': WHATEVER THE INPUT: true; the input reads as it did. -/
def utfApartSpec : ChangeSpec := { name := "utfApart", fn := fun _ => fun
  | [d1, d2, d3] => { results := [.lit (.bool true)], args := [d1, d2, d3] }
  | _ => none }
def utfApartRow : OpenClaim := { program := "ytpikbekcdbfdhaadoor", sum := "e639de056ce164daa24d0be846db32e7e71833fa64528b475662261c176726e9", func := "spyglass/spyglasslaw07.UtfApart", spec := "utfApart", named := ["unicode/utf8.first", "unicode/utf8.acceptRanges", "spyglass/utf.stretches"], apart := false, laid := [("unicode/utf8.acceptRanges", laid_unicode_utf8_acceptRanges), ("spyglass/utf.stretches", laid_spyglass_utf_stretches), ("unicode/utf8.first", laid_unicode_utf8_first)] }
def UtfApartSaid : Prop := utfApartRow.holds Tryd.pinned (OpenSpec.ofChange utfApartSpec)

/-- ITS FALSE NEIGHBOUR: 'it returns false'. Refute it at one input. -/
def utfApartWrong : ChangeSpec := { name := "utfApart", fn := fun _ => fun
  | [d1, d2, d3] => { results := [.lit (.bool false)], args := [d1, d2, d3] }
  | _ => none }
def UtfApartWrongFalsely : Prop := utfApartRow.holds Tryd.pinned (OpenSpec.ofChange utfApartWrong)

/-- 'spyglasslaw07.UtfWidths': WHATEVER THE INPUT: true; the input reads as it did. -/
def utfWidthsSpec : ChangeSpec := { name := "utfWidths", fn := fun _ => fun
  | [d] => { results := [.lit (.bool true)], args := [d] }
  | _ => none }
def utfWidthsRow : OpenClaim := { program := "ytpikbekcdbfdhaadoor", sum := "e639de056ce164daa24d0be846db32e7e71833fa64528b475662261c176726e9", func := "spyglass/spyglasslaw07.UtfWidths", spec := "utfWidths", recurses := true, named := ["unicode/utf8.first", "unicode/utf8.acceptRanges", "spyglass/utf.stretches"], apart := false, laid := [("unicode/utf8.acceptRanges", laid_unicode_utf8_acceptRanges), ("spyglass/utf.stretches", laid_spyglass_utf_stretches), ("unicode/utf8.first", laid_unicode_utf8_first)] }
def UtfWidthsSaid : Prop := utfWidthsRow.holds Tryd.pinned (OpenSpec.ofChange utfWidthsSpec)

/-- ITS FALSE NEIGHBOUR: 'it returns false'. Refute it at one input. -/
def utfWidthsWrong : ChangeSpec := { name := "utfWidths", fn := fun _ => fun
  | [d] => { results := [.lit (.bool false)], args := [d] }
  | _ => none }
def UtfWidthsWrongFalsely : Prop := utfWidthsRow.holds Tryd.pinned (OpenSpec.ofChange utfWidthsWrong)

/- THE SECOND FORM. 'bulk': how many values and letters a reading holds, each counted each time it is reached (what is shared counts as often as it is met; a slice's spare places count too). A statement '..UptoSaid' is the law's where the arguments, and the package variables that the reading takes, are together of bulk at most 1048576: NARROWER than '..Said'. Prove '..Said' where nothing that the law and all that it calls make is longer than what came in: it says more and counts as full. Else prove '..UptoSaid'. A law counts once. -/
mutual
def uptoBulk {H : Type} : DataW H → Nat
  | .lit (.string bytes) => bytes.length + 1
  | .lit _ => 1
  | .nil => 1
  | .ptr d => uptoBulk d + 1
  | .slice elems spare => uptoBulkAll elems + uptoBulkAll spare + 1
  | .agg parts => uptoBulkAll parts + 1
  | .iface _ d => uptoBulk d + 1
  | .map entries => uptoBulkEntries entries + 1
  | .held _ => 1
def uptoBulkAll {H : Type} : List (DataW H) → Nat
  | [] => 0
  | d :: r => uptoBulk d + uptoBulkAll r
def uptoBulkEntries {H : Type} : List (Lit × DataW H) → Nat
  | [] => 0
  | x :: r => uptoBulkEntry x + uptoBulkEntries r
def uptoBulkEntry {H : Type} : Lit × DataW H → Nat
  | (.string bytes, d) => bytes.length + uptoBulk d + 1
  | (_, d) => uptoBulk d + 1
 end
def uptoSmall : (H : Type) → List (DataW H) → Bool := fun _ ds => decide (uptoBulkAll ds ≤ 1048576)
def OpenSpec.upto (s : _root_.Go.ChangeSpec) : _root_.Go.OpenSpec := { _root_.Go.OpenSpec.ofChange s with cond := some uptoSmall }

/-- 'spyglasslaw07.UtfFeeds', WHERE WHAT IT READS IS OF BULK AT MOST 1048576: true; the input reads as it did. -/
def utfFeedsUptoRow : OpenClaim := { program := "ytpikbekcdbfdhaadoor", sum := "e639de056ce164daa24d0be846db32e7e71833fa64528b475662261c176726e9", func := "spyglass/spyglasslaw07.UtfFeeds", spec := "utfFeeds", recurses := true, named := ["unicode/utf8.first", "unicode/utf8.acceptRanges", "spyglass/utf.stretches"], apart := false, laid := [("unicode/utf8.acceptRanges", laid_unicode_utf8_acceptRanges), ("spyglass/utf.stretches", laid_spyglass_utf_stretches), ("unicode/utf8.first", laid_unicode_utf8_first)], narrowed := true }
def UtfFeedsUptoSaid : Prop := utfFeedsUptoRow.holds Tryd.pinned (OpenSpec.upto utfFeedsSpec)

/-- 'spyglasslaw07.UtfRunes', WHERE WHAT IT READS IS OF BULK AT MOST 1048576: true; the input reads as it did. -/
def utfRunesUptoRow : OpenClaim := { program := "ytpikbekcdbfdhaadoor", sum := "e639de056ce164daa24d0be846db32e7e71833fa64528b475662261c176726e9", func := "spyglass/spyglasslaw07.UtfRunes", spec := "utfRunes", recurses := true, named := ["unicode/utf8.first", "unicode/utf8.acceptRanges", "spyglass/utf.stretches"], apart := false, laid := [("unicode/utf8.acceptRanges", laid_unicode_utf8_acceptRanges), ("spyglass/utf.stretches", laid_spyglass_utf_stretches), ("unicode/utf8.first", laid_unicode_utf8_first)], narrowed := true }
def UtfRunesUptoSaid : Prop := utfRunesUptoRow.holds Tryd.pinned (OpenSpec.upto utfRunesSpec)

/-- 'spyglasslaw07.UtfBack', WHERE WHAT IT READS IS OF BULK AT MOST 1048576: true; the input reads as it did. -/
def utfBackUptoRow : OpenClaim := { program := "ytpikbekcdbfdhaadoor", sum := "e639de056ce164daa24d0be846db32e7e71833fa64528b475662261c176726e9", func := "spyglass/spyglasslaw07.UtfBack", spec := "utfBack", named := ["unicode/utf8.first", "unicode/utf8.acceptRanges", "spyglass/utf.stretches"], apart := false, laid := [("unicode/utf8.acceptRanges", laid_unicode_utf8_acceptRanges), ("spyglass/utf.stretches", laid_spyglass_utf_stretches), ("unicode/utf8.first", laid_unicode_utf8_first)], narrowed := true }
def UtfBackUptoSaid : Prop := utfBackUptoRow.holds Tryd.pinned (OpenSpec.upto utfBackSpec)

/-- 'spyglasslaw07.UtfValid', WHERE WHAT IT READS IS OF BULK AT MOST 1048576: true; the input reads as it did. -/
def utfValidUptoRow : OpenClaim := { program := "ytpikbekcdbfdhaadoor", sum := "e639de056ce164daa24d0be846db32e7e71833fa64528b475662261c176726e9", func := "spyglass/spyglasslaw07.UtfValid", spec := "utfValid", named := ["unicode/utf8.first", "unicode/utf8.acceptRanges", "spyglass/utf.stretches"], apart := false, laid := [("unicode/utf8.acceptRanges", laid_unicode_utf8_acceptRanges), ("spyglass/utf.stretches", laid_spyglass_utf_stretches), ("unicode/utf8.first", laid_unicode_utf8_first)], narrowed := true }
def UtfValidUptoSaid : Prop := utfValidUptoRow.holds Tryd.pinned (OpenSpec.upto utfValidSpec)

/-- 'spyglasslaw07.UtfApart', WHERE WHAT IT READS IS OF BULK AT MOST 1048576: true; the input reads as it did. -/
def utfApartUptoRow : OpenClaim := { program := "ytpikbekcdbfdhaadoor", sum := "e639de056ce164daa24d0be846db32e7e71833fa64528b475662261c176726e9", func := "spyglass/spyglasslaw07.UtfApart", spec := "utfApart", named := ["unicode/utf8.first", "unicode/utf8.acceptRanges", "spyglass/utf.stretches"], apart := false, laid := [("unicode/utf8.acceptRanges", laid_unicode_utf8_acceptRanges), ("spyglass/utf.stretches", laid_spyglass_utf_stretches), ("unicode/utf8.first", laid_unicode_utf8_first)], narrowed := true }
def UtfApartUptoSaid : Prop := utfApartUptoRow.holds Tryd.pinned (OpenSpec.upto utfApartSpec)

/-- 'spyglasslaw07.UtfWidths', WHERE WHAT IT READS IS OF BULK AT MOST 1048576: true; the input reads as it did. -/
def utfWidthsUptoRow : OpenClaim := { program := "ytpikbekcdbfdhaadoor", sum := "e639de056ce164daa24d0be846db32e7e71833fa64528b475662261c176726e9", func := "spyglass/spyglasslaw07.UtfWidths", spec := "utfWidths", recurses := true, named := ["unicode/utf8.first", "unicode/utf8.acceptRanges", "spyglass/utf.stretches"], apart := false, laid := [("unicode/utf8.acceptRanges", laid_unicode_utf8_acceptRanges), ("spyglass/utf.stretches", laid_spyglass_utf_stretches), ("unicode/utf8.first", laid_unicode_utf8_first)], narrowed := true }
def UtfWidthsUptoSaid : Prop := utfWidthsUptoRow.holds Tryd.pinned (OpenSpec.upto utfWidthsSpec)

end Rows
end Go.Proofs.YtpikbekcdbfdhaaDoor
