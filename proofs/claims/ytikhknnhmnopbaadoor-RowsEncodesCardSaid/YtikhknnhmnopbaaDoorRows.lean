/-
  NARROWER THAN 'FOR EVERY INPUT', by the rows' own cells (each row's printed sentence says how): RowsEncodes: laid · RowsFit: laid · RowsStill: laid.
  DERIVED. THE GIVEN ROWS OF THIS SEAT. 3 by the template 'for every input the law returns true; each argument reads behind the call as it read before'; 0 by the template 'total and deterministic' (their statements: YtikhknnhmnopbaaDoorTotals.lean).
  GIVEN WITH THE SEED: the statements are not yours to turn. If you find one false, say at which input.
  Laid BY PROGRAM, IN A SANDBOX (cutbox-rows.mjs): the forced cells as the released guide's own fill.sh prints them over the translation ec76fadbd8e01bbe… (all of the seat's roots in one cut). By AI agents, Wed Nov 11 2026. No macro, syntax, notation, axiom, sorry.
-/
import Derived.Test.YtikhknnhmnopbaaDoorChecked
import GoSem.PinnedTables
import GoSem.Claim
import GoSem.ClaimJoined
import GoSem.ClaimMapViews
import Derived.JoinedTies
import Derived.KernelRfl
namespace Go.Proofs.YtikhknnhmnopbaaDoor
/- THE CELL 'sum', in the pinned program and in every row, IS THE sha256 OF THE DUMP (.gsa) THAT YtikhknnhmnopbaaDoorProg.lean LOADS. Nothing in Lean hashes anything: it is a label: what it is worth is what the hold of that sum in a sandbox is worth. -/
noncomputable def Tryd.pinned : Pinned := { name := "ytikhknnhmnopbaadoor", sum := "ec76fadbd8e01bbe374ef7598180c7a1dcf58011f5480a12cf0fd0588b796d91", checked := Tryd.checked }
namespace Rows
def none {H : Type} : Left H := { results := [], args := [] }

/- WHAT THE LISTED PACKAGE-LEVEL VARIABLES READ AS WHEN THE CALL BEGINS. Each datum BY PROGRAM (the guide's laid-datum.mjs) off the statement by which the dump's own 'gosem.cut.vars' lays the variable. In a bare row this is a premise. The card (YtikhknnhmnopbaaDoorCards.lean) ties it to the program's text. -/
def laid_unicode_utf8_acceptRanges {H : Type} : DataW H := .agg [.agg [.lit (.int .u8 128), .lit (.int .u8 191)], .agg [.lit (.int .u8 160), .lit (.int .u8 191)], .agg [.lit (.int .u8 128), .lit (.int .u8 159)], .agg [.lit (.int .u8 144), .lit (.int .u8 191)], .agg [.lit (.int .u8 128), .lit (.int .u8 143)], .agg [.lit (.int .u8 0), .lit (.int .u8 0)], .agg [.lit (.int .u8 0), .lit (.int .u8 0)], .agg [.lit (.int .u8 0), .lit (.int .u8 0)], .agg [.lit (.int .u8 0), .lit (.int .u8 0)], .agg [.lit (.int .u8 0), .lit (.int .u8 0)], .agg [.lit (.int .u8 0), .lit (.int .u8 0)], .agg [.lit (.int .u8 0), .lit (.int .u8 0)], .agg [.lit (.int .u8 0), .lit (.int .u8 0)], .agg [.lit (.int .u8 0), .lit (.int .u8 0)], .agg [.lit (.int .u8 0), .lit (.int .u8 0)], .agg [.lit (.int .u8 0), .lit (.int .u8 0)]]
def laid_spyglass_utf_stretches {H : Type} : DataW H := .agg [.agg [.lit (.int .i32 0), .lit (.int .i32 31), .lit (.int .i64 0)], .agg [.lit (.int .i32 127), .lit (.int .i32 159), .lit (.int .i64 0)], .agg [.lit (.int .i32 768), .lit (.int .i32 879), .lit (.int .i64 0)], .agg [.lit (.int .i32 8203), .lit (.int .i32 8207), .lit (.int .i64 0)], .agg [.lit (.int .i32 65024), .lit (.int .i32 65039), .lit (.int .i64 0)], .agg [.lit (.int .i32 4352), .lit (.int .i32 4447), .lit (.int .i64 2)], .agg [.lit (.int .i32 11904), .lit (.int .i32 12350), .lit (.int .i64 2)], .agg [.lit (.int .i32 12353), .lit (.int .i32 42191), .lit (.int .i64 2)], .agg [.lit (.int .i32 44032), .lit (.int .i32 55203), .lit (.int .i64 2)], .agg [.lit (.int .i32 63744), .lit (.int .i32 64255), .lit (.int .i64 2)], .agg [.lit (.int .i32 65072), .lit (.int .i32 65135), .lit (.int .i64 2)], .agg [.lit (.int .i32 65280), .lit (.int .i32 65376), .lit (.int .i64 2)], .agg [.lit (.int .i32 65504), .lit (.int .i32 65510), .lit (.int .i64 2)], .agg [.lit (.int .i32 127744), .lit (.int .i32 128591), .lit (.int .i64 2)], .agg [.lit (.int .i32 131072), .lit (.int .i32 262141), .lit (.int .i64 2)]]
/-- One of Go's own tables, pinned by name: the form's constant. -/
def laid_unicode_utf8_first : DataW Unit := Go.Pinned.utf8First

/-- 'spyglasslaw16.RowsEncodes': WHATEVER THE INPUT: true; the input reads as it did. -/
def rowsEncodesSpec : ChangeSpec := { name := "rowsEncodes", fn := fun _ => fun
  | [d1, d2] => { results := [.lit (.bool true)], args := [d1, d2] }
  | _ => none }
def rowsEncodesRow : OpenClaim := { program := "ytikhknnhmnopbaadoor", sum := "ec76fadbd8e01bbe374ef7598180c7a1dcf58011f5480a12cf0fd0588b796d91", func := "spyglass/spyglasslaw16.RowsEncodes", spec := "rowsEncodes", unfollowed := true, recurses := true, named := ["spyglass/utf.stretches", "unicode/utf8.first", "unicode/utf8.acceptRanges"], apart := false, laid := [("unicode/utf8.acceptRanges", laid_unicode_utf8_acceptRanges), ("spyglass/utf.stretches", laid_spyglass_utf_stretches), ("unicode/utf8.first", laid_unicode_utf8_first)] }
def RowsEncodesSaid : Prop := rowsEncodesRow.holds Tryd.pinned (OpenSpec.ofChange rowsEncodesSpec)

/-- ITS FALSE NEIGHBOUR: 'it returns false'. Refute it at one input. -/
def rowsEncodesWrong : ChangeSpec := { name := "rowsEncodes", fn := fun _ => fun
  | [d1, d2] => { results := [.lit (.bool false)], args := [d1, d2] }
  | _ => none }
def RowsEncodesWrongFalsely : Prop := rowsEncodesRow.holds Tryd.pinned (OpenSpec.ofChange rowsEncodesWrong)

/-- 'spyglasslaw16.RowsFit': WHATEVER THE INPUT: true; the input reads as it did. -/
def rowsFitSpec : ChangeSpec := { name := "rowsFit", fn := fun _ => fun
  | [d1, d2, d3] => { results := [.lit (.bool true)], args := [d1, d2, d3] }
  | _ => none }
def rowsFitRow : OpenClaim := { program := "ytikhknnhmnopbaadoor", sum := "ec76fadbd8e01bbe374ef7598180c7a1dcf58011f5480a12cf0fd0588b796d91", func := "spyglass/spyglasslaw16.RowsFit", spec := "rowsFit", unfollowed := true, recurses := true, named := ["spyglass/utf.stretches", "unicode/utf8.first", "unicode/utf8.acceptRanges"], apart := false, laid := [("unicode/utf8.acceptRanges", laid_unicode_utf8_acceptRanges), ("spyglass/utf.stretches", laid_spyglass_utf_stretches), ("unicode/utf8.first", laid_unicode_utf8_first)] }
def RowsFitSaid : Prop := rowsFitRow.holds Tryd.pinned (OpenSpec.ofChange rowsFitSpec)

/-- ITS FALSE NEIGHBOUR: 'it returns false'. Refute it at one input. -/
def rowsFitWrong : ChangeSpec := { name := "rowsFit", fn := fun _ => fun
  | [d1, d2, d3] => { results := [.lit (.bool false)], args := [d1, d2, d3] }
  | _ => none }
def RowsFitWrongFalsely : Prop := rowsFitRow.holds Tryd.pinned (OpenSpec.ofChange rowsFitWrong)

/-- 'spyglasslaw16.RowsStill': WHATEVER THE INPUT: true; the input reads as it did. -/
def rowsStillSpec : ChangeSpec := { name := "rowsStill", fn := fun _ => fun
  | [d1, d2, d3, d4] => { results := [.lit (.bool true)], args := [d1, d2, d3, d4] }
  | _ => none }
def rowsStillRow : OpenClaim := { program := "ytikhknnhmnopbaadoor", sum := "ec76fadbd8e01bbe374ef7598180c7a1dcf58011f5480a12cf0fd0588b796d91", func := "spyglass/spyglasslaw16.RowsStill", spec := "rowsStill", unfollowed := true, recurses := true, named := ["spyglass/utf.stretches", "unicode/utf8.first", "unicode/utf8.acceptRanges"], apart := false, laid := [("unicode/utf8.acceptRanges", laid_unicode_utf8_acceptRanges), ("spyglass/utf.stretches", laid_spyglass_utf_stretches), ("unicode/utf8.first", laid_unicode_utf8_first)] }
def RowsStillSaid : Prop := rowsStillRow.holds Tryd.pinned (OpenSpec.ofChange rowsStillSpec)

/-- ITS FALSE NEIGHBOUR: 'it returns false'. Refute it at one input. -/
def rowsStillWrong : ChangeSpec := { name := "rowsStill", fn := fun _ => fun
  | [d1, d2, d3, d4] => { results := [.lit (.bool false)], args := [d1, d2, d3, d4] }
  | _ => none }
def RowsStillWrongFalsely : Prop := rowsStillRow.holds Tryd.pinned (OpenSpec.ofChange rowsStillWrong)

/- THE SECOND FORM. 'bulk': how many values and letters a reading holds, each counted each time it is reached (what is shared counts as often as it is met; a slice's spare places count too). A statement '..UptoSaid' is the law's where the arguments, and the package variables that the reading takes, are together of bulk at most 1048576: NARROWER than '..Said'. Prove '..Said' where nothing that the law and all that it calls make is longer than what came in: it says more and counts as full. Else prove '..UptoSaid'. A law counts once. -/
mutual
def uptoBulk {H : Type} : DataW H → Nat
  | .lit (.string bytes) => bytes.length + 1
  | .lit _ => 1
  | .nil => 1
  | .ptr d => uptoBulk d + 1
  | .slice elems spare => uptoBulkAll elems + uptoBulkAll spare + 1
  | .agg parts => uptoBulkAll parts + 1
  | .iface _ d => uptoBulk d + 1
  | .map entries => uptoBulkEntries entries + 1
  | .held _ => 1
def uptoBulkAll {H : Type} : List (DataW H) → Nat
  | [] => 0
  | d :: r => uptoBulk d + uptoBulkAll r
def uptoBulkEntries {H : Type} : List (Lit × DataW H) → Nat
  | [] => 0
  | x :: r => uptoBulkEntry x + uptoBulkEntries r
def uptoBulkEntry {H : Type} : Lit × DataW H → Nat
  | (.string bytes, d) => bytes.length + uptoBulk d + 1
  | (_, d) => uptoBulk d + 1
 end
def uptoSmall : (H : Type) → List (DataW H) → Bool := fun _ ds => decide (uptoBulkAll ds ≤ 1048576)
def OpenSpec.upto (s : _root_.Go.ChangeSpec) : _root_.Go.OpenSpec := { _root_.Go.OpenSpec.ofChange s with cond := some uptoSmall }

/-- 'spyglasslaw16.RowsEncodes', WHERE WHAT IT READS IS OF BULK AT MOST 1048576: true; the input reads as it did. -/
def rowsEncodesUptoRow : OpenClaim := { program := "ytikhknnhmnopbaadoor", sum := "ec76fadbd8e01bbe374ef7598180c7a1dcf58011f5480a12cf0fd0588b796d91", func := "spyglass/spyglasslaw16.RowsEncodes", spec := "rowsEncodes", unfollowed := true, recurses := true, named := ["spyglass/utf.stretches", "unicode/utf8.first", "unicode/utf8.acceptRanges"], apart := false, laid := [("unicode/utf8.acceptRanges", laid_unicode_utf8_acceptRanges), ("spyglass/utf.stretches", laid_spyglass_utf_stretches), ("unicode/utf8.first", laid_unicode_utf8_first)], narrowed := true }
def RowsEncodesUptoSaid : Prop := rowsEncodesUptoRow.holds Tryd.pinned (OpenSpec.upto rowsEncodesSpec)

/-- 'spyglasslaw16.RowsFit', WHERE WHAT IT READS IS OF BULK AT MOST 1048576: true; the input reads as it did. -/
def rowsFitUptoRow : OpenClaim := { program := "ytikhknnhmnopbaadoor", sum := "ec76fadbd8e01bbe374ef7598180c7a1dcf58011f5480a12cf0fd0588b796d91", func := "spyglass/spyglasslaw16.RowsFit", spec := "rowsFit", unfollowed := true, recurses := true, named := ["spyglass/utf.stretches", "unicode/utf8.first", "unicode/utf8.acceptRanges"], apart := false, laid := [("unicode/utf8.acceptRanges", laid_unicode_utf8_acceptRanges), ("spyglass/utf.stretches", laid_spyglass_utf_stretches), ("unicode/utf8.first", laid_unicode_utf8_first)], narrowed := true }
def RowsFitUptoSaid : Prop := rowsFitUptoRow.holds Tryd.pinned (OpenSpec.upto rowsFitSpec)

/-- 'spyglasslaw16.RowsStill', WHERE WHAT IT READS IS OF BULK AT MOST 1048576: true; the input reads as it did. -/
def rowsStillUptoRow : OpenClaim := { program := "ytikhknnhmnopbaadoor", sum := "ec76fadbd8e01bbe374ef7598180c7a1dcf58011f5480a12cf0fd0588b796d91", func := "spyglass/spyglasslaw16.RowsStill", spec := "rowsStill", unfollowed := true, recurses := true, named := ["spyglass/utf.stretches", "unicode/utf8.first", "unicode/utf8.acceptRanges"], apart := false, laid := [("unicode/utf8.acceptRanges", laid_unicode_utf8_acceptRanges), ("spyglass/utf.stretches", laid_spyglass_utf_stretches), ("unicode/utf8.first", laid_unicode_utf8_first)], narrowed := true }
def RowsStillUptoSaid : Prop := rowsStillUptoRow.holds Tryd.pinned (OpenSpec.upto rowsStillSpec)

end Rows
end Go.Proofs.YtikhknnhmnopbaaDoor
