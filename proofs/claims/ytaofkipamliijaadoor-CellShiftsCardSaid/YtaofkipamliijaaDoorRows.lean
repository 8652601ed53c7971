/-
  NARROWER THAN 'FOR EVERY INPUT', by the rows' own cells (each row's printed sentence says how): CellMay: laid · CellDoes: laid · CellPlays: laid · CellElse: laid · CellShifts: laid.
  DERIVED. THE GIVEN ROWS OF THIS SEAT. 5 by the template 'for every input the law returns true; each argument reads behind the call as it read before'; 0 by the template 'total and deterministic' (their statements: YtaofkipamliijaaDoorTotals.lean).
  GIVEN WITH THE SEED: the statements are not yours to turn. If you find one false, say at which input.
  Laid BY PROGRAM, IN A SANDBOX (cutbox-rows.mjs): the forced cells as the released guide's own fill.sh prints them over the translation 913ba7e81c3818c7… (all of the seat's roots in one cut). By AI agents, Wed Nov 11 2026. No macro, syntax, notation, axiom, sorry.
-/
import Derived.Test.YtaofkipamliijaaDoorChecked
import GoSem.Claim
import GoSem.ClaimJoined
import GoSem.ClaimMapViews
import Derived.JoinedTies
import Derived.KernelRfl
namespace Go.Proofs.YtaofkipamliijaaDoor
/- THE CELL 'sum', in the pinned program and in every row, IS THE sha256 OF THE DUMP (.gsa) THAT YtaofkipamliijaaDoorProg.lean LOADS. Nothing in Lean hashes anything: it is a label: what it is worth is what the hold of that sum in a sandbox is worth. -/
noncomputable def Tryd.pinned : Pinned := { name := "ytaofkipamliijaadoor", sum := "913ba7e81c3818c728946e5c8c393c4919a03a625cd47db331af68c2a257f5f7", checked := Tryd.checked }
namespace Rows
def none {H : Type} : Left H := { results := [], args := [] }

/- WHAT THE LISTED PACKAGE-LEVEL VARIABLES READ AS WHEN THE CALL BEGINS. Each datum BY PROGRAM (the guide's laid-datum.mjs) off the statement by which the dump's own 'gosem.cut.vars' lays the variable. In a bare row this is a premise. The card (YtaofkipamliijaaDoorCards.lean) ties it to the program's text. -/
def laid_spyglass_utf_stretches {H : Type} : DataW H := .agg [.agg [.lit (.int .i32 0), .lit (.int .i32 31), .lit (.int .i64 0)], .agg [.lit (.int .i32 127), .lit (.int .i32 159), .lit (.int .i64 0)], .agg [.lit (.int .i32 768), .lit (.int .i32 879), .lit (.int .i64 0)], .agg [.lit (.int .i32 8203), .lit (.int .i32 8207), .lit (.int .i64 0)], .agg [.lit (.int .i32 65024), .lit (.int .i32 65039), .lit (.int .i64 0)], .agg [.lit (.int .i32 4352), .lit (.int .i32 4447), .lit (.int .i64 2)], .agg [.lit (.int .i32 11904), .lit (.int .i32 12350), .lit (.int .i64 2)], .agg [.lit (.int .i32 12353), .lit (.int .i32 42191), .lit (.int .i64 2)], .agg [.lit (.int .i32 44032), .lit (.int .i32 55203), .lit (.int .i64 2)], .agg [.lit (.int .i32 63744), .lit (.int .i32 64255), .lit (.int .i64 2)], .agg [.lit (.int .i32 65072), .lit (.int .i32 65135), .lit (.int .i64 2)], .agg [.lit (.int .i32 65280), .lit (.int .i32 65376), .lit (.int .i64 2)], .agg [.lit (.int .i32 65504), .lit (.int .i32 65510), .lit (.int .i64 2)], .agg [.lit (.int .i32 127744), .lit (.int .i32 128591), .lit (.int .i64 2)], .agg [.lit (.int .i32 131072), .lit (.int .i32 262141), .lit (.int .i64 2)]]

/-- 'spyglasslaw08.CellMay': WHATEVER THE INPUT: true; the input reads as it did. -/
def cellMaySpec : ChangeSpec := { name := "cellMay", fn := fun _ => fun
  | [d1, d2, d3] => { results := [.lit (.bool true)], args := [d1, d2, d3] }
  | _ => none }
def cellMayRow : OpenClaim := { program := "ytaofkipamliijaadoor", sum := "913ba7e81c3818c728946e5c8c393c4919a03a625cd47db331af68c2a257f5f7", func := "spyglass/spyglasslaw08.CellMay", spec := "cellMay", named := ["spyglass/utf.stretches"], apart := false, laid := [("spyglass/utf.stretches", laid_spyglass_utf_stretches)] }
def CellMaySaid : Prop := cellMayRow.holds Tryd.pinned (OpenSpec.ofChange cellMaySpec)

/-- ITS FALSE NEIGHBOUR: 'it returns false'. Refute it at one input. -/
def cellMayWrong : ChangeSpec := { name := "cellMay", fn := fun _ => fun
  | [d1, d2, d3] => { results := [.lit (.bool false)], args := [d1, d2, d3] }
  | _ => none }
def CellMayWrongFalsely : Prop := cellMayRow.holds Tryd.pinned (OpenSpec.ofChange cellMayWrong)

/-- 'spyglasslaw08.CellDoes': WHATEVER THE INPUT: true; the input reads as it did. -/
def cellDoesSpec : ChangeSpec := { name := "cellDoes", fn := fun _ => fun
  | [d1, d2] => { results := [.lit (.bool true)], args := [d1, d2] }
  | _ => none }
def cellDoesRow : OpenClaim := { program := "ytaofkipamliijaadoor", sum := "913ba7e81c3818c728946e5c8c393c4919a03a625cd47db331af68c2a257f5f7", func := "spyglass/spyglasslaw08.CellDoes", spec := "cellDoes", named := ["spyglass/utf.stretches"], apart := false, laid := [("spyglass/utf.stretches", laid_spyglass_utf_stretches)] }
def CellDoesSaid : Prop := cellDoesRow.holds Tryd.pinned (OpenSpec.ofChange cellDoesSpec)

/-- ITS FALSE NEIGHBOUR: 'it returns false'. Refute it at one input. -/
def cellDoesWrong : ChangeSpec := { name := "cellDoes", fn := fun _ => fun
  | [d1, d2] => { results := [.lit (.bool false)], args := [d1, d2] }
  | _ => none }
def CellDoesWrongFalsely : Prop := cellDoesRow.holds Tryd.pinned (OpenSpec.ofChange cellDoesWrong)

/-- 'spyglasslaw08.CellPlays': WHATEVER THE INPUT: true; the input reads as it did. -/
def cellPlaysSpec : ChangeSpec := { name := "cellPlays", fn := fun _ => fun
  | [d1, d2] => { results := [.lit (.bool true)], args := [d1, d2] }
  | _ => none }
def cellPlaysRow : OpenClaim := { program := "ytaofkipamliijaadoor", sum := "913ba7e81c3818c728946e5c8c393c4919a03a625cd47db331af68c2a257f5f7", func := "spyglass/spyglasslaw08.CellPlays", spec := "cellPlays", named := ["spyglass/utf.stretches"], apart := false, laid := [("spyglass/utf.stretches", laid_spyglass_utf_stretches)] }
def CellPlaysSaid : Prop := cellPlaysRow.holds Tryd.pinned (OpenSpec.ofChange cellPlaysSpec)

/-- ITS FALSE NEIGHBOUR: 'it returns false'. Refute it at one input. -/
def cellPlaysWrong : ChangeSpec := { name := "cellPlays", fn := fun _ => fun
  | [d1, d2] => { results := [.lit (.bool false)], args := [d1, d2] }
  | _ => none }
def CellPlaysWrongFalsely : Prop := cellPlaysRow.holds Tryd.pinned (OpenSpec.ofChange cellPlaysWrong)

/-- 'spyglasslaw08.CellElse': WHATEVER THE INPUT: true; the input reads as it did. -/
def cellElseSpec : ChangeSpec := { name := "cellElse", fn := fun _ => fun
  | [d1, d2] => { results := [.lit (.bool true)], args := [d1, d2] }
  | _ => none }
def cellElseRow : OpenClaim := { program := "ytaofkipamliijaadoor", sum := "913ba7e81c3818c728946e5c8c393c4919a03a625cd47db331af68c2a257f5f7", func := "spyglass/spyglasslaw08.CellElse", spec := "cellElse", named := ["spyglass/utf.stretches"], apart := false, laid := [("spyglass/utf.stretches", laid_spyglass_utf_stretches)] }
def CellElseSaid : Prop := cellElseRow.holds Tryd.pinned (OpenSpec.ofChange cellElseSpec)

/-- ITS FALSE NEIGHBOUR: 'it returns false'. Refute it at one input. -/
def cellElseWrong : ChangeSpec := { name := "cellElse", fn := fun _ => fun
  | [d1, d2] => { results := [.lit (.bool false)], args := [d1, d2] }
  | _ => none }
def CellElseWrongFalsely : Prop := cellElseRow.holds Tryd.pinned (OpenSpec.ofChange cellElseWrong)

/-- 'spyglasslaw08.CellShifts': WHATEVER THE INPUT: true; the input reads as it did. -/
def cellShiftsSpec : ChangeSpec := { name := "cellShifts", fn := fun _ => fun
  | [d1, d2, d3, d4] => { results := [.lit (.bool true)], args := [d1, d2, d3, d4] }
  | _ => none }
def cellShiftsRow : OpenClaim := { program := "ytaofkipamliijaadoor", sum := "913ba7e81c3818c728946e5c8c393c4919a03a625cd47db331af68c2a257f5f7", func := "spyglass/spyglasslaw08.CellShifts", spec := "cellShifts", unfollowed := true, recurses := true, named := ["spyglass/utf.stretches"], apart := false, laid := [("spyglass/utf.stretches", laid_spyglass_utf_stretches)] }
def CellShiftsSaid : Prop := cellShiftsRow.holds Tryd.pinned (OpenSpec.ofChange cellShiftsSpec)

/-- ITS FALSE NEIGHBOUR: 'it returns false'. Refute it at one input. -/
def cellShiftsWrong : ChangeSpec := { name := "cellShifts", fn := fun _ => fun
  | [d1, d2, d3, d4] => { results := [.lit (.bool false)], args := [d1, d2, d3, d4] }
  | _ => none }
def CellShiftsWrongFalsely : Prop := cellShiftsRow.holds Tryd.pinned (OpenSpec.ofChange cellShiftsWrong)

/- THE SECOND FORM. 'bulk': how many values and letters a reading holds, each counted each time it is reached (what is shared counts as often as it is met; a slice's spare places count too). A statement '..UptoSaid' is the law's where the arguments, and the package variables that the reading takes, are together of bulk at most 1048576: NARROWER than '..Said'. Prove '..Said' where nothing that the law and all that it calls make is longer than what came in: it says more and counts as full. Else prove '..UptoSaid'. A law counts once. -/
mutual
def uptoBulk {H : Type} : DataW H → Nat
  | .lit (.string bytes) => bytes.length + 1
  | .lit _ => 1
  | .nil => 1
  | .ptr d => uptoBulk d + 1
  | .slice elems spare => uptoBulkAll elems + uptoBulkAll spare + 1
  | .agg parts => uptoBulkAll parts + 1
  | .iface _ d => uptoBulk d + 1
  | .map entries => uptoBulkEntries entries + 1
  | .held _ => 1
def uptoBulkAll {H : Type} : List (DataW H) → Nat
  | [] => 0
  | d :: r => uptoBulk d + uptoBulkAll r
def uptoBulkEntries {H : Type} : List (Lit × DataW H) → Nat
  | [] => 0
  | x :: r => uptoBulkEntry x + uptoBulkEntries r
def uptoBulkEntry {H : Type} : Lit × DataW H → Nat
  | (.string bytes, d) => bytes.length + uptoBulk d + 1
  | (_, d) => uptoBulk d + 1
 end
def uptoSmall : (H : Type) → List (DataW H) → Bool := fun _ ds => decide (uptoBulkAll ds ≤ 1048576)
def OpenSpec.upto (s : _root_.Go.ChangeSpec) : _root_.Go.OpenSpec := { _root_.Go.OpenSpec.ofChange s with cond := some uptoSmall }

/-- 'spyglasslaw08.CellMay', WHERE WHAT IT READS IS OF BULK AT MOST 1048576: true; the input reads as it did. -/
def cellMayUptoRow : OpenClaim := { program := "ytaofkipamliijaadoor", sum := "913ba7e81c3818c728946e5c8c393c4919a03a625cd47db331af68c2a257f5f7", func := "spyglass/spyglasslaw08.CellMay", spec := "cellMay", named := ["spyglass/utf.stretches"], apart := false, laid := [("spyglass/utf.stretches", laid_spyglass_utf_stretches)], narrowed := true }
def CellMayUptoSaid : Prop := cellMayUptoRow.holds Tryd.pinned (OpenSpec.upto cellMaySpec)

/-- 'spyglasslaw08.CellDoes', WHERE WHAT IT READS IS OF BULK AT MOST 1048576: true; the input reads as it did. -/
def cellDoesUptoRow : OpenClaim := { program := "ytaofkipamliijaadoor", sum := "913ba7e81c3818c728946e5c8c393c4919a03a625cd47db331af68c2a257f5f7", func := "spyglass/spyglasslaw08.CellDoes", spec := "cellDoes", named := ["spyglass/utf.stretches"], apart := false, laid := [("spyglass/utf.stretches", laid_spyglass_utf_stretches)], narrowed := true }
def CellDoesUptoSaid : Prop := cellDoesUptoRow.holds Tryd.pinned (OpenSpec.upto cellDoesSpec)

/-- 'spyglasslaw08.CellPlays', WHERE WHAT IT READS IS OF BULK AT MOST 1048576: true; the input reads as it did. -/
def cellPlaysUptoRow : OpenClaim := { program := "ytaofkipamliijaadoor", sum := "913ba7e81c3818c728946e5c8c393c4919a03a625cd47db331af68c2a257f5f7", func := "spyglass/spyglasslaw08.CellPlays", spec := "cellPlays", named := ["spyglass/utf.stretches"], apart := false, laid := [("spyglass/utf.stretches", laid_spyglass_utf_stretches)], narrowed := true }
def CellPlaysUptoSaid : Prop := cellPlaysUptoRow.holds Tryd.pinned (OpenSpec.upto cellPlaysSpec)

/-- 'spyglasslaw08.CellElse', WHERE WHAT IT READS IS OF BULK AT MOST 1048576: true; the input reads as it did. -/
def cellElseUptoRow : OpenClaim := { program := "ytaofkipamliijaadoor", sum := "913ba7e81c3818c728946e5c8c393c4919a03a625cd47db331af68c2a257f5f7", func := "spyglass/spyglasslaw08.CellElse", spec := "cellElse", named := ["spyglass/utf.stretches"], apart := false, laid := [("spyglass/utf.stretches", laid_spyglass_utf_stretches)], narrowed := true }
def CellElseUptoSaid : Prop := cellElseUptoRow.holds Tryd.pinned (OpenSpec.upto cellElseSpec)

/-- 'spyglasslaw08.CellShifts', WHERE WHAT IT READS IS OF BULK AT MOST 1048576: true; the input reads as it did. -/
def cellShiftsUptoRow : OpenClaim := { program := "ytaofkipamliijaadoor", sum := "913ba7e81c3818c728946e5c8c393c4919a03a625cd47db331af68c2a257f5f7", func := "spyglass/spyglasslaw08.CellShifts", spec := "cellShifts", unfollowed := true, recurses := true, named := ["spyglass/utf.stretches"], apart := false, laid := [("spyglass/utf.stretches", laid_spyglass_utf_stretches)], narrowed := true }
def CellShiftsUptoSaid : Prop := cellShiftsUptoRow.holds Tryd.pinned (OpenSpec.upto cellShiftsSpec)

end Rows
end Go.Proofs.YtaofkipamliijaaDoor
