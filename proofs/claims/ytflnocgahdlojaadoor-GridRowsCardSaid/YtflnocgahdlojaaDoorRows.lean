/-
  NARROWER THAN 'FOR EVERY INPUT', by the rows' own cells (each row's printed sentence says how): GridDoes: laid · GridNew: laid · GridPlays: laid · GridRows: laid · GridScrolls: laid · GridBack: laid.
  DERIVED. THE GIVEN ROWS OF THIS SEAT. 6 by the template 'for every input the law returns true; each argument reads behind the call as it read before'; 0 by the template 'total and deterministic' (their statements: YtflnocgahdlojaaDoorTotals.lean).
  GIVEN WITH THE SEED: the statements are not yours to turn. If you find one false, say at which input.
  Laid BY PROGRAM, IN A SANDBOX (cutbox-rows.mjs): the forced cells as the released guide's own fill.sh prints them over the translation 58ef83d8be9a06cb… (all of the seat's roots in one cut). By AI agents, Wed Nov 11 2026. No macro, syntax, notation, axiom, sorry.
-/
import Derived.Test.YtflnocgahdlojaaDoorChecked
import GoSem.Claim
import GoSem.ClaimJoined
import GoSem.ClaimMapViews
import Derived.JoinedTies
import Derived.KernelRfl
namespace Go.Proofs.YtflnocgahdlojaaDoor
/- THE CELL 'sum', in the pinned program and in every row, IS THE sha256 OF THE DUMP (.gsa) THAT YtflnocgahdlojaaDoorProg.lean LOADS. Nothing in Lean hashes anything: it is a label: what it is worth is what the hold of that sum in a sandbox is worth. -/
noncomputable def Tryd.pinned : Pinned := { name := "ytflnocgahdlojaadoor", sum := "58ef83d8be9a06cb98115d6433ea453ec6517222d469bfe2feef4bf593aa4a59", checked := Tryd.checked }
namespace Rows
def none {H : Type} : Left H := { results := [], args := [] }

/- WHAT THE LISTED PACKAGE-LEVEL VARIABLES READ AS WHEN THE CALL BEGINS. Each datum BY PROGRAM (the guide's laid-datum.mjs) off the statement by which the dump's own 'gosem.cut.vars' lays the variable. In a bare row this is a premise. The card (YtflnocgahdlojaaDoorCards.lean) ties it to the program's text. -/
def laid_spyglass_utf_stretches {H : Type} : DataW H := .agg [.agg [.lit (.int .i32 0), .lit (.int .i32 31), .lit (.int .i64 0)], .agg [.lit (.int .i32 127), .lit (.int .i32 159), .lit (.int .i64 0)], .agg [.lit (.int .i32 768), .lit (.int .i32 879), .lit (.int .i64 0)], .agg [.lit (.int .i32 8203), .lit (.int .i32 8207), .lit (.int .i64 0)], .agg [.lit (.int .i32 65024), .lit (.int .i32 65039), .lit (.int .i64 0)], .agg [.lit (.int .i32 4352), .lit (.int .i32 4447), .lit (.int .i64 2)], .agg [.lit (.int .i32 11904), .lit (.int .i32 12350), .lit (.int .i64 2)], .agg [.lit (.int .i32 12353), .lit (.int .i32 42191), .lit (.int .i64 2)], .agg [.lit (.int .i32 44032), .lit (.int .i32 55203), .lit (.int .i64 2)], .agg [.lit (.int .i32 63744), .lit (.int .i32 64255), .lit (.int .i64 2)], .agg [.lit (.int .i32 65072), .lit (.int .i32 65135), .lit (.int .i64 2)], .agg [.lit (.int .i32 65280), .lit (.int .i32 65376), .lit (.int .i64 2)], .agg [.lit (.int .i32 65504), .lit (.int .i32 65510), .lit (.int .i64 2)], .agg [.lit (.int .i32 127744), .lit (.int .i32 128591), .lit (.int .i64 2)], .agg [.lit (.int .i32 131072), .lit (.int .i32 262141), .lit (.int .i64 2)]]

/-- 'spyglasslaw09.GridDoes': WHATEVER THE INPUT: true; the input reads as it did. -/
def gridDoesSpec : ChangeSpec := { name := "gridDoes", fn := fun _ => fun
  | [d1, d2] => { results := [.lit (.bool true)], args := [d1, d2] }
  | _ => none }
def gridDoesRow : OpenClaim := { program := "ytflnocgahdlojaadoor", sum := "58ef83d8be9a06cb98115d6433ea453ec6517222d469bfe2feef4bf593aa4a59", func := "spyglass/spyglasslaw09.GridDoes", spec := "gridDoes", unfollowed := true, recurses := true, named := ["spyglass/utf.stretches"], apart := false, laid := [("spyglass/utf.stretches", laid_spyglass_utf_stretches)] }
def GridDoesSaid : Prop := gridDoesRow.holds Tryd.pinned (OpenSpec.ofChange gridDoesSpec)

/-- ITS FALSE NEIGHBOUR: 'it returns false'. Refute it at one input. -/
def gridDoesWrong : ChangeSpec := { name := "gridDoes", fn := fun _ => fun
  | [d1, d2] => { results := [.lit (.bool false)], args := [d1, d2] }
  | _ => none }
def GridDoesWrongFalsely : Prop := gridDoesRow.holds Tryd.pinned (OpenSpec.ofChange gridDoesWrong)

/-- 'spyglasslaw09.GridNew': WHATEVER THE INPUT: true; the input reads as it did. -/
def gridNewSpec : ChangeSpec := { name := "gridNew", fn := fun _ => fun
  | [d1, d2, d3] => { results := [.lit (.bool true)], args := [d1, d2, d3] }
  | _ => none }
def gridNewRow : OpenClaim := { program := "ytflnocgahdlojaadoor", sum := "58ef83d8be9a06cb98115d6433ea453ec6517222d469bfe2feef4bf593aa4a59", func := "spyglass/spyglasslaw09.GridNew", spec := "gridNew", unfollowed := true, recurses := true, named := ["spyglass/utf.stretches"], apart := false, laid := [("spyglass/utf.stretches", laid_spyglass_utf_stretches)] }
def GridNewSaid : Prop := gridNewRow.holds Tryd.pinned (OpenSpec.ofChange gridNewSpec)

/-- ITS FALSE NEIGHBOUR: 'it returns false'. Refute it at one input. -/
def gridNewWrong : ChangeSpec := { name := "gridNew", fn := fun _ => fun
  | [d1, d2, d3] => { results := [.lit (.bool false)], args := [d1, d2, d3] }
  | _ => none }
def GridNewWrongFalsely : Prop := gridNewRow.holds Tryd.pinned (OpenSpec.ofChange gridNewWrong)

/-- 'spyglasslaw09.GridPlays': WHATEVER THE INPUT: true; the input reads as it did. -/
def gridPlaysSpec : ChangeSpec := { name := "gridPlays", fn := fun _ => fun
  | [d1, d2, d3] => { results := [.lit (.bool true)], args := [d1, d2, d3] }
  | _ => none }
def gridPlaysRow : OpenClaim := { program := "ytflnocgahdlojaadoor", sum := "58ef83d8be9a06cb98115d6433ea453ec6517222d469bfe2feef4bf593aa4a59", func := "spyglass/spyglasslaw09.GridPlays", spec := "gridPlays", unfollowed := true, recurses := true, named := ["spyglass/utf.stretches"], apart := false, laid := [("spyglass/utf.stretches", laid_spyglass_utf_stretches)] }
def GridPlaysSaid : Prop := gridPlaysRow.holds Tryd.pinned (OpenSpec.ofChange gridPlaysSpec)

/-- ITS FALSE NEIGHBOUR: 'it returns false'. Refute it at one input. -/
def gridPlaysWrong : ChangeSpec := { name := "gridPlays", fn := fun _ => fun
  | [d1, d2, d3] => { results := [.lit (.bool false)], args := [d1, d2, d3] }
  | _ => none }
def GridPlaysWrongFalsely : Prop := gridPlaysRow.holds Tryd.pinned (OpenSpec.ofChange gridPlaysWrong)

/-- 'spyglasslaw09.GridRows': WHATEVER THE INPUT: true; the input reads as it did. -/
def gridRowsSpec : ChangeSpec := { name := "gridRows", fn := fun _ => fun
  | [d1, d2, d3] => { results := [.lit (.bool true)], args := [d1, d2, d3] }
  | _ => none }
def gridRowsRow : OpenClaim := { program := "ytflnocgahdlojaadoor", sum := "58ef83d8be9a06cb98115d6433ea453ec6517222d469bfe2feef4bf593aa4a59", func := "spyglass/spyglasslaw09.GridRows", spec := "gridRows", unfollowed := true, recurses := true, named := ["spyglass/utf.stretches"], apart := false, laid := [("spyglass/utf.stretches", laid_spyglass_utf_stretches)] }
def GridRowsSaid : Prop := gridRowsRow.holds Tryd.pinned (OpenSpec.ofChange gridRowsSpec)

/-- ITS FALSE NEIGHBOUR: 'it returns false'. Refute it at one input. -/
def gridRowsWrong : ChangeSpec := { name := "gridRows", fn := fun _ => fun
  | [d1, d2, d3] => { results := [.lit (.bool false)], args := [d1, d2, d3] }
  | _ => none }
def GridRowsWrongFalsely : Prop := gridRowsRow.holds Tryd.pinned (OpenSpec.ofChange gridRowsWrong)

/-- 'spyglasslaw09.GridScrolls': WHATEVER THE INPUT: true; the input reads as it did. -/
def gridScrollsSpec : ChangeSpec := { name := "gridScrolls", fn := fun _ => fun
  | [d1, d2, d3, d4, d5] => { results := [.lit (.bool true)], args := [d1, d2, d3, d4, d5] }
  | _ => none }
def gridScrollsRow : OpenClaim := { program := "ytflnocgahdlojaadoor", sum := "58ef83d8be9a06cb98115d6433ea453ec6517222d469bfe2feef4bf593aa4a59", func := "spyglass/spyglasslaw09.GridScrolls", spec := "gridScrolls", unfollowed := true, recurses := true, named := ["spyglass/utf.stretches"], apart := false, laid := [("spyglass/utf.stretches", laid_spyglass_utf_stretches)] }
def GridScrollsSaid : Prop := gridScrollsRow.holds Tryd.pinned (OpenSpec.ofChange gridScrollsSpec)

/-- ITS FALSE NEIGHBOUR: 'it returns false'. Refute it at one input. -/
def gridScrollsWrong : ChangeSpec := { name := "gridScrolls", fn := fun _ => fun
  | [d1, d2, d3, d4, d5] => { results := [.lit (.bool false)], args := [d1, d2, d3, d4, d5] }
  | _ => none }
def GridScrollsWrongFalsely : Prop := gridScrollsRow.holds Tryd.pinned (OpenSpec.ofChange gridScrollsWrong)

/-- 'spyglasslaw09.GridBack': WHATEVER THE INPUT: true; the input reads as it did. -/
def gridBackSpec : ChangeSpec := { name := "gridBack", fn := fun _ => fun
  | [d1, d2, d3] => { results := [.lit (.bool true)], args := [d1, d2, d3] }
  | _ => none }
def gridBackRow : OpenClaim := { program := "ytflnocgahdlojaadoor", sum := "58ef83d8be9a06cb98115d6433ea453ec6517222d469bfe2feef4bf593aa4a59", func := "spyglass/spyglasslaw09.GridBack", spec := "gridBack", unfollowed := true, recurses := true, named := ["spyglass/utf.stretches"], apart := false, laid := [("spyglass/utf.stretches", laid_spyglass_utf_stretches)] }
def GridBackSaid : Prop := gridBackRow.holds Tryd.pinned (OpenSpec.ofChange gridBackSpec)

/-- ITS FALSE NEIGHBOUR: 'it returns false'. Refute it at one input. -/
def gridBackWrong : ChangeSpec := { name := "gridBack", fn := fun _ => fun
  | [d1, d2, d3] => { results := [.lit (.bool false)], args := [d1, d2, d3] }
  | _ => none }
def GridBackWrongFalsely : Prop := gridBackRow.holds Tryd.pinned (OpenSpec.ofChange gridBackWrong)

/- THE SECOND FORM. 'bulk': how many values and letters a reading holds, each counted each time it is reached (what is shared counts as often as it is met; a slice's spare places count too). A statement '..UptoSaid' is the law's where the arguments, and the package variables that the reading takes, are together of bulk at most 1048576: NARROWER than '..Said'. Prove '..Said' where nothing that the law and all that it calls make is longer than what came in: it says more and counts as full. Else prove '..UptoSaid'. A law counts once. -/
mutual
def uptoBulk {H : Type} : DataW H → Nat
  | .lit (.string bytes) => bytes.length + 1
  | .lit _ => 1
  | .nil => 1
  | .ptr d => uptoBulk d + 1
  | .slice elems spare => uptoBulkAll elems + uptoBulkAll spare + 1
  | .agg parts => uptoBulkAll parts + 1
  | .iface _ d => uptoBulk d + 1
  | .map entries => uptoBulkEntries entries + 1
  | .held _ => 1
def uptoBulkAll {H : Type} : List (DataW H) → Nat
  | [] => 0
  | d :: r => uptoBulk d + uptoBulkAll r
def uptoBulkEntries {H : Type} : List (Lit × DataW H) → Nat
  | [] => 0
  | x :: r => uptoBulkEntry x + uptoBulkEntries r
def uptoBulkEntry {H : Type} : Lit × DataW H → Nat
  | (.string bytes, d) => bytes.length + uptoBulk d + 1
  | (_, d) => uptoBulk d + 1
 end
def uptoSmall : (H : Type) → List (DataW H) → Bool := fun _ ds => decide (uptoBulkAll ds ≤ 1048576)
def OpenSpec.upto (s : _root_.Go.ChangeSpec) : _root_.Go.OpenSpec := { _root_.Go.OpenSpec.ofChange s with cond := some uptoSmall }

/-- 'spyglasslaw09.GridDoes', WHERE WHAT IT READS IS OF BULK AT MOST 1048576: true; the input reads as it did. -/
def gridDoesUptoRow : OpenClaim := { program := "ytflnocgahdlojaadoor", sum := "58ef83d8be9a06cb98115d6433ea453ec6517222d469bfe2feef4bf593aa4a59", func := "spyglass/spyglasslaw09.GridDoes", spec := "gridDoes", unfollowed := true, recurses := true, named := ["spyglass/utf.stretches"], apart := false, laid := [("spyglass/utf.stretches", laid_spyglass_utf_stretches)], narrowed := true }
def GridDoesUptoSaid : Prop := gridDoesUptoRow.holds Tryd.pinned (OpenSpec.upto gridDoesSpec)

/-- 'spyglasslaw09.GridNew', WHERE WHAT IT READS IS OF BULK AT MOST 1048576: true; the input reads as it did. -/
def gridNewUptoRow : OpenClaim := { program := "ytflnocgahdlojaadoor", sum := "58ef83d8be9a06cb98115d6433ea453ec6517222d469bfe2feef4bf593aa4a59", func := "spyglass/spyglasslaw09.GridNew", spec := "gridNew", unfollowed := true, recurses := true, named := ["spyglass/utf.stretches"], apart := false, laid := [("spyglass/utf.stretches", laid_spyglass_utf_stretches)], narrowed := true }
def GridNewUptoSaid : Prop := gridNewUptoRow.holds Tryd.pinned (OpenSpec.upto gridNewSpec)

/-- 'spyglasslaw09.GridPlays', WHERE WHAT IT READS IS OF BULK AT MOST 1048576: true; the input reads as it did. -/
def gridPlaysUptoRow : OpenClaim := { program := "ytflnocgahdlojaadoor", sum := "58ef83d8be9a06cb98115d6433ea453ec6517222d469bfe2feef4bf593aa4a59", func := "spyglass/spyglasslaw09.GridPlays", spec := "gridPlays", unfollowed := true, recurses := true, named := ["spyglass/utf.stretches"], apart := false, laid := [("spyglass/utf.stretches", laid_spyglass_utf_stretches)], narrowed := true }
def GridPlaysUptoSaid : Prop := gridPlaysUptoRow.holds Tryd.pinned (OpenSpec.upto gridPlaysSpec)

/-- 'spyglasslaw09.GridRows', WHERE WHAT IT READS IS OF BULK AT MOST 1048576: true; the input reads as it did. -/
def gridRowsUptoRow : OpenClaim := { program := "ytflnocgahdlojaadoor", sum := "58ef83d8be9a06cb98115d6433ea453ec6517222d469bfe2feef4bf593aa4a59", func := "spyglass/spyglasslaw09.GridRows", spec := "gridRows", unfollowed := true, recurses := true, named := ["spyglass/utf.stretches"], apart := false, laid := [("spyglass/utf.stretches", laid_spyglass_utf_stretches)], narrowed := true }
def GridRowsUptoSaid : Prop := gridRowsUptoRow.holds Tryd.pinned (OpenSpec.upto gridRowsSpec)

/-- 'spyglasslaw09.GridScrolls', WHERE WHAT IT READS IS OF BULK AT MOST 1048576: true; the input reads as it did. -/
def gridScrollsUptoRow : OpenClaim := { program := "ytflnocgahdlojaadoor", sum := "58ef83d8be9a06cb98115d6433ea453ec6517222d469bfe2feef4bf593aa4a59", func := "spyglass/spyglasslaw09.GridScrolls", spec := "gridScrolls", unfollowed := true, recurses := true, named := ["spyglass/utf.stretches"], apart := false, laid := [("spyglass/utf.stretches", laid_spyglass_utf_stretches)], narrowed := true }
def GridScrollsUptoSaid : Prop := gridScrollsUptoRow.holds Tryd.pinned (OpenSpec.upto gridScrollsSpec)

/-- 'spyglasslaw09.GridBack', WHERE WHAT IT READS IS OF BULK AT MOST 1048576: true; the input reads as it did. -/
def gridBackUptoRow : OpenClaim := { program := "ytflnocgahdlojaadoor", sum := "58ef83d8be9a06cb98115d6433ea453ec6517222d469bfe2feef4bf593aa4a59", func := "spyglass/spyglasslaw09.GridBack", spec := "gridBack", unfollowed := true, recurses := true, named := ["spyglass/utf.stretches"], apart := false, laid := [("spyglass/utf.stretches", laid_spyglass_utf_stretches)], narrowed := true }
def GridBackUptoSaid : Prop := gridBackUptoRow.holds Tryd.pinned (OpenSpec.upto gridBackSpec)

end Rows
end Go.Proofs.YtflnocgahdlojaaDoor
