/-
  NARROWER THAN 'FOR EVERY INPUT', by the rows' own cells (each row's printed sentence says how): ProjectShows: laid · ProjectRight: laid · ProjectTwice: laid · ProjectPlain: laid · ProjectBlank: laid.
  DERIVED. THE GIVEN ROWS OF THIS SEAT. 5 by the template 'for every input the law returns true; each argument reads behind the call as it read before'; 0 by the template 'total and deterministic' (their statements: YtojchkhnalnncaaDoorTotals.lean).
  GIVEN WITH THE SEED: the statements are not yours to turn. If you find one false, say at which input.
  Laid BY PROGRAM, IN A SANDBOX (cutbox-rows.mjs): the forced cells as the released guide's own fill.sh prints them over the translation c829f0fa38e2d8aa… (all of the seat's roots in one cut). By AI agents, Wed Nov 11 2026. No macro, syntax, notation, axiom, sorry.
-/
import Derived.Test.YtojchkhnalnncaaDoorChecked
import GoSem.PinnedTables
import GoSem.Claim
import GoSem.ClaimJoined
import GoSem.ClaimMapViews
import Derived.JoinedTies
import Derived.KernelRfl
namespace Go.Proofs.YtojchkhnalnncaaDoor
/- THE CELL 'sum', in the pinned program and in every row, IS THE sha256 OF THE DUMP (.gsa) THAT YtojchkhnalnncaaDoorProg.lean LOADS. Nothing in Lean hashes anything: it is a label: what it is worth is what the hold of that sum in a sandbox is worth. -/
noncomputable def Tryd.pinned : Pinned := { name := "ytojchkhnalnncaadoor", sum := "c829f0fa38e2d8aa7181f8a02b7518c8ec1acac94c957fb8a5a9b010aa221177", checked := Tryd.checked }
namespace Rows
def none {H : Type} : Left H := { results := [], args := [] }

/- WHAT THE LISTED PACKAGE-LEVEL VARIABLES READ AS WHEN THE CALL BEGINS. Each datum BY PROGRAM (the guide's laid-datum.mjs) off the statement by which the dump's own 'gosem.cut.vars' lays the variable. In a bare row this is a premise. The card (YtojchkhnalnncaaDoorCards.lean) ties it to the program's text. -/
def laid_unicode_utf8_acceptRanges {H : Type} : DataW H := .agg [.agg [.lit (.int .u8 128), .lit (.int .u8 191)], .agg [.lit (.int .u8 160), .lit (.int .u8 191)], .agg [.lit (.int .u8 128), .lit (.int .u8 159)], .agg [.lit (.int .u8 144), .lit (.int .u8 191)], .agg [.lit (.int .u8 128), .lit (.int .u8 143)], .agg [.lit (.int .u8 0), .lit (.int .u8 0)], .agg [.lit (.int .u8 0), .lit (.int .u8 0)], .agg [.lit (.int .u8 0), .lit (.int .u8 0)], .agg [.lit (.int .u8 0), .lit (.int .u8 0)], .agg [.lit (.int .u8 0), .lit (.int .u8 0)], .agg [.lit (.int .u8 0), .lit (.int .u8 0)], .agg [.lit (.int .u8 0), .lit (.int .u8 0)], .agg [.lit (.int .u8 0), .lit (.int .u8 0)], .agg [.lit (.int .u8 0), .lit (.int .u8 0)], .agg [.lit (.int .u8 0), .lit (.int .u8 0)], .agg [.lit (.int .u8 0), .lit (.int .u8 0)]]
def laid_spyglass_utf_stretches {H : Type} : DataW H := .agg [.agg [.lit (.int .i32 0), .lit (.int .i32 31), .lit (.int .i64 0)], .agg [.lit (.int .i32 127), .lit (.int .i32 159), .lit (.int .i64 0)], .agg [.lit (.int .i32 768), .lit (.int .i32 879), .lit (.int .i64 0)], .agg [.lit (.int .i32 8203), .lit (.int .i32 8207), .lit (.int .i64 0)], .agg [.lit (.int .i32 65024), .lit (.int .i32 65039), .lit (.int .i64 0)], .agg [.lit (.int .i32 4352), .lit (.int .i32 4447), .lit (.int .i64 2)], .agg [.lit (.int .i32 11904), .lit (.int .i32 12350), .lit (.int .i64 2)], .agg [.lit (.int .i32 12353), .lit (.int .i32 42191), .lit (.int .i64 2)], .agg [.lit (.int .i32 44032), .lit (.int .i32 55203), .lit (.int .i64 2)], .agg [.lit (.int .i32 63744), .lit (.int .i32 64255), .lit (.int .i64 2)], .agg [.lit (.int .i32 65072), .lit (.int .i32 65135), .lit (.int .i64 2)], .agg [.lit (.int .i32 65280), .lit (.int .i32 65376), .lit (.int .i64 2)], .agg [.lit (.int .i32 65504), .lit (.int .i32 65510), .lit (.int .i64 2)], .agg [.lit (.int .i32 127744), .lit (.int .i32 128591), .lit (.int .i64 2)], .agg [.lit (.int .i32 131072), .lit (.int .i32 262141), .lit (.int .i64 2)]]
def laid_spyglass_color_sixteen {H : Type} : DataW H := .agg [.agg [.lit (.int .i64 0), .lit (.int .i64 0), .lit (.int .i64 0)], .agg [.lit (.int .i64 205), .lit (.int .i64 0), .lit (.int .i64 0)], .agg [.lit (.int .i64 0), .lit (.int .i64 205), .lit (.int .i64 0)], .agg [.lit (.int .i64 205), .lit (.int .i64 205), .lit (.int .i64 0)], .agg [.lit (.int .i64 0), .lit (.int .i64 0), .lit (.int .i64 238)], .agg [.lit (.int .i64 205), .lit (.int .i64 0), .lit (.int .i64 205)], .agg [.lit (.int .i64 0), .lit (.int .i64 205), .lit (.int .i64 205)], .agg [.lit (.int .i64 229), .lit (.int .i64 229), .lit (.int .i64 229)], .agg [.lit (.int .i64 127), .lit (.int .i64 127), .lit (.int .i64 127)], .agg [.lit (.int .i64 255), .lit (.int .i64 0), .lit (.int .i64 0)], .agg [.lit (.int .i64 0), .lit (.int .i64 255), .lit (.int .i64 0)], .agg [.lit (.int .i64 255), .lit (.int .i64 255), .lit (.int .i64 0)], .agg [.lit (.int .i64 92), .lit (.int .i64 92), .lit (.int .i64 255)], .agg [.lit (.int .i64 255), .lit (.int .i64 0), .lit (.int .i64 255)], .agg [.lit (.int .i64 0), .lit (.int .i64 255), .lit (.int .i64 255)], .agg [.lit (.int .i64 255), .lit (.int .i64 255), .lit (.int .i64 255)]]
def laid_spyglass_color_levels {H : Type} : DataW H := .agg [.lit (.int .i64 0), .lit (.int .i64 95), .lit (.int .i64 135), .lit (.int .i64 175), .lit (.int .i64 215), .lit (.int .i64 255)]
/-- One of Go's own tables, pinned by name: the form's constant. -/
def laid_unicode_utf8_first : DataW Unit := Go.Pinned.utf8First

/-- 'spyglasslaw15.ProjectShows': WHATEVER THE INPUT: true; the input reads as it did. -/
def projectShowsSpec : ChangeSpec := { name := "projectShows", fn := fun _ => fun
  | [d1, d2] => { results := [.lit (.bool true)], args := [d1, d2] }
  | _ => none }
def projectShowsRow : OpenClaim := { program := "ytojchkhnalnncaadoor", sum := "c829f0fa38e2d8aa7181f8a02b7518c8ec1acac94c957fb8a5a9b010aa221177", func := "spyglass/spyglasslaw15.ProjectShows", spec := "projectShows", unfollowed := true, recurses := true, named := ["spyglass/utf.stretches", "unicode/utf8.first", "unicode/utf8.acceptRanges", "spyglass/color.sixteen", "spyglass/color.levels"], apart := false, laid := [("unicode/utf8.acceptRanges", laid_unicode_utf8_acceptRanges), ("spyglass/utf.stretches", laid_spyglass_utf_stretches), ("spyglass/color.sixteen", laid_spyglass_color_sixteen), ("spyglass/color.levels", laid_spyglass_color_levels), ("unicode/utf8.first", laid_unicode_utf8_first)] }
def ProjectShowsSaid : Prop := projectShowsRow.holds Tryd.pinned (OpenSpec.ofChange projectShowsSpec)

/-- ITS FALSE NEIGHBOUR: 'it returns false'. Refute it at one input. -/
def projectShowsWrong : ChangeSpec := { name := "projectShows", fn := fun _ => fun
  | [d1, d2] => { results := [.lit (.bool false)], args := [d1, d2] }
  | _ => none }
def ProjectShowsWrongFalsely : Prop := projectShowsRow.holds Tryd.pinned (OpenSpec.ofChange projectShowsWrong)

/-- 'spyglasslaw15.ProjectRight': WHATEVER THE INPUT: true; the input reads as it did. -/
def projectRightSpec : ChangeSpec := { name := "projectRight", fn := fun _ => fun
  | [d1, d2] => { results := [.lit (.bool true)], args := [d1, d2] }
  | _ => none }
def projectRightRow : OpenClaim := { program := "ytojchkhnalnncaadoor", sum := "c829f0fa38e2d8aa7181f8a02b7518c8ec1acac94c957fb8a5a9b010aa221177", func := "spyglass/spyglasslaw15.ProjectRight", spec := "projectRight", unfollowed := true, recurses := true, named := ["spyglass/utf.stretches", "unicode/utf8.first", "unicode/utf8.acceptRanges", "spyglass/color.sixteen", "spyglass/color.levels"], apart := false, laid := [("unicode/utf8.acceptRanges", laid_unicode_utf8_acceptRanges), ("spyglass/utf.stretches", laid_spyglass_utf_stretches), ("spyglass/color.sixteen", laid_spyglass_color_sixteen), ("spyglass/color.levels", laid_spyglass_color_levels), ("unicode/utf8.first", laid_unicode_utf8_first)] }
def ProjectRightSaid : Prop := projectRightRow.holds Tryd.pinned (OpenSpec.ofChange projectRightSpec)

/-- ITS FALSE NEIGHBOUR: 'it returns false'. Refute it at one input. -/
def projectRightWrong : ChangeSpec := { name := "projectRight", fn := fun _ => fun
  | [d1, d2] => { results := [.lit (.bool false)], args := [d1, d2] }
  | _ => none }
def ProjectRightWrongFalsely : Prop := projectRightRow.holds Tryd.pinned (OpenSpec.ofChange projectRightWrong)

/-- 'spyglasslaw15.ProjectTwice': WHATEVER THE INPUT: true; the input reads as it did. -/
def projectTwiceSpec : ChangeSpec := { name := "projectTwice", fn := fun _ => fun
  | [d1, d2, d3] => { results := [.lit (.bool true)], args := [d1, d2, d3] }
  | _ => none }
def projectTwiceRow : OpenClaim := { program := "ytojchkhnalnncaadoor", sum := "c829f0fa38e2d8aa7181f8a02b7518c8ec1acac94c957fb8a5a9b010aa221177", func := "spyglass/spyglasslaw15.ProjectTwice", spec := "projectTwice", unfollowed := true, recurses := true, named := ["spyglass/utf.stretches", "unicode/utf8.first", "unicode/utf8.acceptRanges", "spyglass/color.sixteen", "spyglass/color.levels"], apart := false, laid := [("unicode/utf8.acceptRanges", laid_unicode_utf8_acceptRanges), ("spyglass/utf.stretches", laid_spyglass_utf_stretches), ("spyglass/color.sixteen", laid_spyglass_color_sixteen), ("spyglass/color.levels", laid_spyglass_color_levels), ("unicode/utf8.first", laid_unicode_utf8_first)] }
def ProjectTwiceSaid : Prop := projectTwiceRow.holds Tryd.pinned (OpenSpec.ofChange projectTwiceSpec)

/-- ITS FALSE NEIGHBOUR: 'it returns false'. Refute it at one input. -/
def projectTwiceWrong : ChangeSpec := { name := "projectTwice", fn := fun _ => fun
  | [d1, d2, d3] => { results := [.lit (.bool false)], args := [d1, d2, d3] }
  | _ => none }
def ProjectTwiceWrongFalsely : Prop := projectTwiceRow.holds Tryd.pinned (OpenSpec.ofChange projectTwiceWrong)

/-- 'spyglasslaw15.ProjectPlain': WHATEVER THE INPUT: true; the input reads as it did. -/
def projectPlainSpec : ChangeSpec := { name := "projectPlain", fn := fun _ => fun
  | [d1, d2] => { results := [.lit (.bool true)], args := [d1, d2] }
  | _ => none }
def projectPlainRow : OpenClaim := { program := "ytojchkhnalnncaadoor", sum := "c829f0fa38e2d8aa7181f8a02b7518c8ec1acac94c957fb8a5a9b010aa221177", func := "spyglass/spyglasslaw15.ProjectPlain", spec := "projectPlain", unfollowed := true, recurses := true, named := ["spyglass/utf.stretches", "unicode/utf8.first", "unicode/utf8.acceptRanges", "spyglass/color.sixteen", "spyglass/color.levels"], apart := false, laid := [("unicode/utf8.acceptRanges", laid_unicode_utf8_acceptRanges), ("spyglass/utf.stretches", laid_spyglass_utf_stretches), ("spyglass/color.sixteen", laid_spyglass_color_sixteen), ("spyglass/color.levels", laid_spyglass_color_levels), ("unicode/utf8.first", laid_unicode_utf8_first)] }
def ProjectPlainSaid : Prop := projectPlainRow.holds Tryd.pinned (OpenSpec.ofChange projectPlainSpec)

/-- ITS FALSE NEIGHBOUR: 'it returns false'. Refute it at one input. -/
def projectPlainWrong : ChangeSpec := { name := "projectPlain", fn := fun _ => fun
  | [d1, d2] => { results := [.lit (.bool false)], args := [d1, d2] }
  | _ => none }
def ProjectPlainWrongFalsely : Prop := projectPlainRow.holds Tryd.pinned (OpenSpec.ofChange projectPlainWrong)

/-- 'spyglasslaw15.ProjectBlank': WHATEVER THE INPUT: true; the input reads as it did. -/
def projectBlankSpec : ChangeSpec := { name := "projectBlank", fn := fun _ => fun
  | [d1, d2, d3] => { results := [.lit (.bool true)], args := [d1, d2, d3] }
  | _ => none }
def projectBlankRow : OpenClaim := { program := "ytojchkhnalnncaadoor", sum := "c829f0fa38e2d8aa7181f8a02b7518c8ec1acac94c957fb8a5a9b010aa221177", func := "spyglass/spyglasslaw15.ProjectBlank", spec := "projectBlank", unfollowed := true, recurses := true, named := ["spyglass/utf.stretches", "unicode/utf8.first", "unicode/utf8.acceptRanges", "spyglass/color.sixteen", "spyglass/color.levels"], apart := false, laid := [("unicode/utf8.acceptRanges", laid_unicode_utf8_acceptRanges), ("spyglass/utf.stretches", laid_spyglass_utf_stretches), ("spyglass/color.sixteen", laid_spyglass_color_sixteen), ("spyglass/color.levels", laid_spyglass_color_levels), ("unicode/utf8.first", laid_unicode_utf8_first)] }
def ProjectBlankSaid : Prop := projectBlankRow.holds Tryd.pinned (OpenSpec.ofChange projectBlankSpec)

/-- ITS FALSE NEIGHBOUR: 'it returns false'. Refute it at one input. -/
def projectBlankWrong : ChangeSpec := { name := "projectBlank", fn := fun _ => fun
  | [d1, d2, d3] => { results := [.lit (.bool false)], args := [d1, d2, d3] }
  | _ => none }
def ProjectBlankWrongFalsely : Prop := projectBlankRow.holds Tryd.pinned (OpenSpec.ofChange projectBlankWrong)

/- THE SECOND FORM. 'bulk': how many values and letters a reading holds, each counted each time it is reached (what is shared counts as often as it is met; a slice's spare places count too). A statement '..UptoSaid' is the law's where the arguments, and the package variables that the reading takes, are together of bulk at most 1048576: NARROWER than '..Said'. Prove '..Said' where nothing that the law and all that it calls make is longer than what came in: it says more and counts as full. Else prove '..UptoSaid'. A law counts once. -/
mutual
def uptoBulk {H : Type} : DataW H → Nat
  | .lit (.string bytes) => bytes.length + 1
  | .lit _ => 1
  | .nil => 1
  | .ptr d => uptoBulk d + 1
  | .slice elems spare => uptoBulkAll elems + uptoBulkAll spare + 1
  | .agg parts => uptoBulkAll parts + 1
  | .iface _ d => uptoBulk d + 1
  | .map entries => uptoBulkEntries entries + 1
  | .held _ => 1
def uptoBulkAll {H : Type} : List (DataW H) → Nat
  | [] => 0
  | d :: r => uptoBulk d + uptoBulkAll r
def uptoBulkEntries {H : Type} : List (Lit × DataW H) → Nat
  | [] => 0
  | x :: r => uptoBulkEntry x + uptoBulkEntries r
def uptoBulkEntry {H : Type} : Lit × DataW H → Nat
  | (.string bytes, d) => bytes.length + uptoBulk d + 1
  | (_, d) => uptoBulk d + 1
 end
def uptoSmall : (H : Type) → List (DataW H) → Bool := fun _ ds => decide (uptoBulkAll ds ≤ 1048576)
def OpenSpec.upto (s : _root_.Go.ChangeSpec) : _root_.Go.OpenSpec := { _root_.Go.OpenSpec.ofChange s with cond := some uptoSmall }

/-- 'spyglasslaw15.ProjectShows', WHERE WHAT IT READS IS OF BULK AT MOST 1048576: true; the input reads as it did. -/
def projectShowsUptoRow : OpenClaim := { program := "ytojchkhnalnncaadoor", sum := "c829f0fa38e2d8aa7181f8a02b7518c8ec1acac94c957fb8a5a9b010aa221177", func := "spyglass/spyglasslaw15.ProjectShows", spec := "projectShows", unfollowed := true, recurses := true, named := ["spyglass/utf.stretches", "unicode/utf8.first", "unicode/utf8.acceptRanges", "spyglass/color.sixteen", "spyglass/color.levels"], apart := false, laid := [("unicode/utf8.acceptRanges", laid_unicode_utf8_acceptRanges), ("spyglass/utf.stretches", laid_spyglass_utf_stretches), ("spyglass/color.sixteen", laid_spyglass_color_sixteen), ("spyglass/color.levels", laid_spyglass_color_levels), ("unicode/utf8.first", laid_unicode_utf8_first)], narrowed := true }
def ProjectShowsUptoSaid : Prop := projectShowsUptoRow.holds Tryd.pinned (OpenSpec.upto projectShowsSpec)

/-- 'spyglasslaw15.ProjectRight', WHERE WHAT IT READS IS OF BULK AT MOST 1048576: true; the input reads as it did. -/
def projectRightUptoRow : OpenClaim := { program := "ytojchkhnalnncaadoor", sum := "c829f0fa38e2d8aa7181f8a02b7518c8ec1acac94c957fb8a5a9b010aa221177", func := "spyglass/spyglasslaw15.ProjectRight", spec := "projectRight", unfollowed := true, recurses := true, named := ["spyglass/utf.stretches", "unicode/utf8.first", "unicode/utf8.acceptRanges", "spyglass/color.sixteen", "spyglass/color.levels"], apart := false, laid := [("unicode/utf8.acceptRanges", laid_unicode_utf8_acceptRanges), ("spyglass/utf.stretches", laid_spyglass_utf_stretches), ("spyglass/color.sixteen", laid_spyglass_color_sixteen), ("spyglass/color.levels", laid_spyglass_color_levels), ("unicode/utf8.first", laid_unicode_utf8_first)], narrowed := true }
def ProjectRightUptoSaid : Prop := projectRightUptoRow.holds Tryd.pinned (OpenSpec.upto projectRightSpec)

/-- 'spyglasslaw15.ProjectTwice', WHERE WHAT IT READS IS OF BULK AT MOST 1048576: true; the input reads as it did. -/
def projectTwiceUptoRow : OpenClaim := { program := "ytojchkhnalnncaadoor", sum := "c829f0fa38e2d8aa7181f8a02b7518c8ec1acac94c957fb8a5a9b010aa221177", func := "spyglass/spyglasslaw15.ProjectTwice", spec := "projectTwice", unfollowed := true, recurses := true, named := ["spyglass/utf.stretches", "unicode/utf8.first", "unicode/utf8.acceptRanges", "spyglass/color.sixteen", "spyglass/color.levels"], apart := false, laid := [("unicode/utf8.acceptRanges", laid_unicode_utf8_acceptRanges), ("spyglass/utf.stretches", laid_spyglass_utf_stretches), ("spyglass/color.sixteen", laid_spyglass_color_sixteen), ("spyglass/color.levels", laid_spyglass_color_levels), ("unicode/utf8.first", laid_unicode_utf8_first)], narrowed := true }
def ProjectTwiceUptoSaid : Prop := projectTwiceUptoRow.holds Tryd.pinned (OpenSpec.upto projectTwiceSpec)

/-- 'spyglasslaw15.ProjectPlain', WHERE WHAT IT READS IS OF BULK AT MOST 1048576: true; the input reads as it did. -/
def projectPlainUptoRow : OpenClaim := { program := "ytojchkhnalnncaadoor", sum := "c829f0fa38e2d8aa7181f8a02b7518c8ec1acac94c957fb8a5a9b010aa221177", func := "spyglass/spyglasslaw15.ProjectPlain", spec := "projectPlain", unfollowed := true, recurses := true, named := ["spyglass/utf.stretches", "unicode/utf8.first", "unicode/utf8.acceptRanges", "spyglass/color.sixteen", "spyglass/color.levels"], apart := false, laid := [("unicode/utf8.acceptRanges", laid_unicode_utf8_acceptRanges), ("spyglass/utf.stretches", laid_spyglass_utf_stretches), ("spyglass/color.sixteen", laid_spyglass_color_sixteen), ("spyglass/color.levels", laid_spyglass_color_levels), ("unicode/utf8.first", laid_unicode_utf8_first)], narrowed := true }
def ProjectPlainUptoSaid : Prop := projectPlainUptoRow.holds Tryd.pinned (OpenSpec.upto projectPlainSpec)

/-- 'spyglasslaw15.ProjectBlank', WHERE WHAT IT READS IS OF BULK AT MOST 1048576: true; the input reads as it did. -/
def projectBlankUptoRow : OpenClaim := { program := "ytojchkhnalnncaadoor", sum := "c829f0fa38e2d8aa7181f8a02b7518c8ec1acac94c957fb8a5a9b010aa221177", func := "spyglass/spyglasslaw15.ProjectBlank", spec := "projectBlank", unfollowed := true, recurses := true, named := ["spyglass/utf.stretches", "unicode/utf8.first", "unicode/utf8.acceptRanges", "spyglass/color.sixteen", "spyglass/color.levels"], apart := false, laid := [("unicode/utf8.acceptRanges", laid_unicode_utf8_acceptRanges), ("spyglass/utf.stretches", laid_spyglass_utf_stretches), ("spyglass/color.sixteen", laid_spyglass_color_sixteen), ("spyglass/color.levels", laid_spyglass_color_levels), ("unicode/utf8.first", laid_unicode_utf8_first)], narrowed := true }
def ProjectBlankUptoSaid : Prop := projectBlankUptoRow.holds Tryd.pinned (OpenSpec.upto projectBlankSpec)

end Rows
end Go.Proofs.YtojchkhnalnncaaDoor
