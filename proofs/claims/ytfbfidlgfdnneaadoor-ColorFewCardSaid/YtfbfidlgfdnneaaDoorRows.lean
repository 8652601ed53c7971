/-
  NARROWER THAN 'FOR EVERY INPUT', by the rows' own cells (each row's printed sentence says how): ColorParts: laid · ColorFits: laid · ColorNearest: laid · ColorTwice: laid · ColorFew: laid.
  DERIVED. THE GIVEN ROWS OF THIS SEAT. 5 by the template 'for every input the law returns true; each argument reads behind the call as it read before'; 0 by the template 'total and deterministic' (their statements: YtfbfidlgfdnneaaDoorTotals.lean).
  GIVEN WITH THE SEED: the statements are not yours to turn. If you find one false, say at which input.
  Laid BY PROGRAM, IN A SANDBOX (cutbox-rows.mjs): the forced cells as the released guide's own fill.sh prints them over the translation 0d91a74f283464e7… (all of the seat's roots in one cut). By AI agents, Wed Nov 11 2026. No macro, syntax, notation, axiom, sorry.
-/
import Derived.Test.YtfbfidlgfdnneaaDoorChecked
import GoSem.Claim
import GoSem.ClaimJoined
import GoSem.ClaimMapViews
import Derived.JoinedTies
import Derived.KernelRfl
namespace Go.Proofs.YtfbfidlgfdnneaaDoor
/- THE CELL 'sum', in the pinned program and in every row, IS THE sha256 OF THE DUMP (.gsa) THAT YtfbfidlgfdnneaaDoorProg.lean LOADS. Nothing in Lean hashes anything: it is a label: what it is worth is what the hold of that sum in a sandbox is worth. -/
noncomputable def Tryd.pinned : Pinned := { name := "ytfbfidlgfdnneaadoor", sum := "0d91a74f283464e7e8c56cff0ef05d4b3880513b995153a90e0ac1aef24d4092", checked := Tryd.checked }
namespace Rows
def none {H : Type} : Left H := { results := [], args := [] }

/- WHAT THE LISTED PACKAGE-LEVEL VARIABLES READ AS WHEN THE CALL BEGINS. Each datum BY PROGRAM (the guide's laid-datum.mjs) off the statement by which the dump's own 'gosem.cut.vars' lays the variable. In a bare row this is a premise. The card (YtfbfidlgfdnneaaDoorCards.lean) ties it to the program's text. -/
def laid_spyglass_color_sixteen {H : Type} : DataW H := .agg [.agg [.lit (.int .i64 0), .lit (.int .i64 0), .lit (.int .i64 0)], .agg [.lit (.int .i64 205), .lit (.int .i64 0), .lit (.int .i64 0)], .agg [.lit (.int .i64 0), .lit (.int .i64 205), .lit (.int .i64 0)], .agg [.lit (.int .i64 205), .lit (.int .i64 205), .lit (.int .i64 0)], .agg [.lit (.int .i64 0), .lit (.int .i64 0), .lit (.int .i64 238)], .agg [.lit (.int .i64 205), .lit (.int .i64 0), .lit (.int .i64 205)], .agg [.lit (.int .i64 0), .lit (.int .i64 205), .lit (.int .i64 205)], .agg [.lit (.int .i64 229), .lit (.int .i64 229), .lit (.int .i64 229)], .agg [.lit (.int .i64 127), .lit (.int .i64 127), .lit (.int .i64 127)], .agg [.lit (.int .i64 255), .lit (.int .i64 0), .lit (.int .i64 0)], .agg [.lit (.int .i64 0), .lit (.int .i64 255), .lit (.int .i64 0)], .agg [.lit (.int .i64 255), .lit (.int .i64 255), .lit (.int .i64 0)], .agg [.lit (.int .i64 92), .lit (.int .i64 92), .lit (.int .i64 255)], .agg [.lit (.int .i64 255), .lit (.int .i64 0), .lit (.int .i64 255)], .agg [.lit (.int .i64 0), .lit (.int .i64 255), .lit (.int .i64 255)], .agg [.lit (.int .i64 255), .lit (.int .i64 255), .lit (.int .i64 255)]]
def laid_spyglass_color_levels {H : Type} : DataW H := .agg [.lit (.int .i64 0), .lit (.int .i64 95), .lit (.int .i64 135), .lit (.int .i64 175), .lit (.int .i64 215), .lit (.int .i64 255)]

/-- 'spyglasslaw13.ColorParts': WHATEVER THE INPUT: true; the input reads as it did. -/
def colorPartsSpec : ChangeSpec := { name := "colorParts", fn := fun _ => fun
  | [d1, d2] => { results := [.lit (.bool true)], args := [d1, d2] }
  | _ => none }
def colorPartsRow : OpenClaim := { program := "ytfbfidlgfdnneaadoor", sum := "0d91a74f283464e7e8c56cff0ef05d4b3880513b995153a90e0ac1aef24d4092", func := "spyglass/spyglasslaw13.ColorParts", spec := "colorParts", unfollowed := true, recurses := true, named := ["spyglass/color.sixteen", "spyglass/color.levels"], apart := false, laid := [("spyglass/color.sixteen", laid_spyglass_color_sixteen), ("spyglass/color.levels", laid_spyglass_color_levels)] }
def ColorPartsSaid : Prop := colorPartsRow.holds Tryd.pinned (OpenSpec.ofChange colorPartsSpec)

/-- ITS FALSE NEIGHBOUR: 'it returns false'. Refute it at one input. -/
def colorPartsWrong : ChangeSpec := { name := "colorParts", fn := fun _ => fun
  | [d1, d2] => { results := [.lit (.bool false)], args := [d1, d2] }
  | _ => none }
def ColorPartsWrongFalsely : Prop := colorPartsRow.holds Tryd.pinned (OpenSpec.ofChange colorPartsWrong)

/-- 'spyglasslaw13.ColorFits': WHATEVER THE INPUT: true; the input reads as it did. -/
def colorFitsSpec : ChangeSpec := { name := "colorFits", fn := fun _ => fun
  | [d1, d2] => { results := [.lit (.bool true)], args := [d1, d2] }
  | _ => none }
def colorFitsRow : OpenClaim := { program := "ytfbfidlgfdnneaadoor", sum := "0d91a74f283464e7e8c56cff0ef05d4b3880513b995153a90e0ac1aef24d4092", func := "spyglass/spyglasslaw13.ColorFits", spec := "colorFits", unfollowed := true, recurses := true, named := ["spyglass/color.sixteen", "spyglass/color.levels"], apart := false, laid := [("spyglass/color.sixteen", laid_spyglass_color_sixteen), ("spyglass/color.levels", laid_spyglass_color_levels)] }
def ColorFitsSaid : Prop := colorFitsRow.holds Tryd.pinned (OpenSpec.ofChange colorFitsSpec)

/-- ITS FALSE NEIGHBOUR: 'it returns false'. Refute it at one input. -/
def colorFitsWrong : ChangeSpec := { name := "colorFits", fn := fun _ => fun
  | [d1, d2] => { results := [.lit (.bool false)], args := [d1, d2] }
  | _ => none }
def ColorFitsWrongFalsely : Prop := colorFitsRow.holds Tryd.pinned (OpenSpec.ofChange colorFitsWrong)

/-- 'spyglasslaw13.ColorNearest': WHATEVER THE INPUT: true; the input reads as it did. -/
def colorNearestSpec : ChangeSpec := { name := "colorNearest", fn := fun _ => fun
  | [d1, d2] => { results := [.lit (.bool true)], args := [d1, d2] }
  | _ => none }
def colorNearestRow : OpenClaim := { program := "ytfbfidlgfdnneaadoor", sum := "0d91a74f283464e7e8c56cff0ef05d4b3880513b995153a90e0ac1aef24d4092", func := "spyglass/spyglasslaw13.ColorNearest", spec := "colorNearest", unfollowed := true, recurses := true, named := ["spyglass/color.sixteen", "spyglass/color.levels"], apart := false, laid := [("spyglass/color.sixteen", laid_spyglass_color_sixteen), ("spyglass/color.levels", laid_spyglass_color_levels)] }
def ColorNearestSaid : Prop := colorNearestRow.holds Tryd.pinned (OpenSpec.ofChange colorNearestSpec)

/-- ITS FALSE NEIGHBOUR: 'it returns false'. Refute it at one input. -/
def colorNearestWrong : ChangeSpec := { name := "colorNearest", fn := fun _ => fun
  | [d1, d2] => { results := [.lit (.bool false)], args := [d1, d2] }
  | _ => none }
def ColorNearestWrongFalsely : Prop := colorNearestRow.holds Tryd.pinned (OpenSpec.ofChange colorNearestWrong)

/-- 'spyglasslaw13.ColorTwice': WHATEVER THE INPUT: true; the input reads as it did. -/
def colorTwiceSpec : ChangeSpec := { name := "colorTwice", fn := fun _ => fun
  | [d1, d2] => { results := [.lit (.bool true)], args := [d1, d2] }
  | _ => none }
def colorTwiceRow : OpenClaim := { program := "ytfbfidlgfdnneaadoor", sum := "0d91a74f283464e7e8c56cff0ef05d4b3880513b995153a90e0ac1aef24d4092", func := "spyglass/spyglasslaw13.ColorTwice", spec := "colorTwice", unfollowed := true, recurses := true, named := ["spyglass/color.sixteen", "spyglass/color.levels"], apart := false, laid := [("spyglass/color.sixteen", laid_spyglass_color_sixteen), ("spyglass/color.levels", laid_spyglass_color_levels)] }
def ColorTwiceSaid : Prop := colorTwiceRow.holds Tryd.pinned (OpenSpec.ofChange colorTwiceSpec)

/-- ITS FALSE NEIGHBOUR: 'it returns false'. Refute it at one input. -/
def colorTwiceWrong : ChangeSpec := { name := "colorTwice", fn := fun _ => fun
  | [d1, d2] => { results := [.lit (.bool false)], args := [d1, d2] }
  | _ => none }
def ColorTwiceWrongFalsely : Prop := colorTwiceRow.holds Tryd.pinned (OpenSpec.ofChange colorTwiceWrong)

/-- 'spyglasslaw13.ColorFew': WHATEVER THE INPUT: true; the input reads as it did. -/
def colorFewSpec : ChangeSpec := { name := "colorFew", fn := fun _ => fun
  | [d1, d2, d3] => { results := [.lit (.bool true)], args := [d1, d2, d3] }
  | _ => none }
def colorFewRow : OpenClaim := { program := "ytfbfidlgfdnneaadoor", sum := "0d91a74f283464e7e8c56cff0ef05d4b3880513b995153a90e0ac1aef24d4092", func := "spyglass/spyglasslaw13.ColorFew", spec := "colorFew", unfollowed := true, recurses := true, named := ["spyglass/color.sixteen", "spyglass/color.levels"], apart := false, laid := [("spyglass/color.sixteen", laid_spyglass_color_sixteen), ("spyglass/color.levels", laid_spyglass_color_levels)] }
def ColorFewSaid : Prop := colorFewRow.holds Tryd.pinned (OpenSpec.ofChange colorFewSpec)

/-- ITS FALSE NEIGHBOUR: 'it returns false'. Refute it at one input. -/
def colorFewWrong : ChangeSpec := { name := "colorFew", fn := fun _ => fun
  | [d1, d2, d3] => { results := [.lit (.bool false)], args := [d1, d2, d3] }
  | _ => none }
def ColorFewWrongFalsely : Prop := colorFewRow.holds Tryd.pinned (OpenSpec.ofChange colorFewWrong)

/- THE SECOND FORM. 'bulk': how many values and letters a reading holds, each counted each time it is reached (what is shared counts as often as it is met; a slice's spare places count too). A statement '..UptoSaid' is the law's where the arguments, and the package variables that the reading takes, are together of bulk at most 1048576: NARROWER than '..Said'. Prove '..Said' where nothing that the law and all that it calls make is longer than what came in: it says more and counts as full. Else prove '..UptoSaid'. A law counts once. -/
mutual
def uptoBulk {H : Type} : DataW H → Nat
  | .lit (.string bytes) => bytes.length + 1
  | .lit _ => 1
  | .nil => 1
  | .ptr d => uptoBulk d + 1
  | .slice elems spare => uptoBulkAll elems + uptoBulkAll spare + 1
  | .agg parts => uptoBulkAll parts + 1
  | .iface _ d => uptoBulk d + 1
  | .map entries => uptoBulkEntries entries + 1
  | .held _ => 1
def uptoBulkAll {H : Type} : List (DataW H) → Nat
  | [] => 0
  | d :: r => uptoBulk d + uptoBulkAll r
def uptoBulkEntries {H : Type} : List (Lit × DataW H) → Nat
  | [] => 0
  | x :: r => uptoBulkEntry x + uptoBulkEntries r
def uptoBulkEntry {H : Type} : Lit × DataW H → Nat
  | (.string bytes, d) => bytes.length + uptoBulk d + 1
  | (_, d) => uptoBulk d + 1
 end
def uptoSmall : (H : Type) → List (DataW H) → Bool := fun _ ds => decide (uptoBulkAll ds ≤ 1048576)
def OpenSpec.upto (s : _root_.Go.ChangeSpec) : _root_.Go.OpenSpec := { _root_.Go.OpenSpec.ofChange s with cond := some uptoSmall }

/-- 'spyglasslaw13.ColorParts', WHERE WHAT IT READS IS OF BULK AT MOST 1048576: true; the input reads as it did. -/
def colorPartsUptoRow : OpenClaim := { program := "ytfbfidlgfdnneaadoor", sum := "0d91a74f283464e7e8c56cff0ef05d4b3880513b995153a90e0ac1aef24d4092", func := "spyglass/spyglasslaw13.ColorParts", spec := "colorParts", unfollowed := true, recurses := true, named := ["spyglass/color.sixteen", "spyglass/color.levels"], apart := false, laid := [("spyglass/color.sixteen", laid_spyglass_color_sixteen), ("spyglass/color.levels", laid_spyglass_color_levels)], narrowed := true }
def ColorPartsUptoSaid : Prop := colorPartsUptoRow.holds Tryd.pinned (OpenSpec.upto colorPartsSpec)

/-- 'spyglasslaw13.ColorFits', WHERE WHAT IT READS IS OF BULK AT MOST 1048576: true; the input reads as it did. -/
def colorFitsUptoRow : OpenClaim := { program := "ytfbfidlgfdnneaadoor", sum := "0d91a74f283464e7e8c56cff0ef05d4b3880513b995153a90e0ac1aef24d4092", func := "spyglass/spyglasslaw13.ColorFits", spec := "colorFits", unfollowed := true, recurses := true, named := ["spyglass/color.sixteen", "spyglass/color.levels"], apart := false, laid := [("spyglass/color.sixteen", laid_spyglass_color_sixteen), ("spyglass/color.levels", laid_spyglass_color_levels)], narrowed := true }
def ColorFitsUptoSaid : Prop := colorFitsUptoRow.holds Tryd.pinned (OpenSpec.upto colorFitsSpec)

/-- 'spyglasslaw13.ColorNearest', WHERE WHAT IT READS IS OF BULK AT MOST 1048576: true; the input reads as it did. -/
def colorNearestUptoRow : OpenClaim := { program := "ytfbfidlgfdnneaadoor", sum := "0d91a74f283464e7e8c56cff0ef05d4b3880513b995153a90e0ac1aef24d4092", func := "spyglass/spyglasslaw13.ColorNearest", spec := "colorNearest", unfollowed := true, recurses := true, named := ["spyglass/color.sixteen", "spyglass/color.levels"], apart := false, laid := [("spyglass/color.sixteen", laid_spyglass_color_sixteen), ("spyglass/color.levels", laid_spyglass_color_levels)], narrowed := true }
def ColorNearestUptoSaid : Prop := colorNearestUptoRow.holds Tryd.pinned (OpenSpec.upto colorNearestSpec)

/-- 'spyglasslaw13.ColorTwice', WHERE WHAT IT READS IS OF BULK AT MOST 1048576: true; the input reads as it did. -/
def colorTwiceUptoRow : OpenClaim := { program := "ytfbfidlgfdnneaadoor", sum := "0d91a74f283464e7e8c56cff0ef05d4b3880513b995153a90e0ac1aef24d4092", func := "spyglass/spyglasslaw13.ColorTwice", spec := "colorTwice", unfollowed := true, recurses := true, named := ["spyglass/color.sixteen", "spyglass/color.levels"], apart := false, laid := [("spyglass/color.sixteen", laid_spyglass_color_sixteen), ("spyglass/color.levels", laid_spyglass_color_levels)], narrowed := true }
def ColorTwiceUptoSaid : Prop := colorTwiceUptoRow.holds Tryd.pinned (OpenSpec.upto colorTwiceSpec)

/-- 'spyglasslaw13.ColorFew', WHERE WHAT IT READS IS OF BULK AT MOST 1048576: true; the input reads as it did. -/
def colorFewUptoRow : OpenClaim := { program := "ytfbfidlgfdnneaadoor", sum := "0d91a74f283464e7e8c56cff0ef05d4b3880513b995153a90e0ac1aef24d4092", func := "spyglass/spyglasslaw13.ColorFew", spec := "colorFew", unfollowed := true, recurses := true, named := ["spyglass/color.sixteen", "spyglass/color.levels"], apart := false, laid := [("spyglass/color.sixteen", laid_spyglass_color_sixteen), ("spyglass/color.levels", laid_spyglass_color_levels)], narrowed := true }
def ColorFewUptoSaid : Prop := colorFewUptoRow.holds Tryd.pinned (OpenSpec.upto colorFewSpec)

end Rows
end Go.Proofs.YtfbfidlgfdnneaaDoor
