/-
  NARROWER THAN 'FOR EVERY INPUT', by the rows' own cells (each row's printed sentence says how): TlvEncodes: loops · TlvBack: loops · TlvPicks: loops · TlvUnknown: loops.
  DERIVED. THE GIVEN ROWS OF THIS SEAT. 6 by the template 'for every input the law returns true; each argument reads behind the call as it read before'; 0 by the template 'total and deterministic' (their statements: YtchpobikbcelfaaTotals.lean).
  GIVEN WITH THE SEED: the statements are not yours to turn. If you find one false, say at which input.
  Laid BY PROGRAM, IN A SANDBOX (cutbox-rows.mjs): the forced cells as the released guide's own fill.sh prints them over the translation b0089b8776e029e5… (all of the seat's roots in one cut). By AI agents, Wed Nov 11 2026. No macro, syntax, notation, axiom, sorry.
-/
import Derived.Test.YtchpobikbcelfaaChecked
import GoSem.Claim
import GoSem.ClaimJoined
import GoSem.ClaimMapViews
import Derived.JoinedTies
import Derived.KernelRfl
namespace Go.Proofs.Ytchpobikbcelfaa
/- THE CELL 'sum', in the pinned program and in every row, IS THE sha256 OF THE DUMP (.gsa) THAT YtchpobikbcelfaaProg.lean LOADS. Nothing in Lean hashes anything: it is a label: what it is worth is what the hold of that sum in a sandbox is worth. -/
noncomputable def Try.pinned : Pinned := { name := "ytchpobikbcelfaa", sum := "b0089b8776e029e5c79d810f997010a73de568ba5d1d732997d4aa8e5a4697d0", checked := Try.checked }
namespace Rows
def none {H : Type} : Left H := { results := [], args := [] }

/-- 'spyglasslaw02.TlvEncodes': WHATEVER THE INPUT: true; the input reads as it did. -/
def tlvEncodesSpec : ChangeSpec := { name := "tlvEncodes", fn := fun _ => fun
  | [d] => { results := [.lit (.bool true)], args := [d] }
  | _ => none }
def tlvEncodesRow : OpenClaim := { program := "ytchpobikbcelfaa", sum := "b0089b8776e029e5c79d810f997010a73de568ba5d1d732997d4aa8e5a4697d0", func := "spyglass/spyglasslaw02.TlvEncodes", spec := "tlvEncodes", unfollowed := true, recurses := true, loops := true, apart := false }
def TlvEncodesSaid : Prop := tlvEncodesRow.holds Try.pinned (OpenSpec.ofChange tlvEncodesSpec)

/-- ITS FALSE NEIGHBOUR: 'it returns false'. Refute it at one input. -/
def tlvEncodesWrong : ChangeSpec := { name := "tlvEncodes", fn := fun _ => fun
  | [d] => { results := [.lit (.bool false)], args := [d] }
  | _ => none }
def TlvEncodesWrongFalsely : Prop := tlvEncodesRow.holds Try.pinned (OpenSpec.ofChange tlvEncodesWrong)

/-- 'spyglasslaw02.TlvDecodes': WHATEVER THE INPUT: true; the input reads as it did. -/
def tlvDecodesSpec : ChangeSpec := { name := "tlvDecodes", fn := fun _ => fun
  | [d] => { results := [.lit (.bool true)], args := [d] }
  | _ => none }
def tlvDecodesRow : OpenClaim := { program := "ytchpobikbcelfaa", sum := "b0089b8776e029e5c79d810f997010a73de568ba5d1d732997d4aa8e5a4697d0", func := "spyglass/spyglasslaw02.TlvDecodes", spec := "tlvDecodes", unfollowed := true, recurses := true, apart := false }
def TlvDecodesSaid : Prop := tlvDecodesRow.holds Try.pinned (OpenSpec.ofChange tlvDecodesSpec)

/-- ITS FALSE NEIGHBOUR: 'it returns false'. Refute it at one input. -/
def tlvDecodesWrong : ChangeSpec := { name := "tlvDecodes", fn := fun _ => fun
  | [d] => { results := [.lit (.bool false)], args := [d] }
  | _ => none }
def TlvDecodesWrongFalsely : Prop := tlvDecodesRow.holds Try.pinned (OpenSpec.ofChange tlvDecodesWrong)

/-- 'spyglasslaw02.TlvBack': WHATEVER THE INPUT: true; the input reads as it did. -/
def tlvBackSpec : ChangeSpec := { name := "tlvBack", fn := fun _ => fun
  | [d] => { results := [.lit (.bool true)], args := [d] }
  | _ => none }
def tlvBackRow : OpenClaim := { program := "ytchpobikbcelfaa", sum := "b0089b8776e029e5c79d810f997010a73de568ba5d1d732997d4aa8e5a4697d0", func := "spyglass/spyglasslaw02.TlvBack", spec := "tlvBack", unfollowed := true, recurses := true, loops := true, apart := false }
def TlvBackSaid : Prop := tlvBackRow.holds Try.pinned (OpenSpec.ofChange tlvBackSpec)

/-- ITS FALSE NEIGHBOUR: 'it returns false'. Refute it at one input. -/
def tlvBackWrong : ChangeSpec := { name := "tlvBack", fn := fun _ => fun
  | [d] => { results := [.lit (.bool false)], args := [d] }
  | _ => none }
def TlvBackWrongFalsely : Prop := tlvBackRow.holds Try.pinned (OpenSpec.ofChange tlvBackWrong)

/-- 'spyglasslaw02.TlvOne': WHATEVER THE INPUT: true; the input reads as it did. -/
def tlvOneSpec : ChangeSpec := { name := "tlvOne", fn := fun _ => fun
  | [d] => { results := [.lit (.bool true)], args := [d] }
  | _ => none }
def tlvOneRow : OpenClaim := { program := "ytchpobikbcelfaa", sum := "b0089b8776e029e5c79d810f997010a73de568ba5d1d732997d4aa8e5a4697d0", func := "spyglass/spyglasslaw02.TlvOne", spec := "tlvOne", unfollowed := true, recurses := true, apart := false }
def TlvOneSaid : Prop := tlvOneRow.holds Try.pinned (OpenSpec.ofChange tlvOneSpec)

/-- ITS FALSE NEIGHBOUR: 'it returns false'. Refute it at one input. -/
def tlvOneWrong : ChangeSpec := { name := "tlvOne", fn := fun _ => fun
  | [d] => { results := [.lit (.bool false)], args := [d] }
  | _ => none }
def TlvOneWrongFalsely : Prop := tlvOneRow.holds Try.pinned (OpenSpec.ofChange tlvOneWrong)

/-- 'spyglasslaw02.TlvPicks': WHATEVER THE INPUT: true; the input reads as it did. -/
def tlvPicksSpec : ChangeSpec := { name := "tlvPicks", fn := fun _ => fun
  | [d1, d2, d3] => { results := [.lit (.bool true)], args := [d1, d2, d3] }
  | _ => none }
def tlvPicksRow : OpenClaim := { program := "ytchpobikbcelfaa", sum := "b0089b8776e029e5c79d810f997010a73de568ba5d1d732997d4aa8e5a4697d0", func := "spyglass/spyglasslaw02.TlvPicks", spec := "tlvPicks", unfollowed := true, recurses := true, loops := true, apart := false }
def TlvPicksSaid : Prop := tlvPicksRow.holds Try.pinned (OpenSpec.ofChange tlvPicksSpec)

/-- ITS FALSE NEIGHBOUR: 'it returns false'. Refute it at one input. -/
def tlvPicksWrong : ChangeSpec := { name := "tlvPicks", fn := fun _ => fun
  | [d1, d2, d3] => { results := [.lit (.bool false)], args := [d1, d2, d3] }
  | _ => none }
def TlvPicksWrongFalsely : Prop := tlvPicksRow.holds Try.pinned (OpenSpec.ofChange tlvPicksWrong)

/-- 'spyglasslaw02.TlvUnknown': WHATEVER THE INPUT: true; the input reads as it did. -/
def tlvUnknownSpec : ChangeSpec := { name := "tlvUnknown", fn := fun _ => fun
  | [d1, d2, d3, d4] => { results := [.lit (.bool true)], args := [d1, d2, d3, d4] }
  | _ => none }
def tlvUnknownRow : OpenClaim := { program := "ytchpobikbcelfaa", sum := "b0089b8776e029e5c79d810f997010a73de568ba5d1d732997d4aa8e5a4697d0", func := "spyglass/spyglasslaw02.TlvUnknown", spec := "tlvUnknown", unfollowed := true, recurses := true, loops := true, apart := false }
def TlvUnknownSaid : Prop := tlvUnknownRow.holds Try.pinned (OpenSpec.ofChange tlvUnknownSpec)

/-- ITS FALSE NEIGHBOUR: 'it returns false'. Refute it at one input. -/
def tlvUnknownWrong : ChangeSpec := { name := "tlvUnknown", fn := fun _ => fun
  | [d1, d2, d3, d4] => { results := [.lit (.bool false)], args := [d1, d2, d3, d4] }
  | _ => none }
def TlvUnknownWrongFalsely : Prop := tlvUnknownRow.holds Try.pinned (OpenSpec.ofChange tlvUnknownWrong)

/- THE SECOND FORM. 'bulk': how many values and letters a reading holds, each counted each time it is reached (what is shared counts as often as it is met; a slice's spare places count too). A statement '..UptoSaid' is the law's where the arguments, and the package variables that the reading takes, are together of bulk at most 1048576: NARROWER than '..Said'. Prove '..Said' where nothing that the law and all that it calls make is longer than what came in: it says more and counts as full. Else prove '..UptoSaid'. A law counts once. -/
mutual
def uptoBulk {H : Type} : DataW H → Nat
  | .lit (.string bytes) => bytes.length + 1
  | .lit _ => 1
  | .nil => 1
  | .ptr d => uptoBulk d + 1
  | .slice elems spare => uptoBulkAll elems + uptoBulkAll spare + 1
  | .agg parts => uptoBulkAll parts + 1
  | .iface _ d => uptoBulk d + 1
  | .map entries => uptoBulkEntries entries + 1
  | .held _ => 1
def uptoBulkAll {H : Type} : List (DataW H) → Nat
  | [] => 0
  | d :: r => uptoBulk d + uptoBulkAll r
def uptoBulkEntries {H : Type} : List (Lit × DataW H) → Nat
  | [] => 0
  | x :: r => uptoBulkEntry x + uptoBulkEntries r
def uptoBulkEntry {H : Type} : Lit × DataW H → Nat
  | (.string bytes, d) => bytes.length + uptoBulk d + 1
  | (_, d) => uptoBulk d + 1
 end
def uptoSmall : (H : Type) → List (DataW H) → Bool := fun _ ds => decide (uptoBulkAll ds ≤ 1048576)
def OpenSpec.upto (s : _root_.Go.ChangeSpec) : _root_.Go.OpenSpec := { _root_.Go.OpenSpec.ofChange s with cond := some uptoSmall }

/-- 'spyglasslaw02.TlvEncodes', WHERE WHAT IT READS IS OF BULK AT MOST 1048576: true; the input reads as it did. -/
def tlvEncodesUptoRow : OpenClaim := { program := "ytchpobikbcelfaa", sum := "b0089b8776e029e5c79d810f997010a73de568ba5d1d732997d4aa8e5a4697d0", func := "spyglass/spyglasslaw02.TlvEncodes", spec := "tlvEncodes", unfollowed := true, recurses := true, loops := true, apart := false, narrowed := true }
def TlvEncodesUptoSaid : Prop := tlvEncodesUptoRow.holds Try.pinned (OpenSpec.upto tlvEncodesSpec)

/-- 'spyglasslaw02.TlvDecodes', WHERE WHAT IT READS IS OF BULK AT MOST 1048576: true; the input reads as it did. -/
def tlvDecodesUptoRow : OpenClaim := { program := "ytchpobikbcelfaa", sum := "b0089b8776e029e5c79d810f997010a73de568ba5d1d732997d4aa8e5a4697d0", func := "spyglass/spyglasslaw02.TlvDecodes", spec := "tlvDecodes", unfollowed := true, recurses := true, apart := false, narrowed := true }
def TlvDecodesUptoSaid : Prop := tlvDecodesUptoRow.holds Try.pinned (OpenSpec.upto tlvDecodesSpec)

/-- 'spyglasslaw02.TlvBack', WHERE WHAT IT READS IS OF BULK AT MOST 1048576: true; the input reads as it did. -/
def tlvBackUptoRow : OpenClaim := { program := "ytchpobikbcelfaa", sum := "b0089b8776e029e5c79d810f997010a73de568ba5d1d732997d4aa8e5a4697d0", func := "spyglass/spyglasslaw02.TlvBack", spec := "tlvBack", unfollowed := true, recurses := true, loops := true, apart := false, narrowed := true }
def TlvBackUptoSaid : Prop := tlvBackUptoRow.holds Try.pinned (OpenSpec.upto tlvBackSpec)

/-- 'spyglasslaw02.TlvOne', WHERE WHAT IT READS IS OF BULK AT MOST 1048576: true; the input reads as it did. -/
def tlvOneUptoRow : OpenClaim := { program := "ytchpobikbcelfaa", sum := "b0089b8776e029e5c79d810f997010a73de568ba5d1d732997d4aa8e5a4697d0", func := "spyglass/spyglasslaw02.TlvOne", spec := "tlvOne", unfollowed := true, recurses := true, apart := false, narrowed := true }
def TlvOneUptoSaid : Prop := tlvOneUptoRow.holds Try.pinned (OpenSpec.upto tlvOneSpec)

/-- 'spyglasslaw02.TlvPicks', WHERE WHAT IT READS IS OF BULK AT MOST 1048576: true; the input reads as it did. -/
def tlvPicksUptoRow : OpenClaim := { program := "ytchpobikbcelfaa", sum := "b0089b8776e029e5c79d810f997010a73de568ba5d1d732997d4aa8e5a4697d0", func := "spyglass/spyglasslaw02.TlvPicks", spec := "tlvPicks", unfollowed := true, recurses := true, loops := true, apart := false, narrowed := true }
def TlvPicksUptoSaid : Prop := tlvPicksUptoRow.holds Try.pinned (OpenSpec.upto tlvPicksSpec)

/-- 'spyglasslaw02.TlvUnknown', WHERE WHAT IT READS IS OF BULK AT MOST 1048576: true; the input reads as it did. -/
def tlvUnknownUptoRow : OpenClaim := { program := "ytchpobikbcelfaa", sum := "b0089b8776e029e5c79d810f997010a73de568ba5d1d732997d4aa8e5a4697d0", func := "spyglass/spyglasslaw02.TlvUnknown", spec := "tlvUnknown", unfollowed := true, recurses := true, loops := true, apart := false, narrowed := true }
def TlvUnknownUptoSaid : Prop := tlvUnknownUptoRow.holds Try.pinned (OpenSpec.upto tlvUnknownSpec)

end Rows
end Go.Proofs.Ytchpobikbcelfaa
