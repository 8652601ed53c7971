/-
  No cell of these rows narrows 'for every input' (looked for: loops, veiled, ifaces, maps, wideKeys, modest, calm, conditions, laid).
  DERIVED. THE GIVEN ROWS OF THIS SEAT. 5 by the template 'for every input the law returns true; each argument reads behind the call as it read before'; 0 by the template 'total and deterministic' (their statements: YtkmobiggcehpbaaTotals.lean).
  GIVEN WITH THE SEED: the statements are not yours to turn. If you find one false, say at which input.
  Laid BY PROGRAM, IN A SANDBOX (cutbox-rows.mjs): the forced cells as the released guide's own fill.sh prints them over the translation 84c8bf96bf7bc29c… (all of the seat's roots in one cut). By AI agents, Wed Nov 11 2026. No macro, syntax, notation, axiom, sorry.
-/
import Derived.Test.YtkmobiggcehpbaaChecked
import GoSem.Claim
import GoSem.ClaimJoined
import GoSem.ClaimMapViews
import Derived.JoinedTies
import Derived.KernelRfl
namespace Go.Proofs.Ytkmobiggcehpbaa
/- THE CELL 'sum', in the pinned program and in every row, IS THE sha256 OF THE DUMP (.gsa) THAT YtkmobiggcehpbaaProg.lean LOADS. Nothing in Lean hashes anything: it is a label: what it is worth is what the hold of that sum in a sandbox is worth. -/
noncomputable def Try.pinned : Pinned := { name := "ytkmobiggcehpbaa", sum := "84c8bf96bf7bc29ccf436acd143a9740bbd426cc6e4624beb5012155e9725256", checked := Try.checked }
namespace Rows
def none {H : Type} : Left H := { results := [], args := [] }

/-- 'spyglasslaw05.GuardPlays': WHATEVER THE INPUT: true; the input reads as it did. -/
def guardPlaysSpec : ChangeSpec := { name := "guardPlays", fn := fun _ => fun
  | [d] => { results := [.lit (.bool true)], args := [d] }
  | _ => none }
def guardPlaysRow : OpenClaim := { program := "ytkmobiggcehpbaa", sum := "84c8bf96bf7bc29ccf436acd143a9740bbd426cc6e4624beb5012155e9725256", func := "spyglass/spyglasslaw05.GuardPlays", spec := "guardPlays", apart := false }
def GuardPlaysSaid : Prop := guardPlaysRow.holds Try.pinned (OpenSpec.ofChange guardPlaysSpec)

/-- ITS FALSE NEIGHBOUR: 'it returns false'. Refute it at one input. -/
def guardPlaysWrong : ChangeSpec := { name := "guardPlays", fn := fun _ => fun
  | [d] => { results := [.lit (.bool false)], args := [d] }
  | _ => none }
def GuardPlaysWrongFalsely : Prop := guardPlaysRow.holds Try.pinned (OpenSpec.ofChange guardPlaysWrong)

/-- 'spyglasslaw05.GuardOnce': WHATEVER THE INPUT: true; the input reads as it did. -/
def guardOnceSpec : ChangeSpec := { name := "guardOnce", fn := fun _ => fun
  | [d1, d2] => { results := [.lit (.bool true)], args := [d1, d2] }
  | _ => none }
def guardOnceRow : OpenClaim := { program := "ytkmobiggcehpbaa", sum := "84c8bf96bf7bc29ccf436acd143a9740bbd426cc6e4624beb5012155e9725256", func := "spyglass/spyglasslaw05.GuardOnce", spec := "guardOnce", apart := false }
def GuardOnceSaid : Prop := guardOnceRow.holds Try.pinned (OpenSpec.ofChange guardOnceSpec)

/-- ITS FALSE NEIGHBOUR: 'it returns false'. Refute it at one input. -/
def guardOnceWrong : ChangeSpec := { name := "guardOnce", fn := fun _ => fun
  | [d1, d2] => { results := [.lit (.bool false)], args := [d1, d2] }
  | _ => none }
def GuardOnceWrongFalsely : Prop := guardOnceRow.holds Try.pinned (OpenSpec.ofChange guardOnceWrong)

/-- 'spyglasslaw05.GuardNear': WHATEVER THE INPUT: true; the input reads as it did. -/
def guardNearSpec : ChangeSpec := { name := "guardNear", fn := fun _ => fun
  | [d1, d2] => { results := [.lit (.bool true)], args := [d1, d2] }
  | _ => none }
def guardNearRow : OpenClaim := { program := "ytkmobiggcehpbaa", sum := "84c8bf96bf7bc29ccf436acd143a9740bbd426cc6e4624beb5012155e9725256", func := "spyglass/spyglasslaw05.GuardNear", spec := "guardNear", apart := false }
def GuardNearSaid : Prop := guardNearRow.holds Try.pinned (OpenSpec.ofChange guardNearSpec)

/-- ITS FALSE NEIGHBOUR: 'it returns false'. Refute it at one input. -/
def guardNearWrong : ChangeSpec := { name := "guardNear", fn := fun _ => fun
  | [d1, d2] => { results := [.lit (.bool false)], args := [d1, d2] }
  | _ => none }
def GuardNearWrongFalsely : Prop := guardNearRow.holds Try.pinned (OpenSpec.ofChange guardNearWrong)

/-- 'spyglasslaw05.GuardMoved': WHATEVER THE INPUT: true; the input reads as it did. -/
def guardMovedSpec : ChangeSpec := { name := "guardMoved", fn := fun _ => fun
  | [d1, d2] => { results := [.lit (.bool true)], args := [d1, d2] }
  | _ => none }
def guardMovedRow : OpenClaim := { program := "ytkmobiggcehpbaa", sum := "84c8bf96bf7bc29ccf436acd143a9740bbd426cc6e4624beb5012155e9725256", func := "spyglass/spyglasslaw05.GuardMoved", spec := "guardMoved", apart := false }
def GuardMovedSaid : Prop := guardMovedRow.holds Try.pinned (OpenSpec.ofChange guardMovedSpec)

/-- ITS FALSE NEIGHBOUR: 'it returns false'. Refute it at one input. -/
def guardMovedWrong : ChangeSpec := { name := "guardMoved", fn := fun _ => fun
  | [d1, d2] => { results := [.lit (.bool false)], args := [d1, d2] }
  | _ => none }
def GuardMovedWrongFalsely : Prop := guardMovedRow.holds Try.pinned (OpenSpec.ofChange guardMovedWrong)

/-- 'spyglasslaw05.GuardNil': WHATEVER THE INPUT: true; the input reads as it did. -/
def guardNilSpec : ChangeSpec := { name := "guardNil", fn := fun _ => fun
  | [d] => { results := [.lit (.bool true)], args := [d] }
  | _ => none }
def guardNilRow : OpenClaim := { program := "ytkmobiggcehpbaa", sum := "84c8bf96bf7bc29ccf436acd143a9740bbd426cc6e4624beb5012155e9725256", func := "spyglass/spyglasslaw05.GuardNil", spec := "guardNil", apart := false }
def GuardNilSaid : Prop := guardNilRow.holds Try.pinned (OpenSpec.ofChange guardNilSpec)

/-- ITS FALSE NEIGHBOUR: 'it returns false'. Refute it at one input. -/
def guardNilWrong : ChangeSpec := { name := "guardNil", fn := fun _ => fun
  | [d] => { results := [.lit (.bool false)], args := [d] }
  | _ => none }
def GuardNilWrongFalsely : Prop := guardNilRow.holds Try.pinned (OpenSpec.ofChange guardNilWrong)

/- THE SECOND FORM. 'bulk': how many values and letters a reading holds, each counted each time it is reached (what is shared counts as often as it is met; a slice's spare places count too). A statement '..UptoSaid' is the law's where the arguments, and the package variables that the reading takes, are together of bulk at most 1048576: NARROWER than '..Said'. Prove '..Said' where nothing that the law and all that it calls make is longer than what came in: it says more and counts as full. Else prove '..UptoSaid'. A law counts once. -/
mutual
def uptoBulk {H : Type} : DataW H → Nat
  | .lit (.string bytes) => bytes.length + 1
  | .lit _ => 1
  | .nil => 1
  | .ptr d => uptoBulk d + 1
  | .slice elems spare => uptoBulkAll elems + uptoBulkAll spare + 1
  | .agg parts => uptoBulkAll parts + 1
  | .iface _ d => uptoBulk d + 1
  | .map entries => uptoBulkEntries entries + 1
  | .held _ => 1
def uptoBulkAll {H : Type} : List (DataW H) → Nat
  | [] => 0
  | d :: r => uptoBulk d + uptoBulkAll r
def uptoBulkEntries {H : Type} : List (Lit × DataW H) → Nat
  | [] => 0
  | x :: r => uptoBulkEntry x + uptoBulkEntries r
def uptoBulkEntry {H : Type} : Lit × DataW H → Nat
  | (.string bytes, d) => bytes.length + uptoBulk d + 1
  | (_, d) => uptoBulk d + 1
 end
def uptoSmall : (H : Type) → List (DataW H) → Bool := fun _ ds => decide (uptoBulkAll ds ≤ 1048576)
def OpenSpec.upto (s : _root_.Go.ChangeSpec) : _root_.Go.OpenSpec := { _root_.Go.OpenSpec.ofChange s with cond := some uptoSmall }

/-- 'spyglasslaw05.GuardPlays', WHERE WHAT IT READS IS OF BULK AT MOST 1048576: true; the input reads as it did. -/
def guardPlaysUptoRow : OpenClaim := { program := "ytkmobiggcehpbaa", sum := "84c8bf96bf7bc29ccf436acd143a9740bbd426cc6e4624beb5012155e9725256", func := "spyglass/spyglasslaw05.GuardPlays", spec := "guardPlays", apart := false, narrowed := true }
def GuardPlaysUptoSaid : Prop := guardPlaysUptoRow.holds Try.pinned (OpenSpec.upto guardPlaysSpec)

/-- 'spyglasslaw05.GuardOnce', WHERE WHAT IT READS IS OF BULK AT MOST 1048576: true; the input reads as it did. -/
def guardOnceUptoRow : OpenClaim := { program := "ytkmobiggcehpbaa", sum := "84c8bf96bf7bc29ccf436acd143a9740bbd426cc6e4624beb5012155e9725256", func := "spyglass/spyglasslaw05.GuardOnce", spec := "guardOnce", apart := false, narrowed := true }
def GuardOnceUptoSaid : Prop := guardOnceUptoRow.holds Try.pinned (OpenSpec.upto guardOnceSpec)

/-- 'spyglasslaw05.GuardNear', WHERE WHAT IT READS IS OF BULK AT MOST 1048576: true; the input reads as it did. -/
def guardNearUptoRow : OpenClaim := { program := "ytkmobiggcehpbaa", sum := "84c8bf96bf7bc29ccf436acd143a9740bbd426cc6e4624beb5012155e9725256", func := "spyglass/spyglasslaw05.GuardNear", spec := "guardNear", apart := false, narrowed := true }
def GuardNearUptoSaid : Prop := guardNearUptoRow.holds Try.pinned (OpenSpec.upto guardNearSpec)

/-- 'spyglasslaw05.GuardMoved', WHERE WHAT IT READS IS OF BULK AT MOST 1048576: true; the input reads as it did. -/
def guardMovedUptoRow : OpenClaim := { program := "ytkmobiggcehpbaa", sum := "84c8bf96bf7bc29ccf436acd143a9740bbd426cc6e4624beb5012155e9725256", func := "spyglass/spyglasslaw05.GuardMoved", spec := "guardMoved", apart := false, narrowed := true }
def GuardMovedUptoSaid : Prop := guardMovedUptoRow.holds Try.pinned (OpenSpec.upto guardMovedSpec)

/-- 'spyglasslaw05.GuardNil', WHERE WHAT IT READS IS OF BULK AT MOST 1048576: true; the input reads as it did. -/
def guardNilUptoRow : OpenClaim := { program := "ytkmobiggcehpbaa", sum := "84c8bf96bf7bc29ccf436acd143a9740bbd426cc6e4624beb5012155e9725256", func := "spyglass/spyglasslaw05.GuardNil", spec := "guardNil", apart := false, narrowed := true }
def GuardNilUptoSaid : Prop := guardNilUptoRow.holds Try.pinned (OpenSpec.upto guardNilSpec)

end Rows
end Go.Proofs.Ytkmobiggcehpbaa
