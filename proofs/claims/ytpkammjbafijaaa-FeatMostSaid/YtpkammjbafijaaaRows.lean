/-
  No cell of these rows narrows 'for every input' (looked for: loops, veiled, ifaces, maps, wideKeys, modest, calm, conditions, laid).
  DERIVED. THE GIVEN ROWS OF THIS SEAT. 4 by the template 'for every input the law returns true; each argument reads behind the call as it read before'; 0 by the template 'total and deterministic' (their statements: YtpkammjbafijaaaTotals.lean).
  GIVEN WITH THE SEED: the statements are not yours to turn. If you find one false, say at which input.
  Laid BY PROGRAM, IN A SANDBOX (cutbox-rows.mjs): the forced cells as the released guide's own fill.sh prints them over the translation 4ae28f7abe1f0bec… (all of the seat's roots in one cut). By AI agents, Wed Nov 11 2026. No macro, syntax, notation, axiom, sorry.
-/
import Derived.Test.YtpkammjbafijaaaChecked
import GoSem.Claim
import GoSem.ClaimJoined
import GoSem.ClaimMapViews
import Derived.JoinedTies
import Derived.KernelRfl
namespace Go.Proofs.Ytpkammjbafijaaa
/- THE CELL 'sum', in the pinned program and in every row, IS THE sha256 OF THE DUMP (.gsa) THAT YtpkammjbafijaaaProg.lean LOADS. Nothing in Lean hashes anything: it is a label: what it is worth is what the hold of that sum in a sandbox is worth. -/
noncomputable def Try.pinned : Pinned := { name := "ytpkammjbafijaaa", sum := "4ae28f7abe1f0bec7c6e19bb7465cf93e85c2de4940b27c99cb0497ac7307a81", checked := Try.checked }
namespace Rows
def none {H : Type} : Left H := { results := [], args := [] }

/-- 'spyglasslaw14.FeatChooses': WHATEVER THE INPUT: true; the input reads as it did. -/
def featChoosesSpec : ChangeSpec := { name := "featChooses", fn := fun _ => fun
  | [d1, d2, d3] => { results := [.lit (.bool true)], args := [d1, d2, d3] }
  | _ => none }
def featChoosesRow : OpenClaim := { program := "ytpkammjbafijaaa", sum := "4ae28f7abe1f0bec7c6e19bb7465cf93e85c2de4940b27c99cb0497ac7307a81", func := "spyglass/spyglasslaw14.FeatChooses", spec := "featChooses", apart := false }
def FeatChoosesSaid : Prop := featChoosesRow.holds Try.pinned (OpenSpec.ofChange featChoosesSpec)

/-- ITS FALSE NEIGHBOUR: 'it returns false'. Refute it at one input. -/
def featChoosesWrong : ChangeSpec := { name := "featChooses", fn := fun _ => fun
  | [d1, d2, d3] => { results := [.lit (.bool false)], args := [d1, d2, d3] }
  | _ => none }
def FeatChoosesWrongFalsely : Prop := featChoosesRow.holds Try.pinned (OpenSpec.ofChange featChoosesWrong)

/-- 'spyglasslaw14.FeatMost': WHATEVER THE INPUT: true; the input reads as it did. -/
def featMostSpec : ChangeSpec := { name := "featMost", fn := fun _ => fun
  | [d1, d2, d3] => { results := [.lit (.bool true)], args := [d1, d2, d3] }
  | _ => none }
def featMostRow : OpenClaim := { program := "ytpkammjbafijaaa", sum := "4ae28f7abe1f0bec7c6e19bb7465cf93e85c2de4940b27c99cb0497ac7307a81", func := "spyglass/spyglasslaw14.FeatMost", spec := "featMost", apart := false }
def FeatMostSaid : Prop := featMostRow.holds Try.pinned (OpenSpec.ofChange featMostSpec)

/-- ITS FALSE NEIGHBOUR: 'it returns false'. Refute it at one input. -/
def featMostWrong : ChangeSpec := { name := "featMost", fn := fun _ => fun
  | [d1, d2, d3] => { results := [.lit (.bool false)], args := [d1, d2, d3] }
  | _ => none }
def FeatMostWrongFalsely : Prop := featMostRow.holds Try.pinned (OpenSpec.ofChange featMostWrong)

/-- 'spyglasslaw14.FeatEither': WHATEVER THE INPUT: true; the input reads as it did. -/
def featEitherSpec : ChangeSpec := { name := "featEither", fn := fun _ => fun
  | [d1, d2] => { results := [.lit (.bool true)], args := [d1, d2] }
  | _ => none }
def featEitherRow : OpenClaim := { program := "ytpkammjbafijaaa", sum := "4ae28f7abe1f0bec7c6e19bb7465cf93e85c2de4940b27c99cb0497ac7307a81", func := "spyglass/spyglasslaw14.FeatEither", spec := "featEither", apart := false }
def FeatEitherSaid : Prop := featEitherRow.holds Try.pinned (OpenSpec.ofChange featEitherSpec)

/-- ITS FALSE NEIGHBOUR: 'it returns false'. Refute it at one input. -/
def featEitherWrong : ChangeSpec := { name := "featEither", fn := fun _ => fun
  | [d1, d2] => { results := [.lit (.bool false)], args := [d1, d2] }
  | _ => none }
def FeatEitherWrongFalsely : Prop := featEitherRow.holds Try.pinned (OpenSpec.ofChange featEitherWrong)

/-- 'spyglasslaw14.FeatGrows': WHATEVER THE INPUT: true; the input reads as it did. -/
def featGrowsSpec : ChangeSpec := { name := "featGrows", fn := fun _ => fun
  | [d1, d2, d3] => { results := [.lit (.bool true)], args := [d1, d2, d3] }
  | _ => none }
def featGrowsRow : OpenClaim := { program := "ytpkammjbafijaaa", sum := "4ae28f7abe1f0bec7c6e19bb7465cf93e85c2de4940b27c99cb0497ac7307a81", func := "spyglass/spyglasslaw14.FeatGrows", spec := "featGrows", apart := false }
def FeatGrowsSaid : Prop := featGrowsRow.holds Try.pinned (OpenSpec.ofChange featGrowsSpec)

/-- ITS FALSE NEIGHBOUR: 'it returns false'. Refute it at one input. -/
def featGrowsWrong : ChangeSpec := { name := "featGrows", fn := fun _ => fun
  | [d1, d2, d3] => { results := [.lit (.bool false)], args := [d1, d2, d3] }
  | _ => none }
def FeatGrowsWrongFalsely : Prop := featGrowsRow.holds Try.pinned (OpenSpec.ofChange featGrowsWrong)

/- THE SECOND FORM. 'bulk': how many values and letters a reading holds, each counted each time it is reached (what is shared counts as often as it is met; a slice's spare places count too). A statement '..UptoSaid' is the law's where the arguments, and the package variables that the reading takes, are together of bulk at most 1048576: NARROWER than '..Said'. Prove '..Said' where nothing that the law and all that it calls make is longer than what came in: it says more and counts as full. Else prove '..UptoSaid'. A law counts once. -/
mutual
def uptoBulk {H : Type} : DataW H → Nat
  | .lit (.string bytes) => bytes.length + 1
  | .lit _ => 1
  | .nil => 1
  | .ptr d => uptoBulk d + 1
  | .slice elems spare => uptoBulkAll elems + uptoBulkAll spare + 1
  | .agg parts => uptoBulkAll parts + 1
  | .iface _ d => uptoBulk d + 1
  | .map entries => uptoBulkEntries entries + 1
  | .held _ => 1
def uptoBulkAll {H : Type} : List (DataW H) → Nat
  | [] => 0
  | d :: r => uptoBulk d + uptoBulkAll r
def uptoBulkEntries {H : Type} : List (Lit × DataW H) → Nat
  | [] => 0
  | x :: r => uptoBulkEntry x + uptoBulkEntries r
def uptoBulkEntry {H : Type} : Lit × DataW H → Nat
  | (.string bytes, d) => bytes.length + uptoBulk d + 1
  | (_, d) => uptoBulk d + 1
 end
def uptoSmall : (H : Type) → List (DataW H) → Bool := fun _ ds => decide (uptoBulkAll ds ≤ 1048576)
def OpenSpec.upto (s : _root_.Go.ChangeSpec) : _root_.Go.OpenSpec := { _root_.Go.OpenSpec.ofChange s with cond := some uptoSmall }

/-- 'spyglasslaw14.FeatChooses', WHERE WHAT IT READS IS OF BULK AT MOST 1048576: true; the input reads as it did. -/
def featChoosesUptoRow : OpenClaim := { program := "ytpkammjbafijaaa", sum := "4ae28f7abe1f0bec7c6e19bb7465cf93e85c2de4940b27c99cb0497ac7307a81", func := "spyglass/spyglasslaw14.FeatChooses", spec := "featChooses", apart := false, narrowed := true }
def FeatChoosesUptoSaid : Prop := featChoosesUptoRow.holds Try.pinned (OpenSpec.upto featChoosesSpec)

/-- 'spyglasslaw14.FeatMost', WHERE WHAT IT READS IS OF BULK AT MOST 1048576: true; the input reads as it did. -/
def featMostUptoRow : OpenClaim := { program := "ytpkammjbafijaaa", sum := "4ae28f7abe1f0bec7c6e19bb7465cf93e85c2de4940b27c99cb0497ac7307a81", func := "spyglass/spyglasslaw14.FeatMost", spec := "featMost", apart := false, narrowed := true }
def FeatMostUptoSaid : Prop := featMostUptoRow.holds Try.pinned (OpenSpec.upto featMostSpec)

/-- 'spyglasslaw14.FeatEither', WHERE WHAT IT READS IS OF BULK AT MOST 1048576: true; the input reads as it did. -/
def featEitherUptoRow : OpenClaim := { program := "ytpkammjbafijaaa", sum := "4ae28f7abe1f0bec7c6e19bb7465cf93e85c2de4940b27c99cb0497ac7307a81", func := "spyglass/spyglasslaw14.FeatEither", spec := "featEither", apart := false, narrowed := true }
def FeatEitherUptoSaid : Prop := featEitherUptoRow.holds Try.pinned (OpenSpec.upto featEitherSpec)

/-- 'spyglasslaw14.FeatGrows', WHERE WHAT IT READS IS OF BULK AT MOST 1048576: true; the input reads as it did. -/
def featGrowsUptoRow : OpenClaim := { program := "ytpkammjbafijaaa", sum := "4ae28f7abe1f0bec7c6e19bb7465cf93e85c2de4940b27c99cb0497ac7307a81", func := "spyglass/spyglasslaw14.FeatGrows", spec := "featGrows", apart := false, narrowed := true }
def FeatGrowsUptoSaid : Prop := featGrowsUptoRow.holds Try.pinned (OpenSpec.upto featGrowsSpec)

end Rows
end Go.Proofs.Ytpkammjbafijaaa
