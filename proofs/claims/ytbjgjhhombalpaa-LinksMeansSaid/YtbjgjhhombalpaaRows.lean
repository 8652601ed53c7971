/-
  No cell of these rows narrows 'for every input' (looked for: loops, veiled, ifaces, maps, wideKeys, modest, calm, conditions, laid).
  DERIVED. THE GIVEN ROWS OF THIS SEAT. 5 by the template 'for every input the law returns true; each argument reads behind the call as it read before'; 0 by the template 'total and deterministic' (their statements: YtbjgjhhombalpaaTotals.lean).
  GIVEN WITH THE SEED: the statements are not yours to turn. If you find one false, say at which input.
  Laid BY PROGRAM, IN A SANDBOX (cutbox-rows.mjs): the forced cells as the released guide's own fill.sh prints them over the translation a78929c5b685714e… (all of the seat's roots in one cut). By AI agents, Wed Nov 11 2026. No macro, syntax, notation, axiom, sorry.
-/
import Derived.Test.YtbjgjhhombalpaaChecked
import GoSem.Claim
import GoSem.ClaimJoined
import GoSem.ClaimMapViews
import Derived.JoinedTies
import Derived.KernelRfl
namespace Go.Proofs.Ytbjgjhhombalpaa
/- THE CELL 'sum', in the pinned program and in every row, IS THE sha256 OF THE DUMP (.gsa) THAT YtbjgjhhombalpaaProg.lean LOADS. Nothing in Lean hashes anything: it is a label: what it is worth is what the hold of that sum in a sandbox is worth. -/
noncomputable def Try.pinned : Pinned := { name := "ytbjgjhhombalpaa", sum := "a78929c5b685714ee0a02249d1884319c60c7e953398f75d6a09c19c43f37f04", checked := Try.checked }
namespace Rows
def none {H : Type} : Left H := { results := [], args := [] }

/-- 'spyglasslaw10.LinksPlays': WHATEVER THE INPUT: true; the input reads as it did. -/
def linksPlaysSpec : ChangeSpec := { name := "linksPlays", fn := fun _ => fun
  | [d] => { results := [.lit (.bool true)], args := [d] }
  | _ => none }
def linksPlaysRow : OpenClaim := { program := "ytbjgjhhombalpaa", sum := "a78929c5b685714ee0a02249d1884319c60c7e953398f75d6a09c19c43f37f04", func := "spyglass/spyglasslaw10.LinksPlays", spec := "linksPlays", apart := false }
def LinksPlaysSaid : Prop := linksPlaysRow.holds Try.pinned (OpenSpec.ofChange linksPlaysSpec)

/-- ITS FALSE NEIGHBOUR: 'it returns false'. Refute it at one input. -/
def linksPlaysWrong : ChangeSpec := { name := "linksPlays", fn := fun _ => fun
  | [d] => { results := [.lit (.bool false)], args := [d] }
  | _ => none }
def LinksPlaysWrongFalsely : Prop := linksPlaysRow.holds Try.pinned (OpenSpec.ofChange linksPlaysWrong)

/-- 'spyglasslaw10.LinksTables': WHATEVER THE INPUT: true; the input reads as it did. -/
def linksTablesSpec : ChangeSpec := { name := "linksTables", fn := fun _ => fun
  | [d1, d2] => { results := [.lit (.bool true)], args := [d1, d2] }
  | _ => none }
def linksTablesRow : OpenClaim := { program := "ytbjgjhhombalpaa", sum := "a78929c5b685714ee0a02249d1884319c60c7e953398f75d6a09c19c43f37f04", func := "spyglass/spyglasslaw10.LinksTables", spec := "linksTables", apart := false }
def LinksTablesSaid : Prop := linksTablesRow.holds Try.pinned (OpenSpec.ofChange linksTablesSpec)

/-- ITS FALSE NEIGHBOUR: 'it returns false'. Refute it at one input. -/
def linksTablesWrong : ChangeSpec := { name := "linksTables", fn := fun _ => fun
  | [d1, d2] => { results := [.lit (.bool false)], args := [d1, d2] }
  | _ => none }
def LinksTablesWrongFalsely : Prop := linksTablesRow.holds Try.pinned (OpenSpec.ofChange linksTablesWrong)

/-- 'spyglasslaw10.LinksCanon': WHATEVER THE INPUT: true; the input reads as it did. -/
def linksCanonSpec : ChangeSpec := { name := "linksCanon", fn := fun _ => fun
  | [d1, d2] => { results := [.lit (.bool true)], args := [d1, d2] }
  | _ => none }
def linksCanonRow : OpenClaim := { program := "ytbjgjhhombalpaa", sum := "a78929c5b685714ee0a02249d1884319c60c7e953398f75d6a09c19c43f37f04", func := "spyglass/spyglasslaw10.LinksCanon", spec := "linksCanon", apart := false }
def LinksCanonSaid : Prop := linksCanonRow.holds Try.pinned (OpenSpec.ofChange linksCanonSpec)

/-- ITS FALSE NEIGHBOUR: 'it returns false'. Refute it at one input. -/
def linksCanonWrong : ChangeSpec := { name := "linksCanon", fn := fun _ => fun
  | [d1, d2] => { results := [.lit (.bool false)], args := [d1, d2] }
  | _ => none }
def LinksCanonWrongFalsely : Prop := linksCanonRow.holds Try.pinned (OpenSpec.ofChange linksCanonWrong)

/-- 'spyglasslaw10.LinksMeans': WHATEVER THE INPUT: true; the input reads as it did. -/
def linksMeansSpec : ChangeSpec := { name := "linksMeans", fn := fun _ => fun
  | [d1, d2] => { results := [.lit (.bool true)], args := [d1, d2] }
  | _ => none }
def linksMeansRow : OpenClaim := { program := "ytbjgjhhombalpaa", sum := "a78929c5b685714ee0a02249d1884319c60c7e953398f75d6a09c19c43f37f04", func := "spyglass/spyglasslaw10.LinksMeans", spec := "linksMeans", apart := false }
def LinksMeansSaid : Prop := linksMeansRow.holds Try.pinned (OpenSpec.ofChange linksMeansSpec)

/-- ITS FALSE NEIGHBOUR: 'it returns false'. Refute it at one input. -/
def linksMeansWrong : ChangeSpec := { name := "linksMeans", fn := fun _ => fun
  | [d1, d2] => { results := [.lit (.bool false)], args := [d1, d2] }
  | _ => none }
def LinksMeansWrongFalsely : Prop := linksMeansRow.holds Try.pinned (OpenSpec.ofChange linksMeansWrong)

/-- 'spyglasslaw10.LinksOnce': WHATEVER THE INPUT: true; the input reads as it did. -/
def linksOnceSpec : ChangeSpec := { name := "linksOnce", fn := fun _ => fun
  | [d1, d2] => { results := [.lit (.bool true)], args := [d1, d2] }
  | _ => none }
def linksOnceRow : OpenClaim := { program := "ytbjgjhhombalpaa", sum := "a78929c5b685714ee0a02249d1884319c60c7e953398f75d6a09c19c43f37f04", func := "spyglass/spyglasslaw10.LinksOnce", spec := "linksOnce", apart := false }
def LinksOnceSaid : Prop := linksOnceRow.holds Try.pinned (OpenSpec.ofChange linksOnceSpec)

/-- ITS FALSE NEIGHBOUR: 'it returns false'. Refute it at one input. -/
def linksOnceWrong : ChangeSpec := { name := "linksOnce", fn := fun _ => fun
  | [d1, d2] => { results := [.lit (.bool false)], args := [d1, d2] }
  | _ => none }
def LinksOnceWrongFalsely : Prop := linksOnceRow.holds Try.pinned (OpenSpec.ofChange linksOnceWrong)

/- THE SECOND FORM. 'bulk': how many values and letters a reading holds, each counted each time it is reached (what is shared counts as often as it is met; a slice's spare places count too). A statement '..UptoSaid' is the law's where the arguments, and the package variables that the reading takes, are together of bulk at most 1048576: NARROWER than '..Said'. Prove '..Said' where nothing that the law and all that it calls make is longer than what came in: it says more and counts as full. Else prove '..UptoSaid'. A law counts once. -/
mutual
def uptoBulk {H : Type} : DataW H → Nat
  | .lit (.string bytes) => bytes.length + 1
  | .lit _ => 1
  | .nil => 1
  | .ptr d => uptoBulk d + 1
  | .slice elems spare => uptoBulkAll elems + uptoBulkAll spare + 1
  | .agg parts => uptoBulkAll parts + 1
  | .iface _ d => uptoBulk d + 1
  | .map entries => uptoBulkEntries entries + 1
  | .held _ => 1
def uptoBulkAll {H : Type} : List (DataW H) → Nat
  | [] => 0
  | d :: r => uptoBulk d + uptoBulkAll r
def uptoBulkEntries {H : Type} : List (Lit × DataW H) → Nat
  | [] => 0
  | x :: r => uptoBulkEntry x + uptoBulkEntries r
def uptoBulkEntry {H : Type} : Lit × DataW H → Nat
  | (.string bytes, d) => bytes.length + uptoBulk d + 1
  | (_, d) => uptoBulk d + 1
 end
def uptoSmall : (H : Type) → List (DataW H) → Bool := fun _ ds => decide (uptoBulkAll ds ≤ 1048576)
def OpenSpec.upto (s : _root_.Go.ChangeSpec) : _root_.Go.OpenSpec := { _root_.Go.OpenSpec.ofChange s with cond := some uptoSmall }

/-- 'spyglasslaw10.LinksPlays', WHERE WHAT IT READS IS OF BULK AT MOST 1048576: true; the input reads as it did. -/
def linksPlaysUptoRow : OpenClaim := { program := "ytbjgjhhombalpaa", sum := "a78929c5b685714ee0a02249d1884319c60c7e953398f75d6a09c19c43f37f04", func := "spyglass/spyglasslaw10.LinksPlays", spec := "linksPlays", apart := false, narrowed := true }
def LinksPlaysUptoSaid : Prop := linksPlaysUptoRow.holds Try.pinned (OpenSpec.upto linksPlaysSpec)

/-- 'spyglasslaw10.LinksTables', WHERE WHAT IT READS IS OF BULK AT MOST 1048576: true; the input reads as it did. -/
def linksTablesUptoRow : OpenClaim := { program := "ytbjgjhhombalpaa", sum := "a78929c5b685714ee0a02249d1884319c60c7e953398f75d6a09c19c43f37f04", func := "spyglass/spyglasslaw10.LinksTables", spec := "linksTables", apart := false, narrowed := true }
def LinksTablesUptoSaid : Prop := linksTablesUptoRow.holds Try.pinned (OpenSpec.upto linksTablesSpec)

/-- 'spyglasslaw10.LinksCanon', WHERE WHAT IT READS IS OF BULK AT MOST 1048576: true; the input reads as it did. -/
def linksCanonUptoRow : OpenClaim := { program := "ytbjgjhhombalpaa", sum := "a78929c5b685714ee0a02249d1884319c60c7e953398f75d6a09c19c43f37f04", func := "spyglass/spyglasslaw10.LinksCanon", spec := "linksCanon", apart := false, narrowed := true }
def LinksCanonUptoSaid : Prop := linksCanonUptoRow.holds Try.pinned (OpenSpec.upto linksCanonSpec)

/-- 'spyglasslaw10.LinksMeans', WHERE WHAT IT READS IS OF BULK AT MOST 1048576: true; the input reads as it did. -/
def linksMeansUptoRow : OpenClaim := { program := "ytbjgjhhombalpaa", sum := "a78929c5b685714ee0a02249d1884319c60c7e953398f75d6a09c19c43f37f04", func := "spyglass/spyglasslaw10.LinksMeans", spec := "linksMeans", apart := false, narrowed := true }
def LinksMeansUptoSaid : Prop := linksMeansUptoRow.holds Try.pinned (OpenSpec.upto linksMeansSpec)

/-- 'spyglasslaw10.LinksOnce', WHERE WHAT IT READS IS OF BULK AT MOST 1048576: true; the input reads as it did. -/
def linksOnceUptoRow : OpenClaim := { program := "ytbjgjhhombalpaa", sum := "a78929c5b685714ee0a02249d1884319c60c7e953398f75d6a09c19c43f37f04", func := "spyglass/spyglasslaw10.LinksOnce", spec := "linksOnce", apart := false, narrowed := true }
def LinksOnceUptoSaid : Prop := linksOnceUptoRow.holds Try.pinned (OpenSpec.upto linksOnceSpec)

end Rows
end Go.Proofs.Ytbjgjhhombalpaa
