/-
  Contract of the reference's reader's Num.
-/
import Derived.Test.YtchpobikbcelfaaRefRead
import Derived.Test.YtchpobikbcelfaaWireRead
namespace Go.Proofs.Ytchpobikbcelfaa
open Go.RowKit

def RNumPost (A : Option Addr) (n c : Nat) (bs : List Int) (w : World) (q : Int × List Int × Int) (e' : Ending) (w' : World) : Prop :=
  ∃ u, e' = .returned (.tuple #[.int .u64 q.1, u]) ∧ RTo A n c bs q.2.1 q.2.2 u ∧ Below w.heap.size w w'

end Go.Proofs.Ytchpobikbcelfaa
