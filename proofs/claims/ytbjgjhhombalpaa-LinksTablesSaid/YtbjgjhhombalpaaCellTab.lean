/-
  The package-level variable that layer 8 reads, utf's stretches: what a row's listed variable gives of it, and a start that meets the condition.
-/
import Derived.Test.YtbjgjhhombalpaaOpen
import Derived.Test.YtbjgjhhombalpaaCellShelf
import Derived.Test.YtbjgjhhombalpaaRows
import Derived.Lib.LaidU8
import Derived.Lib.LaidTab
import Derived.LaidMore
import Derived.Lay
import Derived.Stop.Joined
import Derived.Handed
namespace Go.Proofs.Ytbjgjhhombalpaa
open Go.ChangeShapes Go.WideShapes Go.ChangeAt Go.RowKit

def iOf : Value → Int
  | .int _ x => x
  | _ => 0
/-- The stretches: first, last, columns. -/
def stL : List (Int × Int × Int) := [(0, 31, 0), (127, 159, 0), (768, 879, 0), (8203, 8207, 0), (65024, 65039, 0), (4352, 4447, 2), (11904, 12350, 2), (12353, 42191, 2), (44032, 55203, 2), (63744, 64255, 2), (65072, 65135, 2), (65280, 65376, 2), (65504, 65510, 2), (127744, 128591, 2), (131072, 262141, 2)]
def stCells : List Value := (stL.map fun x => [Value.int .i32 x.1, Value.int .i32 x.2.1, Value.int .i64 x.2.2]).flatten
end Go.Proofs.Ytbjgjhhombalpaa
