/-
  The reference's May, in and Width.
-/
import Derived.Test.YtbjgjhhombalpaaCellWid
import Derived.BigQuiet
namespace Go.Proofs.Ytbjgjhhombalpaa
open Go.RowKit

end Go.Proofs.Ytbjgjhhombalpaa
