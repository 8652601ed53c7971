/-
  The library contract of utf8.ValidRune at this program, in plain words.
-/
import Derived.Shelf.Small.Utf8
import Derived.Test.YtbjgjhhombalpaaProg
namespace Go.Proofs
open Go.Shelf

end Go.Proofs
