/-
  utf.Width: how many columns a rune takes.
-/
import Derived.Test.YtappnfifhpmekaaDoorUtfEnc
import Derived.Test.YtappnfifhpmekaaDoorUtfTab
import Derived.Test.YtappnfifhpmekaaDoorUtfBegin
import Derived.Laws.Rows
import Derived.Lib.Hide
namespace Go.Proofs.YtappnfifhpmekaaDoor
open Go.RowKit

/-- The first stretch from k on that holds r. -/
def inSt (r : Int) : List (Int × Int × Int) → Int
  | [] => 1
  | x :: l => if x.1 ≤ r ∧ r ≤ x.2.1 then x.2.2 else inSt r l
def widthS (r : Int) : Int := if mayS r = true then inSt r stL else 0
theorem valid_may (r : Int) : Lib.validRune r = mayS r := by
  unfold Lib.validRune mayS
  rw [Bool.eq_iff_iff]
  simp
  omega
end Go.Proofs.YtappnfifhpmekaaDoor
