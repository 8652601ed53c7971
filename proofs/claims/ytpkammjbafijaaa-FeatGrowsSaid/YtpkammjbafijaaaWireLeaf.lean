/-
  Contracts of the small functions of wire and of the reference's Same and Copy: what each answers and what it leaves in memory.
-/
import Derived.Test.YtpkammjbafijaaaProg
import Derived.Test.YtpkammjbafijaaaWireMem
import Derived.BigQuiet
import Derived.Deep.QuietTactic
import Derived.Laws.CopyOwn
import Derived.WalkSpells
namespace Go.Proofs.Ytpkammjbafijaaa
open Go.RowKit

theorem retI {k : IntKind} {a b : Int} (h : a = b) : Ending.returned (.int k a) = .returned (.int k b) := by rw [h]

/-- What End answers. -/
def endE (e : Int) (n : Nat) : Int := if e = 0 then (if n = 0 then 0 else 6) else e

theorem info8 : (Try.prog.info? 5).map (fun i => (i.zero, i.size, i.bytes)) = some (some (.int .u8 0), 1, 1) := by kernel_rfl

theorem size8 : (Try.prog.info? 5).map (·.size) = some 1 := by kernel_rfl

end Go.Proofs.Ytpkammjbafijaaa
