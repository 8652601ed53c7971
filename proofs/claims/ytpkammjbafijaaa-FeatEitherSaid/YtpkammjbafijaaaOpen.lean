/-
  How the arguments of the statements of layer 1 are opened: slices of bytes.
-/
import Derived.Test.YtpkammjbafijaaaRows
import Derived.Test.YtpkammjbafijaaaWireMem
import Derived.ProofKit
import Derived.OpenShut
import Derived.ChangeOld
import Derived.SizedLaws
namespace Go.Proofs.Ytpkammjbafijaaa
open Go.ChangeShapes Go.WideShapes Go.ChangeAt Go.RowKit

theorem own : ownKnob Try.prog.godebug = none := by kernel_rfl
theorem laidOut : laidOutB Try.prog = true := by kernel_rfl
theorem bytes8 : Try.prog.bytesOf 5 = 1 := by kernel_rfl
theorem cells8 : Try.prog.cellsOf 5 = 1 := by kernel_rfl

end Go.Proofs.Ytpkammjbafijaaa
