/-
  How the arguments of the statements of layer 1 are opened: slices of bytes.
-/
import Derived.Test.YtfbfidlgfdnneaaDoorRows
import Derived.Test.YtfbfidlgfdnneaaDoorWireMem
import Derived.ProofKit
import Derived.OpenShut
import Derived.ChangeOld
import Derived.SizedLaws
namespace Go.Proofs.YtfbfidlgfdnneaaDoor
open Go.ChangeShapes Go.WideShapes Go.ChangeAt Go.RowKit

theorem own : ownKnob Tryd.prog.godebug = none := by kernel_rfl
theorem laidOut : laidOutB Tryd.prog = true := by kernel_rfl
theorem bytes8 : Tryd.prog.bytesOf 5 = 1 := by kernel_rfl
theorem cells8 : Tryd.prog.cellsOf 5 = 1 := by kernel_rfl

end Go.Proofs.YtfbfidlgfdnneaaDoor
