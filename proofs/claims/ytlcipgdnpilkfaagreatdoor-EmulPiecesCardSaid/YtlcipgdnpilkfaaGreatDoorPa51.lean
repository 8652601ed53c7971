/-
  Part 51 of what the laws of emul want: EmulRefOps.
-/
import Derived.Test.YtlcipgdnpilkfaaGreatDoorPa49
namespace Go.Proofs.YtlcipgdnpilkfaaGreatDoor
open Go.RowKit
theorem zeroRT : Tryz.zeroCells42 = (rtV rt0).toArray := by kernel_rfl
theorem rt_one (x : RT) : (rtV x).toArray.all (·.oneCell') = true := by
 rw [List.all_toArray, List.all_eq_true]
 exact one_rt x
end Go.Proofs.YtlcipgdnpilkfaaGreatDoor
