/-
  What a row's listed variable gives: the table of roots; and the start that meets the condition.
-/
import Derived.Test.YtogaakokplobaaaDoorOpen
import Derived.Test.YtogaakokplobaaaDoorShaFixed
import Derived.Lib.LaidTab
import Derived.LaidMore
import Derived.Stop.Joined
import Derived.Handed
namespace Go.Proofs.YtogaakokplobaaaDoor
open Go.ChangeShapes Go.WideShapes Go.ChangeAt Go.RowKit

abbrev laidL : List (String × DataW Unit) := [("spyglass/sha.roots", Rows.laid_spyglass_sha_roots)]
theorem gRoots : Tryd.prog.globalNamed "spyglass/sha.roots" = some 0 := by kernel_rfl
theorem tRoots : (Tryd.prog.globals[0]?).map (·.type) = some 87 := by kernel_rfl
theorem c32 : Tryd.prog.cellsOf 23 = 1 := by kernel_rfl
theorem c64 : Tryd.prog.cellsOf 87 = 64 := by kernel_rfl
theorem roots_of_laid {W : World} (h : laidMetH Tryd.prog laidL W) : Roots W := by
  rw [MakeChecks.laidMetH_plain _ _ _ (by kernel_rfl)] at h
  have ht : Lib.TabIs Tryd.prog W "spyglass/sha.roots" .u32 rootsL := Lib.tabIs_of_head gRoots tRoots Tryd.underlying87 Tryd.underlying23 c32 c64 (rest := []) h
  have hc : ∀ k, k < 64 → W.cell? ⟨0, k, none⟩ = some (.int .u32 (rootsL.getD k 0)) := fun k hk => ht.cell gRoots k hk
  exact ⟨by have := World.block_lt_of_cell? W _ (hc 0 (by omega)); exact this, hc⟩
/-- The door's own heap meets the condition. -/
theorem door_met (os : Os) (args : Array Value) : laidMetH Tryd.prog laidL ((World.doorLaid Tryd.prog 400 os).forCall (fun _ _ => 0) ⟨#[], args, []⟩).memory :=
  laidMetH_of_parts3 (fuel := 8) (laidMet_of_run' 8 (by kernel_rfl) (by kernel_rfl)) (by kernel_rfl) (by kernel_rfl)

end Go.Proofs.YtogaakokplobaaaDoor
