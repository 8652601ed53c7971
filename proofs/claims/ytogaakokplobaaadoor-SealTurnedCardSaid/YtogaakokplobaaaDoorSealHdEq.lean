/-
  Headers held against each other; what is opened has a header that may stand in memory.
-/
import Derived.Test.YtogaakokplobaaaDoorSealFixed
import Derived.Laws.StructEq
namespace Go.Proofs.YtogaakokplobaaaDoor
open Go.RowKit

theorem hd_equal (h : Hd) (w : World) : (Op.equalIn 10000 26 (.agg (hdA h)) (.agg (hdA h))).run Tryd.prog w = .ok true w := by
  rw [show (10000 : Nat) = 9998 + 1 + 1 from rfl, run_equalIn_agg w (9998 + 1) 26 _ _ (by kernel_rfl) (by kernel_rfl)]
  simp [hdA, go_sem]
theorem hd_eql (h : Hd) (w : World) : (binOp .eql 26 (.agg (hdA h)) (.agg (hdA h))).run Tryd.prog w = .ok (.bool true) w := by
  rw [run_eql_struct, hd_equal]
  rfl
theorem hd_neq (h : Hd) (w : World) : (binOp .neq 26 (.agg (hdA h)) (.agg (hdA h))).run Tryd.prog w = .ok (.bool false) w := by
  simp only [binOp]
  simp [Op.equal, Op.maxDepth, hd_equal]

theorem openS_ok {key zs : List Int} (hu : B8s zs) : HdOk (openS key zs).1 ∧ B8s (openS key zs).2.1 := by
  unfold openS
  split
  · exact ⟨HdOk.zero, fun _ h => by cases h⟩
  · split
    · exact ⟨readH_ok hu, fun z hz => hu z (List.mem_of_mem_take (List.mem_of_mem_drop hz))⟩
    · exact ⟨HdOk.zero, fun _ h => by cases h⟩
theorem openS_len (key zs : List Int) : (openS key zs).2.1.length ≤ zs.length := by
  unfold openS
  split
  · simp
  · split
    · simp; omega
    · simp
end Go.Proofs.YtogaakokplobaaaDoor
