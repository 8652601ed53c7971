/-
  The small functions of layer 8 and of its reference: which colours, pens and cells may be; blanks.
-/
import Derived.Test.YtbjgjhhombalpaaCellMem
import Derived.Test.YtbjgjhhombalpaaCellRefWid
namespace Go.Proofs.Ytbjgjhhombalpaa
open Go.RowKit

theorem beqD (a b : Int) : (a == b) = decide (a = b) := by rw [Bool.eq_iff_iff]; simp
theorem alloc2_new (w : World) (o1 o2 : Obj) : ((w.alloc o1).alloc o2).heap[w.heap.size + 1]? = some o2 := by
  have := heap_alloc_new (w.alloc o1) o2
  simpa using this
theorem infoCe : (Try.prog.info? 51).map (·.size) = some 6 := by kernel_rfl
end Go.Proofs.Ytbjgjhhombalpaa
