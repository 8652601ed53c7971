/-
  Arrays of words and of bytes in memory: whole blocks, read and written by cells, and indexed by value.
-/
import Derived.WalkKit
import Derived.Laws.Rows
import Derived.Deep.WholeRow
import Derived.Lib.Hide
import Derived.Deep.Draws
import Derived.Test.YtogaakokplobaaaDoorShaSpec
import Derived.Test.YtogaakokplobaaaDoorWireMem
namespace Go.Proofs.YtogaakokplobaaaDoor
open Go.RowKit

/-- An array's cells. -/
def u32A (l : List Int) : Array Value := (l.map (Value.int .u32)).toArray
def u8A (l : List Int) : Array Value := (l.map (Value.int .u8)).toArray
theorem u32A_size (l : List Int) : (u32A l).size = l.length := by simp [u32A]
theorem u8A_size (l : List Int) : (u8A l).size = l.length := by simp [u8A]
theorem lget {l : List Int} {k : Nat} (h : k < l.length) : l[k]? = some (l.getD k 0) := by rw [List.getD, List.getElem?_eq_getElem h]; rfl
theorem u32A_get {l : List Int} {k : Nat} (h : k < l.length) : (u32A l)[k]? = some (.int .u32 (l.getD k 0)) := by unfold u32A; rw [List.getElem?_toArray, List.getElem?_map, lget h]; rfl
theorem u8A_get {l : List Int} {k : Nat} (h : k < l.length) : (u8A l)[k]? = some (.int .u8 (l.getD k 0)) := by unfold u8A; rw [List.getElem?_toArray, List.getElem?_map, lget h]; rfl
theorem u32A_set (l : List Int) (k : Nat) (z : Int) : (u32A l).setIfInBounds k (.int .u32 z) = u32A (l.set k z) := by
  simp only [u32A, List.setIfInBounds_toArray, List.map_set]
theorem u8A_set (l : List Int) (k : Nat) (z : Int) : (u8A l).setIfInBounds k (.int .u8 z) = u8A (l.set k z) := by
  simp only [u8A, List.setIfInBounds_toArray, List.map_set]
theorem u32A_one (l : List Int) : (u32A l).all (·.oneCell') = true := by
  rw [Array.all_eq_true_iff_forall_mem]
  intro x hx
  simp [u32A] at hx
  obtain ⟨z, _, rfl⟩ := hx
  rfl
theorem u8A_one (l : List Int) : (u8A l).all (·.oneCell') = true := by
  rw [Array.all_eq_true_iff_forall_mem]
  intro x hx
  simp [u8A] at hx
  obtain ⟨z, _, rfl⟩ := hx
  rfl

/-- Block b holds these cells, and may be written. -/
def Blk (w : World) (b : Nat) (t : TypeId) (cs : Array Value) : Prop := w.heap[b]? = some (.cells cs t (0, 0))
section
variable {w w' : World} {b : Nat} {t : TypeId} {cs : Array Value}

theorem Blk.at (h : Blk w b t cs) : w.heap[b]? = some (.cells cs t (0, 0)) := h
theorem Blk.lt (h : Blk w b t cs) : b < w.heap.size := (Array.getElem?_eq_some_iff.1 h).1
theorem Blk.new (w : World) (cs : Array Value) (t : TypeId) : Blk (w.alloc (.cells cs t)) w.heap.size t cs := heap_alloc_new _ _
theorem Blk.new' {w : World} {n : Nat} (h : w.heap.size = n) (cs : Array Value) (t : TypeId) : Blk (w.alloc (.cells cs t)) n t cs := by subst h; exact heap_alloc_new _ _
theorem Blk.alloc (h : Blk w b t cs) (o : Obj) : Blk (w.alloc o) b t cs := (heap_alloc_old _ _ h.lt).trans h
theorem Blk.below (h : Blk w b t cs) {B : Nat} (hb : Below B w w') (hB : b < B) : Blk w' b t cs := (hb.block b hB).trans h
theorem Blk.drewN (h : Blk w b t cs) (q : Nat) : Blk (w.drewN q) b t cs := h
theorem Blk.drew (h : Blk w b t cs) : Blk w.drew b t cs := h
theorem Blk.cell (h : Blk w b t cs) (k : Nat) : w.cell? ⟨b, k, none⟩ = cs[k]? := cell_of_row w b k cs t (0, 0) h
theorem Blk.free (h : Blk w b t cs) (k : Nat) : w.frozen? ⟨b, k, none⟩ = false := frozen_of_row w b k cs t h
theorem Blk.setCell (h : Blk w b t cs) (k : Nat) (v : Value) : Blk (w.setCell ⟨b, k, none⟩ v) b t (cs.setIfInBounds k v) := heap_setCell_same w b k cs t v h
theorem Blk.other (h : Blk w b t cs) {a : Addr} (v : Value) (hne : b ≠ a.block) : Blk (w.setCell a v) b t cs := (heap_setCell_other w a b v hne).trans h
theorem Blk.setRow (h : Blk w b t cs) (cs' : Array Value) : Blk (w.setRow b cs') b t cs' := setRow_heap w b cs cs' t (0, 0) h
theorem Blk.otherRow (h : Blk w b t cs) {g : Nat} (cs' : Array Value) (hne : b ≠ g) : Blk (w.setRow g cs') b t cs := (setRow_other w g b cs' hne).trans h
theorem Blk.cell32 {l : List Int} (h : Blk w b t (u32A l)) {k : Nat} (hk : k < l.length) : w.cell? ⟨b, k, none⟩ = some (.int .u32 (l.getD k 0)) := (h.cell k).trans (u32A_get hk)
theorem Blk.cell8 {l : List Int} (h : Blk w b t (u8A l)) {k : Nat} (hk : k < l.length) : w.cell? ⟨b, k, none⟩ = some (.int .u8 (l.getD k 0)) := (h.cell k).trans (u8A_get hk)
theorem Blk.set32 {l : List Int} (h : Blk w b t (u32A l)) (k : Nat) (z : Int) : Blk (w.setCell ⟨b, k, none⟩ (.int .u32 z)) b t (u32A (l.set k z)) := by rw [← u32A_set]; exact h.setCell k _
theorem Blk.set8 {l : List Int} (h : Blk w b t (u8A l)) (k : Nat) (z : Int) : Blk (w.setCell ⟨b, k, none⟩ (.int .u8 z)) b t (u8A (l.set k z)) := by rw [← u8A_set]; exact h.setCell k _
end

/-- An array by value, indexed. -/
theorem run_index_one {P : Program} (w : World) (t e : TypeId) (n : Nat) (cs : Array Value) (k : Nat) (v : Value) (ht : P.underlying t = some (.array n e)) (hag : ∀ w, (isAgg e).run P w = .ok false w) (hi : (P.info? e).map (·.size) = some 1) (hk : k < n) (hv : cs[k]? = some v) :
    (Instr.index t (.agg cs) (.int .i64 (k : Int))).run P w = .ok v w := by
  cases hq : P.info? e with
  | none => simp [hq] at hi
  | some i =>
    have hs : i.size = 1 := by simpa [hq] using hi
    simp [Instr.index, asIntOf, run_underlying ht, hk, sizeOf, typeInfo, hq, hs, part, hag, hv, go_sem]

end Go.Proofs.YtogaakokplobaaaDoor
