/-
  A guard in memory: a block of two numbers that tell what was taken.
-/
import Derived.Test.YtkmobiggcehpbaaWireMem
import Derived.Test.YtkmobiggcehpbaaGuardSpec
namespace Go.Proofs.Ytkmobiggcehpbaa
open Go.RowKit

/-- The block g holds a greatest number t and a word m, which tell L. -/
structure GdAt (ty : TypeId) (w : World) (g : Nat) (L : List Int) (t : Int) (m : Nat) : Prop where
  blk : w.heap[g]? = some (.cells #[.int .u64 t, .int .u64 (m : Int)] ty (0, 0))
  win : Win L t m
/-- A guard that took L. -/
def Gd (ty : TypeId) (w : World) (g : Nat) (L : List Int) : Prop := ∃ t m, GdAt ty w g L t m

section
variable {ty : TypeId} {w w' : World} {g : Nat} {L : List Int} {t : Int} {m : Nat}

theorem GdAt.lt (h : GdAt ty w g L t m) : g < w.heap.size := lt_of_block h.blk
theorem GdAt.cell0 (h : GdAt ty w g L t m) : w.cell? ⟨g, 0, none⟩ = some (.int .u64 t) := by simp [World.cell?, h.blk]
theorem GdAt.cell1 (h : GdAt ty w g L t m) : w.cell? ⟨g, 1, none⟩ = some (.int .u64 (m : Int)) := by simp [World.cell?, h.blk]
theorem GdAt.free (h : GdAt ty w g L t m) (k : Nat) : w.frozen? ⟨g, k, none⟩ = false := by simp [World.frozen?, h.blk]
theorem Gd.lt (h : Gd ty w g L) : g < w.heap.size := by obtain ⟨t, m, h⟩ := h; exact h.lt
theorem Gd.stay (h : Gd ty w g L) (hk : w'.heap[g]? = w.heap[g]?) : Gd ty w' g L := by obtain ⟨t, m, h⟩ := h; exact ⟨t, m, hk.trans h.blk, h.win⟩
theorem Gd.below (h : Gd ty w g L) (hb : Below w.heap.size w w') : Gd ty w' g L := h.stay (hb.block g h.lt)
theorem Gd.grown (h : Gd ty w g L) {row : Option Nat} (hg : w.grownBy w' row) (hne : row ≠ some g) : Gd ty w' g L := h.stay (hg.block g h.lt (fun e => hne e.symm))
theorem Gd.alloc (h : Gd ty w g L) (o : Obj) : Gd ty (w.alloc o) g L := h.below ((Below.refl _ _).alloc (Nat.le_refl _) o)
theorem Gd.drew (h : Gd ty w g L) : Gd ty w.drew g L := h.stay rfl
theorem Gd.drewN (h : Gd ty w g L) (q : Nat) : Gd ty (w.drewN q) g L := h.stay rfl
theorem Gd.setCell (h : Gd ty w g L) {a : Addr} (hne : a.block ≠ g) (u : Value) : Gd ty (w.setCell a u) g L := h.stay (heap_setCell_other w a g u (fun e => hne e.symm))
/-- What a number's greatest one is. -/
theorem GdAt.set (h : GdAt ty w g L t m) {L' : List Int} {t' : Int} {m' : Nat} (hw : Win L' t' m') :
    GdAt ty ((w.setCell ⟨g, 0, none⟩ (.int .u64 t')).setCell ⟨g, 1, none⟩ (.int .u64 (m' : Int))) g L' t' m' :=
  ⟨heap_setCell_same _ g 1 _ ty _ (heap_setCell_same w g 0 _ ty _ h.blk), hw⟩
end
end Go.Proofs.Ytkmobiggcehpbaa
