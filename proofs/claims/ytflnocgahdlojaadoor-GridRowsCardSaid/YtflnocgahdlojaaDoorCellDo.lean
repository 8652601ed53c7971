/-
  What the program makes of a row by a call.
-/
import Derived.Test.YtflnocgahdlojaaDoorCellPut
import Derived.Test.YtflnocgahdlojaaDoorCellErase
import Derived.Test.YtflnocgahdlojaaDoorCellInsert
import Derived.Test.YtflnocgahdlojaaDoorCellDelete
import Derived.Test.YtflnocgahdlojaaDoorCellIn
namespace Go.Proofs.YtflnocgahdlojaaDoor
open Go.RowKit

/-- The eight cells of a block that was made of a call. -/
structure Op8c (w : World) (b : Nat) (o : Op8) : Prop where
  c0 : w.cell? ⟨b, 0, none⟩ = some (.int .i64 o.k)
  c1 : w.cell? ⟨b, 1, none⟩ = some (.int .i64 o.x)
  c2 : w.cell? ⟨b, 2, none⟩ = some (.int .i64 o.n)
  c3 : w.cell? ⟨b, 3, none⟩ = some (.int .i32 o.r)
  c4 : w.cell? ⟨b, 4, none⟩ = some (.int .u32 o.p.fg)
  c5 : w.cell? ⟨b, 5, none⟩ = some (.int .u32 o.p.bg)
  c6 : w.cell? ⟨b, 6, none⟩ = some (.int .u8 o.p.st)
  c7 : w.cell? ⟨b, 7, none⟩ = some (.int .u16 o.p.lk)
theorem op8_new (w : World) (o : Op8) (t : TypeId) : Op8c (w.alloc (.cells (opA o) t)) w.heap.size o :=
  ⟨cell_of_row _ _ 0 _ _ _ (heap_alloc_new w _), cell_of_row _ _ 1 _ _ _ (heap_alloc_new w _), cell_of_row _ _ 2 _ _ _ (heap_alloc_new w _), cell_of_row _ _ 3 _ _ _ (heap_alloc_new w _),
    cell_of_row _ _ 4 _ _ _ (heap_alloc_new w _), cell_of_row _ _ 5 _ _ _ (heap_alloc_new w _), cell_of_row _ _ 6 _ _ _ (heap_alloc_new w _), cell_of_row _ _ 7 _ _ _ (heap_alloc_new w _)⟩
theorem Op8c.below {w w' : World} {b : Nat} {o : Op8} (h : Op8c w b o) {B : Nat} (hb : Below B w w') (hB : b < B) : Op8c w' b o :=
  ⟨(hb.cell (by exact hB)).trans h.c0, (hb.cell (by exact hB)).trans h.c1, (hb.cell (by exact hB)).trans h.c2, (hb.cell (by exact hB)).trans h.c3, (hb.cell (by exact hB)).trans h.c4, (hb.cell (by exact hB)).trans h.c5, (hb.cell (by exact hB)).trans h.c6, (hb.cell (by exact hB)).trans h.c7⟩

/-- The call's row. -/
def doS (L : List Ce) (o : Op8) : List Ce := if o.k = 0 then putS L o.x o.r o.p else if o.k = 1 then eraseS L o.x o.n o.p else if o.k = 2 then insertS L o.x o.n o.p else if o.k = 3 then deleteS L o.x o.n o.p else L
theorem OpPost.below {M : List Ce} {ok : Bool} {w0 w1 : World} {e : Ending} {w' : World} (h : OpPost M ok w1 e w') (hb : Below w0.heap.size w0 w1) : OpPost M ok w0 e w' :=
  ⟨fun e1 => by
    obtain ⟨h1, g, c, h2, h3, h4, h5, h6⟩ := h.1 e1
    exact ⟨hb.trans (h1.mono hb.size), g, c, h2, Nat.le_trans hb.size h3, h4, h5, h6⟩, fun e1 => ⟨(h.2 e1).1, hb.trans ((h.2 e1).2.mono hb.size)⟩⟩
/-- What a row of the call's own, or none, answers. -/
theorem OpPost.shape {M : List Ce} {ok : Bool} {w : World} {e : Ending} {w' : World} (h : OpPost M ok w e w') : ∃ A n c, e = .returned (.slice A n c) ∧ OpPost M ok w (.returned (.slice A n c)) w' := by
  cases ok
  · obtain ⟨h1, h2⟩ := h.2 rfl
    exact ⟨_, _, _, h1, fun e => (by cases e), fun _ => ⟨rfl, h2⟩⟩
  · obtain ⟨h1, g, c, h2, h3⟩ := h.1 rfl
    exact ⟨_, _, _, h2, fun _ => ⟨h1, g, c, rfl, h3⟩, fun e => (by cases e)⟩

end Go.Proofs.YtflnocgahdlojaaDoor
