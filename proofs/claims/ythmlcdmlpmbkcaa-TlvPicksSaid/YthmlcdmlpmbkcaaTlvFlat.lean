/-
  What Pick and Get leave, in one form whether they found something or not; and how items in new memory stay.
-/
import Derived.Test.YthmlcdmlpmbkcaaTlvTurn
import Derived.Test.YthmlcdmlpmbkcaaTlvIns
namespace Go.Proofs.Ythmlcdmlpmbkcaa
open Go.RowKit

/-- Pick's error. -/
def pickE (q : Option (List It)) : Int := match q with
  | none => 7
  | some _ => 0
theorem its_zero {w : World} {S : Nat → Prop} {d : Nat} : Its w S d none 0 0 [] := by
  cases d with
  | zero => exact ⟨rfl, rfl, Nat.zero_le _⟩
  | succ d => exact ⟨rfl, Nat.le_refl _, Nat.zero_le _, fun h => absurd h (by omega)⟩
theorem bs_zero {w : World} {S : Nat → Prop} : Bs w S none 0 0 [] := ⟨⟨rfl, fun h => absurd h (by omega)⟩, U8s.nil, Nat.le_refl _, Nat.zero_le _, Nat.zero_le _, fun _ h => by cases h⟩
theorem PickPost.flat {w w' : World} {d : Nat} {q : Option (List It)} {e : Ending} (h : PickPost w d q e w') :
    Below w.heap.size w w' ∧ ∃ A n c, e = .returned (.tuple #[.slice A n c, .int .i64 (pickE q)]) ∧ Its w' (Fr w.heap.size w') d A n c (q.getD []) := by
  refine ⟨h.1, ?_⟩
  cases q with
  | none => exact ⟨none, 0, 0, h.2, its_zero⟩
  | some l => exact h.2
theorem RPickPost.flat {w w' : World} {d : Nat} {q : Option (List It)} {e : Ending} (h : RPickPost w d q e w') :
    Below w.heap.size w w' ∧ ∃ A n c, e = .returned (.tuple #[.slice A n c, .int .i64 (pickE q)]) ∧ Its w' (fun _ => True) d A n c (q.getD []) := by
  refine ⟨h.1, ?_⟩
  cases q with
  | none => exact ⟨none, 0, 0, h.2, its_zero⟩
  | some l => exact h.2
/-- The item that is none. -/
def noIt : It := .mk 0 false false [] []
theorem GetPost.flat {w w' : World} {S : World → Nat → Prop} {d : Nat} {q : Option It} {e : Ending} (h : GetPost w S d q e w') :
    Below w.heap.size w w' ∧ ∃ B bn bc C cn cc, e = .returned (.tuple #[.agg #[.int .i64 (q.getD noIt).kind, .bool (q.getD noIt).crit, .bool (q.getD noIt).lst, .slice B bn bc, .slice C cn cc], .bool q.isSome]) ∧
      Bs w' (S w') B bn bc (q.getD noIt).bytes ∧ Its w' (S w') d C cn cc (q.getD noIt).items := by
  refine ⟨h.1, ?_⟩
  cases q with
  | none => exact ⟨none, 0, 0, none, 0, 0, h.2, bs_zero, its_zero⟩
  | some x => exact h.2

section
variable {w w' : World} {base : Nat}

theorem Its.fr {d : Nat} {A : Option Addr} {n c : Nat} {l : List It} (h : Its w (Fr base w) d A n c l) (hb : Below w.heap.size w w') : Its w' (Fr base w') d A n c l :=
  h.move hb.size fun b hf hlt => ⟨hb.block b hlt, hf.1, free_block hf.2 (hb.block b hlt)⟩
theorem Bs.fr {B : Option Addr} {bn bc : Nat} {zs : List Int} (h : Bs w (Fr base w) B bn bc zs) (hb : Below w.heap.size w w') : Bs w' (Fr base w') B bn bc zs :=
  h.move hb.size fun b hf hlt => ⟨hb.block b hlt, hf.1, free_block hf.2 (hb.block b hlt)⟩
theorem Its.lower {b2 : Nat} {d : Nat} {A : Option Addr} {n c : Nat} {l : List It} (h : Its w (Fr base w) d A n c l) (hb : b2 ≤ base) : Its w (Fr b2 w) d A n c l := h.mono fun _ hf _ => ⟨Nat.le_trans hb hf.1, hf.2⟩
theorem Bs.lower {b2 : Nat} {B : Option Addr} {bn bc : Nat} {zs : List Int} (h : Bs w (Fr base w) B bn bc zs) (hb : b2 ≤ base) : Bs w (Fr b2 w) B bn bc zs := h.mono fun _ hf _ => ⟨Nat.le_trans hb hf.1, hf.2⟩
theorem Alike.int (h' : Alike base w w') {a : Addr} {z : Int} (hc : w.cell? a = some (.int .i64 z)) : w'.cell? a = some (.int .i64 z) := by
  obtain ⟨v, h1, h2⟩ := h'.cell _ _ hc
  rcases h2 with rfl | ⟨_, _, e, _⟩ | ⟨_, _, e, _⟩
  · exact h1
  · cases e
  · cases e
/-- One item laid, all of it new memory. -/
theorem one_fr {d : Nat} {x : It} {B : Option Addr} {bn bc : Nat} {C : Option Addr} {cn cc : Nat} (hb : Bs w (Fr base w) B bn bc x.bytes) (hi : Its w (Fr base w) d C cn cc x.items) (h0 : base ≤ w.heap.size) :
    Its (w.alloc (.cells #[.int .i64 x.kind, .bool x.crit, .bool x.lst, .slice B bn bc, .slice C cn cc] 47)) (Fr base (w.alloc (.cells #[.int .i64 x.kind, .bool x.crit, .bool x.lst, .slice B bn bc, .slice C cn cc] 47))) (d + 1) (some ⟨w.heap.size, 0, none⟩) 1 1 [x] := by
  have bb : Below w.heap.size w (w.alloc (.cells #[.int .i64 x.kind, .bool x.crit, .bool x.lst, .slice B bn bc, .slice C cn cc] 47)) := (Below.refl _ _).alloc (Nat.le_refl _) _
  exact one_its (hb.mono fun b hf hlt => ⟨hf.1, free_block hf.2 (bb.block b hlt)⟩) (hi.mono fun b hf hlt => ⟨hf.1, free_block hf.2 (bb.block b hlt)⟩) ⟨h0, item_free (heap_alloc_new w _)⟩
end

/-- A flag or a byte written over: an item by value, read again. -/
theorem Blk5.below {w w' : World} {b : Nat} {o : Obj} (h : w.heap[b]? = some o) (hb : Below w.heap.size w w') : w'.heap[b]? = some o := by
  rw [hb.block b (Array.getElem?_eq_some_iff.1 h).1]; exact h

/-- Where TlvPicks stands behind its four calls: what was picked, what should have been; what was found, what should have been. -/
structure Sit (w0 w2 : World) (p12 p14 m : Nat) (A3 A4 : Option Addr) (n3 c3 c4 : Nat) (P : List It) (y : It) (B : Option Addr) (bn bc : Nat) (C : Option Addr) (cn cc : Nat) (D : Option Addr) (dc : Nat) (E : Option Addr) (ec : Nat) (v : World) : Prop where
  b0 : Below w0.heap.size w0 v
  b2 : Below w2.heap.size w2 v
  x12 : v.heap[p12]? = some (.cells #[.int .i64 y.kind, .bool y.crit, .bool y.lst, .slice B bn bc, .slice C cn cc] 47 (0, 0))
  x14 : v.heap[p14]? = some (.cells #[.int .i64 y.kind, .bool y.crit, .bool y.lst, .slice D bn dc, .slice E cn ec] 47 (0, 0))
  i3 : Its v (Fr w2.heap.size v) (m + 1) A3 n3 c3 P
  i4 : Its v (fun _ => True) (m + 1) A4 n3 c4 P
  yb : Bs v (Fr w2.heap.size v) B bn bc y.bytes
  yi : Its v (Fr w2.heap.size v) m C cn cc y.items
  zb : Bs v (fun _ => True) D bn dc y.bytes
  zi : Its v (fun _ => True) m E cn ec y.items
theorem Sit.more {w0 w2 : World} {p12 p14 m : Nat} {A3 A4 : Option Addr} {n3 c3 c4 : Nat} {P : List It} {y : It} {B : Option Addr} {bn bc : Nat} {C : Option Addr} {cn cc : Nat} {D : Option Addr} {dc : Nat} {E : Option Addr} {ec : Nat} {v v' : World}
    (h : Sit w0 w2 p12 p14 m A3 A4 n3 c3 c4 P y B bn bc C cn cc D dc E ec v) (hb : Below v.heap.size v v') : Sit w0 w2 p12 p14 m A3 A4 n3 c3 c4 P y B bn bc C cn cc D dc E ec v' :=
  ⟨h.b0.trans (hb.mono h.b0.size), h.b2.trans (hb.mono h.b2.size), Blk5.below h.x12 hb, Blk5.below h.x14 hb, h.i3.fr hb, h.i4.below hb, h.yb.fr hb, h.yi.fr hb, h.zb.stay hb.size (fun b _ hlt => hb.block b hlt), h.zi.below hb⟩

end Go.Proofs.Ythmlcdmlpmbkcaa
