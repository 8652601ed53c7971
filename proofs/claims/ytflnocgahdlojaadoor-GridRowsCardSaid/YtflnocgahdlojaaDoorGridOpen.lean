/-
  How grids and calls that came in are opened.
-/
import Derived.Test.YtflnocgahdlojaaDoorCellIn
import Derived.Test.YtflnocgahdlojaaDoorGridDow
namespace Go.Proofs.YtflnocgahdlojaaDoor
open Go.ChangeShapes Go.WideShapes Go.ChangeAt Go.RowKit Go.Deep

theorem cellsGr : Tryd.prog.cellsOf 24 = 3 := by kernel_rfl
theorem cellsSl : Tryd.prog.cellsOf 22 = 1 := by kernel_rfl
theorem cellsOp9 : Tryd.prog.cellsOf 31 = 9 := by kernel_rfl
def op9V (o : Op9) : List Value := [.int .i64 o.k, .int .i64 o.x, .int .i64 o.y, .int .i64 o.n, .int .i32 o.r, .int .u32 o.p.fg, .int .u32 o.p.bg, .int .u8 o.p.st, .int .u16 o.p.lk]
theorem op9V_len (o : Op9) : (op9V o).length = 9 := rfl
theorem rows_in {α : Type} {f : α → List Value} {d0 : Nat} (hf : ∀ a, (f a).length = d0) (hd : 0 < d0) {Q : α → Prop} {H : Type} {enc : TypeId × Value → H} {W : World} {v : Value} {fuel : Nat} {x : DataW H × List MemPlace} (t e : TypeId) (ht : Tryd.prog.underlying t = some (.slice e)) (he : Tryd.prog.cellsOf e = d0)
    (htrod : ∀ (fuel : Nat) (cs : List Value) (x : DataW H × List MemPlace), DataW.trod enc Tryd.prog W 0 (fun _ => true) true fuel e cs = some x → ∃ a : α, cs = f a ∧ Q a)
    (hx : DataW.trod enc Tryd.prog W 0 (fun _ => true) true fuel t [v] = some x) :
    ∃ A n c L, v = .slice A n c ∧ Vs f W A n L ∧ (∀ a ∈ L, Q a) ∧ n ≤ c ∧ c ≤ maxLen := by
  rcases open_slice ht hx with ⟨hcs, _⟩ | ⟨a, n, cap, m, n1, D, Pl, hcs, hb, hl, hm, hmm, _, hi⟩
  · simp at hcs
    subst hcs
    exact ⟨none, 0, 0, [], rfl, Vs.nil _ _, (fun _ h => by cases h), Nat.le_refl _, by unfold maxLen; omega⟩
  · simp at hcs
    subst hcs
    simp only [if_true] at hmm
    subst hmm
    obtain ⟨L, h1, h2, h3⟩ := vs_of hf (w := W) (ad := a) (Q := Q) n fun k hk => by
      obtain ⟨cs', hc, ht'⟩ := hi k (by omega)
      rw [he] at hc
      obtain ⟨_, hcl, hat⟩ := World.cells?_some hc
      obtain ⟨q, e1, hq⟩ := htrod _ _ _ ht'
      refine ⟨q, hq, fun j v hj => ?_⟩
      have hjl : j < d0 := by
        have := (List.getElem?_eq_some_iff.1 hj).1
        rwa [hf] at this
      rw [← Go.Deep.add_add, hat j hjl, e1]
      exact hj
    refine ⟨some a, n, _, L, rfl, ⟨h1, fun hn => ⟨a, rfl, ?_, h3⟩⟩, h2, hl, hm⟩
    have hr : 0 < (rowV f L).length := by rw [rowV_len hf, h1]; exact Nat.mul_pos hn hd
    have h0 := h3 0 _ (List.getElem?_eq_getElem hr)
    have := World.block_lt_of_cell? W _ h0
    rwa [addBlock] at this

section
variable {H : Type} {enc : TypeId × Value → H} {W : World} {base fuel : Nat} {cs : List Value} {x : DataW H × List MemPlace} {v : Value} {d : DataW H} {p : List MemPlace}

theorem trod_op9 (h : DataW.trod enc Tryd.prog W 0 (fun _ => true) true fuel 31 cs = some x) : ∃ o : Op9, cs = op9V o ∧ True := by
  obtain ⟨ys, n1, hn1, hys, hcl, hyl, hf⟩ := DataW.trod_struct Tryd.underlying31 h
  rw [cellsOp9] at hcl
  match cs, hcl with
  | [v0, v1, v2, v3, v4, v5, v6, v7, v8], _ =>
    match ys, hyl with
    | [y0, y1, y2, y3, y4, y5], _ =>
      have f0 : DataW.trod enc Tryd.prog W 0 (fun _ => true) true n1 3 [v0] = some y0 := by simpa [cells_i] using hf 0 _ rfl
      have f1 : DataW.trod enc Tryd.prog W 0 (fun _ => true) true n1 3 [v1] = some y1 := by simpa [cells_i] using hf 1 _ rfl
      have f2 : DataW.trod enc Tryd.prog W 0 (fun _ => true) true n1 3 [v2] = some y2 := by simpa [cells_i] using hf 2 _ rfl
      have f3 : DataW.trod enc Tryd.prog W 0 (fun _ => true) true n1 3 [v3] = some y3 := by simpa [cells_i] using hf 3 _ rfl
      have f4 : DataW.trod enc Tryd.prog W 0 (fun _ => true) true n1 21 [v4] = some y4 := by simpa [cells_i32] using hf 4 _ rfl
      have f5 : DataW.trod enc Tryd.prog W 0 (fun _ => true) true n1 29 [v5, v6, v7, v8] = some y5 := by simpa [cellsPn] using hf 5 _ rfl
      obtain ⟨a, e0, _, _⟩ := DataW.trod_int Tryd.underlying3 f0
      obtain ⟨b, e1, _, _⟩ := DataW.trod_int Tryd.underlying3 f1
      obtain ⟨c, e2, _, _⟩ := DataW.trod_int Tryd.underlying3 f2
      obtain ⟨c', e3, _, _⟩ := DataW.trod_int Tryd.underlying3 f3
      obtain ⟨d, e4, _, _⟩ := DataW.trod_int Tryd.underlying21 f4
      obtain ⟨p, e5⟩ := trod_pen f5
      injection e0 with e0
      injection e1 with e1
      injection e2 with e2
      injection e3 with e3
      injection e4 with e4
      simp only [List.cons.injEq, and_true] at e5
      obtain ⟨e5, e6, e7, e8⟩ := e5
      subst e0 e1 e2 e3 e4 e5 e6 e7 e8
      exact ⟨⟨a, b, c, c', d, p⟩, rfl, trivial⟩
theorem open_op9 (hv : Value.okWide Tryd.prog W .any base 31 v) (h : DataW.Trod enc Tryd.prog W 0 (fun _ => true) true 31 v d p) : ∃ o : Op9, v = .agg (opA9 o) ∧ True := by
  obtain ⟨cs, rfl, _⟩ := okWide_struct Tryd.underlying31 hv
  obtain ⟨fuel, hf⟩ := h
  obtain ⟨q, e, hq⟩ := trod_op9 hf
  obtain ⟨l⟩ := cs
  refine ⟨q, ?_, hq⟩
  rw [show l = _ from e]
  rfl
theorem open_ops9 (hv : Value.okWide Tryd.prog W .any base 52 v) (h : DataW.Trod enc Tryd.prog W 0 (fun _ => true) true 52 v d p) :
    ∃ A n c L, v = .slice A n c ∧ Vs op9V W A n L ∧ n ≤ c ∧ c ≤ maxLen := by
  obtain ⟨A, n, c, L, h1, h2, _, h3⟩ := open_rows (Q := fun _ => True) op9V_len (by omega) _ _ Tryd.underlying52 cellsOp9 (fun _ _ _ ht => trod_op9 ht) hv h
  exact ⟨A, n, c, L, h1, h2, h3⟩
/-- A grid that came in. -/
theorem open_grid (hv : Value.okWide Tryd.prog W .any base 24 v) (h : DataW.Trod enc Tryd.prog W 0 (fun _ => true) true 24 v d p) :
    ∃ (c r : Int) (A : Option Addr) (n k : Nat) (L : List Ce), v = .agg (gV c r A n k) ∧ Vs ceV W A n L ∧ n ≤ k ∧ k ≤ maxLen := by
  obtain ⟨cs, rfl, hsz⟩ := okWide_struct Tryd.underlying24 hv
  obtain ⟨cs⟩ := cs
  match cs, hsz.trans cellsGr with
  | [v0, v1, v2], _ =>
    obtain ⟨fuel, hf0⟩ := h
    obtain ⟨ys, n1, hn1, hys, _, hyl, hf⟩ := DataW.trod_struct Tryd.underlying24 hf0
    match ys, hyl with
    | [y0, y1, y2], _ =>
      have f0 : DataW.trod enc Tryd.prog W 0 (fun _ => true) true n1 3 [v0] = some y0 := by simpa [Value.cells, cells_i] using hf 0 _ rfl
      have f1 : DataW.trod enc Tryd.prog W 0 (fun _ => true) true n1 3 [v1] = some y1 := by simpa [Value.cells, cells_i] using hf 1 _ rfl
      have f2 : DataW.trod enc Tryd.prog W 0 (fun _ => true) true n1 22 [v2] = some y2 := by simpa [Value.cells, cellsSl] using hf 2 _ rfl
      obtain ⟨a, e0, _, _⟩ := DataW.trod_int Tryd.underlying3 f0
      obtain ⟨b, e1, _, _⟩ := DataW.trod_int Tryd.underlying3 f1
      obtain ⟨A, n, c, L, e2, h2, _, h3⟩ := rows_in (Q := fun _ => True) ceV_len (by omega) _ _ Tryd.underlying22 cellsCe (fun _ _ _ ht => (trod_cell ht).elim fun c hc => ⟨c, hc, trivial⟩) f2
      injection e0 with e0
      injection e1 with e1
      subst e0 e1 e2
      exact ⟨a, b, A, n, c, L, rfl, h2, h3⟩
end
end Go.Proofs.YtflnocgahdlojaaDoor
