/-
  How an item by value and a slice of ints that came in are opened.
-/
import Derived.Test.YthmlcdmlpmbkcaaTlvOpen
import Derived.Test.YthmlcdmlpmbkcaaTlvPick
import Derived.Lib.SmallJoins
namespace Go.Proofs.Ythmlcdmlpmbkcaa
open Go.Joins Go.ChangeShapes Go.WideShapes Go.ChangeAt Go.RowKit Go.Deep

section
variable {H : Type} {enc : TypeId × Value → H} {W : World} {base : Nat}

/-- An item by value that came in. -/
theorem open_item {v : Value} {d : DataW H} {p : List MemPlace} (hw : ∀ x ∈ d.weights Try.prog 47, x ≤ reachBytes) (hv : Value.okWide Try.prog W .any base 47 v)
    (h : DataW.Trod enc Try.prog W 0 (fun _ => true) true 47 v d p) : ∃ (x : It) (B : Option Addr) (bn bc : Nat) (C : Option Addr) (cn cc : Nat), v = .agg #[.int .i64 x.kind, .bool x.crit, .bool x.lst, .slice B bn bc, .slice C cn cc] ∧
      (Lit.int .i64 x.kind).wf = true ∧ Bs W (fun _ => True) B bn bc x.bytes ∧ (∃ m, Its W (fun _ => True) m C cn cc x.items) := by
  obtain ⟨cs, rfl, hsz⟩ := okWide_struct Try.underlying47 hv
  obtain ⟨cs⟩ := cs
  match cs, hsz.trans cells47 with
  | [v0, v1, v2, v3, v4], _ =>
    obtain ⟨fuel, hf0⟩ := h
    obtain ⟨ys, n1, hn1, hys, _, hyl, hf⟩ := DataW.trod_struct Try.underlying47 hf0
    match ys, hyl with
    | [y0, y1, y2, y3, y4], _ =>
      have f0 : DataW.trod enc Try.prog W 0 (fun _ => true) true n1 3 [v0] = some y0 := by simpa [Value.cells, cellsI] using hf 0 _ rfl
      have f1 : DataW.trod enc Try.prog W 0 (fun _ => true) true n1 4 [v1] = some y1 := by simpa [Value.cells, cellsB] using hf 1 _ rfl
      have f2 : DataW.trod enc Try.prog W 0 (fun _ => true) true n1 4 [v2] = some y2 := by simpa [Value.cells, cellsB] using hf 2 _ rfl
      have f3 : DataW.trod enc Try.prog W 0 (fun _ => true) true n1 26 [v3] = some y3 := by simpa [Value.cells, cellsS8] using hf 3 _ rfl
      have f4 : DataW.trod enc Try.prog W 0 (fun _ => true) true n1 22 [v4] = some y4 := by simpa [Value.cells, cellsSI] using hf 4 _ rfl
      simp only [Prod.mk.injEq] at hys
      have hwe : d.weights Try.prog 47 = DataW.weightsEach Try.prog [3, 4, 4, 26, 22] [y0.1, y1.1, y2.1, y3.1, y4.1] := by
        rw [hys.1]
        simp [DataW.weights, Try.underlying47]
      rw [hwe] at hw
      obtain ⟨kd, rfl, _, hkw⟩ := trod_int1 Try.underlying3 f0
      obtain ⟨cr, rfl⟩ := trod_bool1 Try.underlying4 f1
      obtain ⟨ls, rfl⟩ := trod_bool1 Try.underlying4 f2
      obtain ⟨B, bn, bc, zs, rfl, hb⟩ := bytes_in f3 fun x hx => hw x (DataW.weights_mem_each (j := 3) rfl rfl x hx)
      obtain ⟨C, cn, cc, i, rfl, hi, _⟩ := its_in n1 f4 fun x hx => hw x (DataW.weights_mem_each (j := 4) rfl rfl x hx)
      exact ⟨.mk kd cr ls zs i, B, bn, bc, C, cn, cc, rfl, hkw, hb, n1, hi⟩

theorem cellsInt : Try.prog.cellsOf 3 = 1 := by kernel_rfl

/-- A slice of ints that came in. -/
theorem open_si {v : Value} {d : DataW H} {p : List MemPlace} (hv : Value.okWide Try.prog W .any base 43 v)
    (h : DataW.Trod enc Try.prog W 0 (fun _ => true) true 43 v d p) : ∃ A n c ks, v = .slice A n c ∧ Si W A n ks := by
  obtain ⟨A, n, c, rfl⟩ := okWide_slice Try.underlying43 hv
  obtain ⟨fuel, hf⟩ := h
  rcases open_ints Try.underlying43 Try.underlying3 cellsInt hf with ⟨hcs, _⟩ | ⟨a, len, cap, zs, hcs, _, hl, _, hz, hx, hcell, hwz⟩
  · simp [Value.cells] at hcs
    obtain ⟨rfl, rfl, rfl⟩ := hcs
    exact ⟨none, 0, 0, [], rfl, rfl, (fun k hk => by cases hk), fun h => absurd h (by omega)⟩
  · simp [Value.cells] at hcs
    obtain ⟨rfl, rfl, rfl⟩ := hcs
    have hzl : zs.length = c := by simpa using hz
    have hlen : (zs.take n).length = n := by simp; omega
    refine ⟨some a, n, c, zs.take n, rfl, hlen, fun k hk => hwz k (List.mem_of_mem_take hk), fun hn => ⟨a, rfl, ?_, fun k hk => ?_⟩⟩
    · have h0 := hcell 0 (by omega)
      have := World.block_lt_of_cell? W _ h0
      rwa [addBlock] at this
    · rw [hcell k (by omega), getD_lt (by omega), getD_lt (by omega)]
      simp
end

end Go.Proofs.Ythmlcdmlpmbkcaa
