/-
  How the calls of the first statement of layer 5 are opened: a slice of pairs of a flag and a number.
-/
import Derived.Test.YtkmobiggcehpbaaGuardRefTake
import Derived.Deep.Fields
namespace Go.Proofs.Ytkmobiggcehpbaa
open Go.ChangeShapes Go.WideShapes Go.ChangeAt Go.RowKit Go.Deep

theorem opCells : Try.prog.cellsOf 31 = 2 := by kernel_rfl
theorem opCellsB : Try.prog.cellsOf 4 = 1 := by kernel_rfl
theorem opCells64 : Try.prog.cellsOf 29 = 1 := by kernel_rfl

/-- n pairs at the address A. -/
def OpsAt (w : World) (A : Option Addr) (n : Nat) : Prop :=
  0 < n → ∃ ad, A = some ad ∧ ad.block < w.heap.size ∧ ∀ k, k < n → ∃ (b : Bool) (z : Int), 0 ≤ z ∧ z ≤ 18446744073709551615 ∧ w.cell? (ad.add (k * 2)) = some (.bool b) ∧ w.cell? ⟨(ad.add (k * 2)).block, (ad.add (k * 2)).off + 1, none⟩ = some (.int .u64 z)

/-- A slice of such pairs that came in. -/
theorem open_ops {H : Type} {enc : TypeId × Value → H} {W : World} {base : Nat} {v : Value} {d : DataW H} {p : List MemPlace} (hv : Value.okWide Try.prog W .any base 22 v)
    (h : DataW.Trod enc Try.prog W 0 (fun _ => true) true 22 v d p) : ∃ A n c, v = .slice A n c ∧ OpsAt W A n ∧ n ≤ c ∧ c ≤ maxLen := by
  obtain ⟨A, n, c, rfl⟩ := okWide_slice Try.underlying22 hv
  obtain ⟨fuel, hf⟩ := h
  rcases DataW.trod_slice Try.underlying22 hf with ⟨hcs, _⟩ | ⟨a, len, cap, elems, rest, n0, hm0, hcs, hx, _, hl, hm, hlen, hel, _, _⟩
  · simp [Value.cells] at hcs
    obtain ⟨rfl, rfl, rfl⟩ := hcs
    exact ⟨none, 0, 0, rfl, fun h => absurd h (by omega), Nat.le_refl _, by unfold maxLen; omega⟩
  · simp [Value.cells] at hcs
    obtain ⟨rfl, rfl, rfl⟩ := hcs
    rw [opCells] at hel
    have hat : ∀ k, k < n → ∃ (b : Bool) (z : Int), 0 ≤ z ∧ z ≤ 18446744073709551615 ∧ W.cell? (a.add (k * 2)) = some (.bool b) ∧ W.cell? ⟨(a.add (k * 2)).block, (a.add (k * 2)).off + 1, none⟩ = some (.int .u64 z) := by
      intro k hk
      obtain ⟨el, hek⟩ : ∃ el, elems[k]? = some el := ⟨_, List.getElem?_eq_getElem (by omega)⟩
      have h1 := hel k hk
      rw [hek] at h1
      obtain ⟨cs, hcs1, hcs2⟩ := Option.bind_eq_some_iff.1 h1
      obtain ⟨_, hcl, hcc⟩ := World.cells?_some hcs1
      obtain ⟨ys, n1, hn1, hys, _, hyl, hf⟩ := DataW.trod_struct Try.underlying31 hcs2
      match cs, hcl with
      | [v0, v1], _ =>
        match ys, hyl with
        | [y0, y1], _ =>
          have f0 : DataW.trod enc Try.prog W 0 (fun _ => true) true n1 4 [v0] = some y0 := by simpa [opCellsB] using hf 0 _ rfl
          have f1 : DataW.trod enc Try.prog W 0 (fun _ => true) true n1 29 [v1] = some y1 := by simpa [opCells64] using hf 1 _ rfl
          obtain ⟨b, h2, _⟩ := DataW.trod_bool Try.underlying4 f0
          obtain ⟨z, h3, _, hwz⟩ := DataW.trod_int Try.underlying29 f1
          obtain rfl : v0 = .bool b := by simpa using h2
          obtain rfl : v1 = .int .u64 z := by simpa using h3
          obtain ⟨g1, g2⟩ := bounds_u64 hwz
          exact ⟨b, z, g1, g2, hcc 0 (by omega), hcc 1 (by omega)⟩
    refine ⟨some a, n, c, rfl, fun hn => ⟨a, rfl, ?_, hat⟩, hl, hm⟩
    obtain ⟨b, z, _, _, h0, _⟩ := hat 0 hn
    have := World.block_lt_of_cell? W _ h0
    rwa [addBlock] at this
end Go.Proofs.Ytkmobiggcehpbaa
