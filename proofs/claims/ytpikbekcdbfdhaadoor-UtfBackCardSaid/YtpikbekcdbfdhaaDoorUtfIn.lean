/-
  A slice of runes that came in.
-/
import Derived.Test.YtpikbekcdbfdhaaDoorInts
namespace Go.Proofs.YtpikbekcdbfdhaaDoor
open Go.ChangeShapes Go.WideShapes Go.ChangeAt Go.RowKit

theorem cells32 : Tryd.prog.cellsOf 21 = 1 := by kernel_rfl
theorem open_i32s {H : Type} {enc : TypeId × Value → H} {W : World} {base : Nat} {v : Value} {d : DataW H} {p : List MemPlace} (hv : Value.okWide Tryd.prog W .any base 28 v)
    (h : DataW.Trod enc Tryd.prog W 0 (fun _ => true) true 28 v d p) :
    ∃ A n c zs, v = .slice A n c ∧ Ik .i32 W A n zs ∧ (∀ z ∈ zs, -2147483648 ≤ z ∧ z ≤ 2147483647) ∧ (n ≤ c ∧ c ≤ maxLen) := by
  obtain ⟨A, n, c, rfl⟩ := okWide_slice Tryd.underlying28 hv
  obtain ⟨fuel, hf⟩ := h
  rcases open_ints Tryd.underlying28 Tryd.underlying21 cells32 hf with ⟨hcs, _⟩ | ⟨a, len, cap, zs, hcs, _, hl, hm, hz, hx, hcell, hwz⟩
  · simp [Value.cells] at hcs
    obtain ⟨rfl, rfl, rfl⟩ := hcs
    exact ⟨none, 0, 0, [], rfl, Ik.nil _ _ _, (fun _ h => by simp at h), Nat.le_refl _, by unfold maxLen; omega⟩
  · simp [Value.cells] at hcs
    obtain ⟨rfl, rfl, rfl⟩ := hcs
    have hzl : zs.length = c := by simpa using hz
    have hlen : (zs.take n).length = n := by simp; omega
    refine ⟨some a, n, c, zs.take n, rfl, ⟨hlen, fun hn => ⟨a, rfl, ?_, fun k hk => ?_⟩⟩, fun z hz => ?_, hl, hm⟩
    · have h0 := hcell 0 (by omega)
      have := World.block_lt_of_cell? W _ h0
      rwa [addBlock] at this
    · rw [hcell k (by omega), getD_lt (by omega), getD_lt (by omega)]
      simp
    · exact bounds_i32 (hwz z (List.mem_of_mem_take hz))
end Go.Proofs.YtpikbekcdbfdhaaDoor
