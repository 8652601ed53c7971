/-
  Slices of whole numbers of any kind: what they read as, and how one that came in is opened.
-/
import Derived.Test.YtbjgjhhombalpaaOpen
namespace Go.Proofs.Ytbjgjhhombalpaa
open Go.ChangeShapes Go.WideShapes Go.ChangeAt Go.RowKit

/-- A slice of n numbers at the address A reads as zs. Of a slice without elements nothing is asked. -/
structure Ik (q : IntKind) (w : World) (A : Option Addr) (n : Nat) (zs : List Int) : Prop where
  len : zs.length = n
  at_ : 0 < n → ∃ ad, A = some ad ∧ ad.block < w.heap.size ∧ ∀ k, k < n → w.cell? (ad.add k) = some (.int q (zs.getD k 0))
section
variable {q : IntKind} {w w' : World} {A : Option Addr} {n : Nat} {zs : List Int}

theorem Ik.nil (q : IntKind) (w : World) (A : Option Addr) : Ik q w A 0 [] := ⟨rfl, fun h => absurd h (by omega)⟩
theorem Ik.keep (h : Ik q w A n zs) (hs : w.heap.size ≤ w'.heap.size) (hk : ∀ p : Addr, 0 < n → A.map (·.block) = some p.block → p.block < w.heap.size → w'.cell? p = w.cell? p) : Ik q w' A n zs :=
  ⟨h.len, fun hn => by
    obtain ⟨ad, rfl, hb, hc⟩ := h.at_ hn
    exact ⟨ad, rfl, by omega, fun k hkn => (hk (ad.add k) hn (by simp [addBlock]) (by rw [addBlock]; exact hb)).trans (hc k hkn)⟩⟩
theorem Ik.below (h : Ik q w A n zs) (hb : Below w.heap.size w w') : Ik q w' A n zs := h.keep hb.size fun _ _ _ hp => hb.cell hp
theorem Ik.grown (h : Ik q w A n zs) {row : Option Nat} (hg : w.grownBy w' row) (hne : ∀ ad, A = some ad → 0 < n → row ≠ some ad.block) : Ik q w' A n zs :=
  h.keep hg.size fun p hn hA hp => World.cell?_of_block (hg.block p.block hp (fun e => by
    cases A with
    | none => simp at hA
    | some ad => simp at hA; exact hne ad rfl hn (by rw [← e, hA])))
end

theorem bytes16 : Try.prog.bytesOf 31 = 2 := by kernel_rfl
theorem cells16 : Try.prog.cellsOf 31 = 1 := by kernel_rfl

/-- A slice of numbers of 16 bits that came in. -/
theorem open_u16s {H : Type} {enc : TypeId × Value → H} {W : World} {base : Nat} {v : Value} {d : DataW H} {p : List MemPlace} (hv : Value.okWide Try.prog W .any base 25 v)
    (h : DataW.Trod enc Try.prog W 0 (fun _ => true) true 25 v d p) :
    ∃ A n c zs, v = .slice A n c ∧ Ik .u16 W A n zs ∧ (∀ z ∈ zs, 0 ≤ z ∧ z ≤ 65535) ∧ (n ≤ c ∧ c ≤ maxLen) := by
  obtain ⟨A, n, c, rfl⟩ := okWide_slice Try.underlying25 hv
  obtain ⟨fuel, hf⟩ := h
  rcases open_ints Try.underlying25 Try.underlying31 cells16 hf with ⟨hcs, _⟩ | ⟨a, len, cap, zs, hcs, _, hl, hm, hz, hx, hcell, hwz⟩
  · simp [Value.cells] at hcs
    obtain ⟨rfl, rfl, rfl⟩ := hcs
    exact ⟨none, 0, 0, [], rfl, Ik.nil _ _ _, (fun _ h => by simp at h), Nat.le_refl _, by unfold maxLen; omega⟩
  · simp [Value.cells] at hcs
    obtain ⟨rfl, rfl, rfl⟩ := hcs
    have hzl : zs.length = c := by simpa using hz
    have hlen : (zs.take n).length = n := by simp; omega
    refine ⟨some a, n, c, zs.take n, rfl, ⟨hlen, fun hn => ⟨a, rfl, ?_, fun k hk => ?_⟩⟩, fun z hz => ?_, hl, hm⟩
    · have h0 := hcell 0 (by omega)
      have := World.block_lt_of_cell? W _ h0
      rwa [addBlock] at this
    · rw [hcell k (by omega), getD_lt (by omega), getD_lt (by omega)]
      simp
    · exact bounds_u16 (hwz z (List.mem_of_mem_take hz))
end Go.Proofs.Ytbjgjhhombalpaa
