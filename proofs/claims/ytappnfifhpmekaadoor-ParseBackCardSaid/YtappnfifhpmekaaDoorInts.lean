/-
  Slices of whole numbers of any kind: what they read as, and how one that came in is opened.
-/
import Derived.Test.YtappnfifhpmekaaDoorOpen
namespace Go.Proofs.YtappnfifhpmekaaDoor
open Go.ChangeShapes Go.WideShapes Go.ChangeAt Go.RowKit

/-- A slice of n numbers at the address A reads as zs. Of a slice without elements nothing is asked. -/
structure Ik (q : IntKind) (w : World) (A : Option Addr) (n : Nat) (zs : List Int) : Prop where
  len : zs.length = n
  at_ : 0 < n → ∃ ad, A = some ad ∧ ad.block < w.heap.size ∧ ∀ k, k < n → w.cell? (ad.add k) = some (.int q (zs.getD k 0))
section
variable {q : IntKind} {w w' : World} {A : Option Addr} {n : Nat} {zs : List Int}

theorem Ik.nil (q : IntKind) (w : World) (A : Option Addr) : Ik q w A 0 [] := ⟨rfl, fun h => absurd h (by omega)⟩
theorem Ik.keep (h : Ik q w A n zs) (hs : w.heap.size ≤ w'.heap.size) (hk : ∀ p : Addr, 0 < n → A.map (·.block) = some p.block → p.block < w.heap.size → w'.cell? p = w.cell? p) : Ik q w' A n zs :=
  ⟨h.len, fun hn => by
    obtain ⟨ad, rfl, hb, hc⟩ := h.at_ hn
    exact ⟨ad, rfl, by omega, fun k hkn => (hk (ad.add k) hn (by simp [addBlock]) (by rw [addBlock]; exact hb)).trans (hc k hkn)⟩⟩
theorem Ik.below (h : Ik q w A n zs) (hb : Below w.heap.size w w') : Ik q w' A n zs := h.keep hb.size fun _ _ _ hp => hb.cell hp
theorem Ik.grown (h : Ik q w A n zs) {row : Option Nat} (hg : w.grownBy w' row) (hne : ∀ ad, A = some ad → 0 < n → row ≠ some ad.block) : Ik q w' A n zs :=
  h.keep hg.size fun p hn hA hp => World.cell?_of_block (hg.block p.block hp (fun e => by
    cases A with
    | none => simp at hA
    | some ad => simp at hA; exact hne ad rfl hn (by rw [← e, hA])))
end
end Go.Proofs.YtappnfifhpmekaaDoor
