/-
  What a parser's step leaves as it was: all blocks but the parser's own; acts that were told stay, where their slices lie in none of these and in no row of acts.
-/
import Derived.Test.YtappnfifhpmekaaDoorParseMem
import Derived.Test.YtappnfifhpmekaaDoorRecsApp
namespace Go.Proofs.YtappnfifhpmekaaDoor
open Go.RowKit

/-- No row of acts lies there. -/
def NoA (w : World) (q : Nat) : Prop := ∀ cs fr, w.heap[q]? ≠ some (.cells cs 25 fr)
theorem NoA.same {w w' : World} {q : Nat} (h : NoA w q) (he : w'.heap[q]? = w.heap[q]?) : NoA w' q := fun cs fr => by rw [he]; exact h cs fr
/-- An act's slices lie apart from the blocks S. -/
structure Ap (w : World) (S : Nat → Prop) (x : AcR) : Prop where
  p : ∀ ad, x.P = some ad → 0 < x.np → ¬ S ad.block ∧ NoA w ad.block
  t : ∀ ad, x.T = some ad → 0 < x.nt → ¬ S ad.block ∧ NoA w ad.block
/-- All blocks but those of S are as they were. -/
structure Out (B : Nat) (S : Nat → Prop) (w w' : World) : Prop where
  bel : Below B w w'
  keep : ∀ q, q < w.heap.size → ¬ S q → w'.heap[q]? = w.heap[q]?
theorem RdA.move {w w' : World} {S S' : Nat → Prop} {x : AcR} (h : RdA w x) (ha : Ap w S x) (hs : w.heap.size ≤ w'.heap.size) (hk : ∀ q, q < w.heap.size → ¬ S q → NoA w q → w'.heap[q]? = w.heap[q]?) (hS : ∀ q, S' q → S q ∨ w.heap.size ≤ q) : RdA w' x ∧ Ap w' S' x := by
  have one : ∀ (ad : Addr), ad.block < w.heap.size → ¬ S ad.block ∧ NoA w ad.block → w'.heap[ad.block]? = w.heap[ad.block]? ∧ ¬ S' ad.block ∧ NoA w' ad.block := by
    intro ad hl hh
    have he := hk _ hl hh.1 hh.2
    exact ⟨he, fun hq => by rcases hS _ hq with hq | hq; exact hh.1 hq; omega, hh.2.same he⟩
  refine ⟨⟨h.p.keep hs fun p hn hA hp => ?_, h.t.keep hs fun p hn hA hp => ?_, h.lp, h.mp, h.lt, h.mt⟩, ⟨fun ad e hn => ?_, fun ad e hn => ?_⟩⟩
  · cases hP : x.P with
    | none => rw [hP] at hA; cases hA
    | some ad =>
      rw [hP] at hA
      have hA : ad.block = p.block := by injection hA
      exact World.cell?_of_block (by rw [← hA]; exact (one ad (by rw [hA]; exact hp) (ha.p ad hP hn)).1)
  · cases hP : x.T with
    | none => rw [hP] at hA; cases hA
    | some ad =>
      rw [hP] at hA
      have hA : ad.block = p.block := by injection hA
      exact World.cell?_of_block (by rw [← hA]; exact (one ad (by rw [hA]; exact hp) (ha.t ad hP hn)).1)
  · obtain ⟨ad', e', hb, _⟩ := h.p.at_ hn
    obtain rfl : ad = ad' := by rw [e] at e'; injection e'
    exact (one ad hb (ha.p ad e hn)).2
  · obtain ⟨ad', e', hb, _⟩ := h.t.at_ hn
    obtain rfl : ad = ad' := by rw [e] at e'; injection e'
    exact (one ad hb (ha.t ad e hn)).2
/-- A row of acts of the call's own is kept, where its block is. -/
theorem row_same {w w' : World} {base : Nat} {e : TypeId} {size : Nat} {v : Value} {n : Nat} {xs : List Value} (h : w.ownsRow base e size v n xs) (hs : ∀ g, v.ownBlock = some g → w'.heap[g]? = w.heap[g]?) : w'.ownsRow base e size v n xs := by
  refine ⟨h.1, ?_⟩
  rcases h.2 with h1 | ⟨g, cap, cur, hv, hb, hg, hr⟩
  · exact .inl h1
  · exact .inr ⟨g, cap, cur, hv, hb, (hs g (by rw [hv]; rfl)).trans hg, hr⟩
/-- Its block has a row of acts. -/
theorem row_act {w : World} {base : Nat} {size : Nat} {v : Value} {n : Nat} {xs : List Value} (h : w.ownsRow base 25 size v n xs) : ∀ g, v.ownBlock = some g → g < w.heap.size ∧ ¬ NoA w g := by
  intro g hg
  rcases h.2 with ⟨h1, _⟩ | ⟨g', cap, cur, hv, hb, hg', hr⟩
  · rw [h1] at hg; cases hg
  · rw [hv] at hg
    injection hg with hg
    rw [← hg]
    exact ⟨(Array.getElem?_eq_some_iff.1 hg').1, fun hn => hn _ _ hg'⟩
end Go.Proofs.YtappnfifhpmekaaDoor
