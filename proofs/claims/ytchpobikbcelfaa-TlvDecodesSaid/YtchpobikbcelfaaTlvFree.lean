/-
  Blocks that can be written; items kept where the kind of blocks speaks of the world.
-/
import Derived.Test.YtchpobikbcelfaaTlvMem
namespace Go.Proofs.Ytchpobikbcelfaa
open Go.RowKit

/-- No cell of the block is frozen. -/
def Free (w : World) (b : Nat) : Prop := ∀ k, w.frozen? ⟨b, k, none⟩ = false
theorem free_block {w w' : World} {b : Nat} (h : Free w b) (hb : w'.heap[b]? = w.heap[b]?) : Free w' b := fun k => by
  have h1 := h k
  unfold World.frozen? at h1 ⊢
  simp only [hb]
  exact h1
theorem free_own {w : World} {base g n cp : Nat} {e : TypeId} {size : Nat} {xs : List Value} (h : w.ownsRow base e size (.slice (some ⟨g, 0, none⟩) n cp) n xs) : Free w g := by
  rcases h.2 with ⟨h1, _⟩ | ⟨g', cap, cur, hv, hb, hg, _⟩
  · cases h1
  · injection hv with hA _ hc
    injection hA with hA
    injection hA with hA
    subst hA
    exact item_free hg
theorem free_own' {w : World} {base n cp : Nat} {ad : Addr} {e : TypeId} {size : Nat} {xs : List Value} (h : w.ownsRow base e size (.slice (some ad) n cp) n xs) : Free w ad.block := by
  rcases h.2 with ⟨h1, _⟩ | ⟨g', cap, cur, hv, hb, hg, _⟩
  · cases h1
  · injection hv with hA _ hc
    injection hA with hA
    subst hA
    exact item_free hg

/-- Kept, where the kind of blocks speaks of the world. -/
theorem Bs.move {w w' : World} {S S' : Nat → Prop} {B : Option Addr} {bn bc : Nat} {zs : List Int} (h : Bs w S B bn bc zs) (hs : w.heap.size ≤ w'.heap.size) (hk : ∀ b, S b → b < w.heap.size → w'.heap[b]? = w.heap[b]? ∧ S' b) : Bs w' S' B bn bc zs :=
  (h.mono (S' := fun b => S' b ∧ w'.heap[b]? = w.heap[b]?) fun b hb hlt => ⟨(hk b hb hlt).2, (hk b hb hlt).1⟩).stay hs (fun _ hb _ => hb.2) |>.mono fun _ hb _ => hb.1
theorem Its.move {w w' : World} {S S' : Nat → Prop} {d : Nat} {A : Option Addr} {n c : Nat} {l : List It} (h : Its w S d A n c l) (hs : w.heap.size ≤ w'.heap.size) (hk : ∀ b, S b → b < w.heap.size → w'.heap[b]? = w.heap[b]? ∧ S' b) : Its w' S' d A n c l :=
  (h.mono (S' := fun b => S' b ∧ w'.heap[b]? = w.heap[b]?) fun b hb hlt => ⟨(hk b hb hlt).2, (hk b hb hlt).1⟩).stay hs (fun _ hb _ => hb.2) |>.mono fun _ hb _ => hb.1

end Go.Proofs.Ytchpobikbcelfaa
