/-
  What the closure that reads a list keeps in memory: the row of items so far, what lies within them, the reader.
-/
import Derived.Test.YtchpobikbcelfaaTlvApp
import Derived.Test.YtchpobikbcelfaaTlvFree
import Derived.Test.YtchpobikbcelfaaTlvFirst
namespace Go.Proofs.Ytchpobikbcelfaa
open Go.RowKit

/-- A row of items of the call's own: its cells, and what lies within them, beside the row, behind the block r. -/
structure IRow (w : World) (r d : Nat) (A : Option Addr) (m c : Nat) (l : List It) (xs : List Value) : Prop where
  own : w.ownsRow (r + 1) 47 5 (.slice A m c) m xs
  row : RowP (Its w (fun b => r < b ∧ A.map (·.block) ≠ some b ∧ Free w b) d) w (fun b => r < b ∧ A.map (·.block) ≠ some b ∧ Free w b) l xs
theorem IRow.nil (w : World) (r d : Nat) : IRow w r d none 0 0 [] [] := ⟨World.ownsRow_nil _ _ _ _, rfl⟩
theorem IRow.len {w : World} {r d : Nat} {A : Option Addr} {m c : Nat} {l : List It} {xs : List Value} (h : IRow w r d A m c l xs) : l.length = m := by
  have h1 := h.row.len
  have h2 := h.own.1
  omega
/-- Other memory is made or written. -/
theorem IRow.grown {w w' : World} {r d : Nat} {A : Option Addr} {m c : Nat} {l : List It} {xs : List Value} (h : IRow w r d A m c l xs) {row : Option Nat} (hg : w.grownBy w' row) (hr : ∀ k, row = some k → k ≤ r ∨ w.heap.size ≤ k) : IRow w' r d A m c l xs := by
  have hlt := h.own.lt
  rw [ownBlock_map] at hlt
  have hk : ∀ b, (r < b ∧ A.map (·.block) ≠ some b ∧ Free w b) → b < w.heap.size → w'.heap[b]? = w.heap[b]? ∧ r < b ∧ A.map (·.block) ≠ some b ∧ Free w' b := fun b hb hlt => by
    have e := hg.block b hlt fun e => by
      have := hr b e.symm
      have := hb.1
      omega
    exact ⟨e, hb.1, hb.2.1, free_block hb.2.2 e⟩
  refine ⟨h.own.kept hg ?_, h.row.imp (fun _ _ _ _ hb => hb.move hg.size hk) (fun _ _ _ _ hi => hi.move hg.size hk)⟩
  rw [ownBlock_map]
  cases hA : A.map (·.block) with
  | none => exact .inl rfl
  | some g =>
    right
    intro e
    have h1 := hlt g hA
    have h2 := hr g e.symm
    omega
theorem IRow.below {w w' : World} {r d : Nat} {A : Option Addr} {m c : Nat} {l : List It} {xs : List Value} (h : IRow w r d A m c l xs) (hb : Below w.heap.size w w') : IRow w' r d A m c l xs :=
  h.grown (row := none) (grownBy_below hb) (fun k hk => by cases hk)
/-- One item more has been appended. -/
theorem IRow.snoc {w w' : World} {r d : Nat} {A A' : Option Addr} {m c c' : Nat} {l : List It} {xs : List Value} (h : IRow w r d A m c l xs) {x : It} {B : Option Addr} {bn bc : Nat} {C : Option Addr} {cn cc : Nat}
    (hb : Bs w (fun b => r < b ∧ A.map (·.block) ≠ some b ∧ Free w b) B bn bc x.bytes) (hi : Its w (fun b => r < b ∧ A.map (·.block) ≠ some b ∧ Free w b) d C cn cc x.items)
    (ho : w'.ownsRow (r + 1) 47 5 (.slice A' (m + 1) c') (m + 1) (xs ++ x.cs B bn bc C cn cc)) (hg : w.grownBy w' (Value.slice A m c).ownBlock)
    (hw : A'.map (·.block) = (Value.slice A m c).ownBlock ∨ A'.map (·.block) = some w.heap.size) : IRow w' r d A' (m + 1) c' (l ++ [x]) (xs ++ x.cs B bn bc C cn cc) := by
  rw [ownBlock_map] at hg hw
  have hk : ∀ b, (r < b ∧ A.map (·.block) ≠ some b ∧ Free w b) → b < w.heap.size → w'.heap[b]? = w.heap[b]? ∧ r < b ∧ A'.map (·.block) ≠ some b ∧ Free w' b := fun b hb hlt => by
    have e := hg.block b hlt fun e => hb.2.1 e.symm
    refine ⟨e, hb.1, fun e2 => ?_, free_block hb.2.2 e⟩
    rcases hw with hw | hw
    · rw [hw] at e2; exact hb.2.1 e2
    · rw [hw] at e2; injection e2 with e2; omega
  exact ⟨ho, RowP.snoc (h.row.imp (fun _ _ _ _ hb => hb.move hg.size hk) (fun _ _ _ _ hi => hi.move hg.size hk)) (hb.move hg.size hk) (hi.move hg.size hk)⟩
/-- The row as a list in memory. -/
theorem IRow.its {w : World} {r d : Nat} {A : Option Addr} {m c : Nat} {l : List It} {xs : List Value} (h : IRow w r d A m c l xs) : Its w (fun b => r < b ∧ Free w b) (d + 1) A m c l := by
  obtain ⟨_, c2, e, hle, hmax⟩ := own_shape h.own
  injection e with _ _ e
  subst e
  refine ⟨h.len, hle, hmax, fun hn => ?_⟩
  rcases h.own.2 with ⟨h1, h2⟩ | ⟨g, cap, cur, hv, hb, hg, _⟩
  · omega
  · injection hv with hA _ hc
    subst hA
    refine ⟨⟨g, 0, none⟩, xs, rfl, ⟨hb, item_free hg⟩, lt_of_block hg, h.row.imp (fun _ _ _ _ hb => hb.mono fun b h _ => ⟨h.1, h.2.2⟩) (fun _ _ _ _ hi => hi.mono fun b h _ => ⟨h.1, h.2.2⟩), ?_⟩
    exact h.own.cells (g := g) rfl

end Go.Proofs.Ytchpobikbcelfaa
