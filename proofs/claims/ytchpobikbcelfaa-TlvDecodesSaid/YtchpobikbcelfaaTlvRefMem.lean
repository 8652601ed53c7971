/-
  What the reference's list keeps in memory: the row of items so far, the reader in its box.
-/
import Derived.Test.YtchpobikbcelfaaTlvDec
import Derived.Test.YtchpobikbcelfaaTlvApp
import Derived.Test.YtchpobikbcelfaaTlvFree
import Derived.Test.YtchpobikbcelfaaTlvRead
import Derived.Test.YtchpobikbcelfaaRefVar
import Derived.Test.YtchpobikbcelfaaRefText
namespace Go.Proofs.Ytchpobikbcelfaa
open Go.RowKit

/-- A row of items of the call's own, beside the box bx. -/
structure LRow (w : World) (base bx d : Nat) (A : Option Addr) (m c : Nat) (l : List It) (xs : List Value) : Prop where
  own : w.ownsRow base 47 5 (.slice A m c) m xs
  ne : A.map (·.block) ≠ some bx
  row : RowP (Its w (fun b => base ≤ b ∧ b ≠ bx ∧ A.map (·.block) ≠ some b) d) w (fun b => base ≤ b ∧ b ≠ bx ∧ A.map (·.block) ≠ some b) l xs
section
variable {w w' : World} {base bx d : Nat} {A : Option Addr} {m c : Nat} {l : List It} {xs : List Value}

theorem LRow.len (h : LRow w base bx d A m c l xs) : l.length = m := by
  have h1 := h.row.len
  have h2 := h.own.1
  omega
/-- All but the box stays. -/
theorem LRow.move (h : LRow w base bx d A m c l xs) (hs : w.heap.size ≤ w'.heap.size) (hk : ∀ b, b ≠ bx → b < w.heap.size → w'.heap[b]? = w.heap[b]?) : LRow w' base bx d A m c l xs := by
  refine ⟨⟨h.own.1, ?_⟩, h.ne, h.row.imp (fun _ _ _ _ hb => hb.stay hs fun b hb hlt => hk b hb.2.1 hlt) (fun _ _ _ _ hi => hi.stay hs fun b hb hlt => hk b hb.2.1 hlt)⟩
  rcases h.own.2 with h5 | ⟨g, cap, cur, hv, hb, hg, h6⟩
  · exact .inl h5
  · refine .inr ⟨g, cap, cur, hv, hb, (hk g (fun e => ?_) (lt_of_block hg)).trans hg, h6⟩
    injection hv with hA
    exact h.ne (by rw [hA, ← e]; rfl)
theorem LRow.below (h : LRow w base bx d A m c l xs) (hb : Below w.heap.size w w') : LRow w' base bx d A m c l xs := h.move hb.size fun b _ hlt => hb.block b hlt
theorem LRow.snoc {A' : Option Addr} {c' : Nat} (h : LRow w base bx d A m c l xs) {x : It} {B : Option Addr} {bn bc : Nat} {C : Option Addr} {cn cc : Nat} (hbx : bx < w.heap.size)
    (hb : Bs w (fun b => base ≤ b ∧ b ≠ bx ∧ A.map (·.block) ≠ some b) B bn bc x.bytes) (hi : Its w (fun b => base ≤ b ∧ b ≠ bx ∧ A.map (·.block) ≠ some b) d C cn cc x.items)
    (ho : w'.ownsRow base 47 5 (.slice A' (m + 1) c') (m + 1) (xs ++ x.cs B bn bc C cn cc)) (hg : w.grownBy w' (Value.slice A m c).ownBlock)
    (hw : A'.map (·.block) = (Value.slice A m c).ownBlock ∨ A'.map (·.block) = some w.heap.size) : LRow w' base bx d A' (m + 1) c' (l ++ [x]) (xs ++ x.cs B bn bc C cn cc) := by
  rw [ownBlock_map] at hg hw
  have hk : ∀ b, (base ≤ b ∧ b ≠ bx ∧ A.map (·.block) ≠ some b) → b < w.heap.size → w'.heap[b]? = w.heap[b]? ∧ base ≤ b ∧ b ≠ bx ∧ A'.map (·.block) ≠ some b := fun b hb hlt => by
    have e := hg.block b hlt fun e => hb.2.2 e.symm
    refine ⟨e, hb.1, hb.2.1, fun e2 => ?_⟩
    rcases hw with hw | hw
    · rw [hw] at e2; exact hb.2.2 e2
    · rw [hw] at e2; injection e2 with e2; omega
  refine ⟨ho, fun e => ?_, RowP.snoc (h.row.imp (fun _ _ _ _ hb => hb.move hg.size hk) (fun _ _ _ _ hi => hi.move hg.size hk)) (hb.move hg.size hk) (hi.move hg.size hk)⟩
  rcases hw with hw | hw
  · rw [hw] at e; exact h.ne e
  · rw [hw] at e; injection e with e; omega
theorem LRow.its (h : LRow w base bx d A m c l xs) : Its w (fun b => base ≤ b) (d + 1) A m c l := by
  obtain ⟨_, c2, e, hle, hmax⟩ := own_shape h.own
  injection e with _ _ e
  subst e
  refine ⟨h.len, hle, hmax, fun hn => ?_⟩
  rcases h.own.2 with ⟨h1, h2⟩ | ⟨g, cap, cur, hv, hb, hg, _⟩
  · omega
  · injection hv with hA _ hc
    subst hA
    refine ⟨⟨g, 0, none⟩, xs, rfl, hb, lt_of_block hg, h.row.imp (fun _ _ _ _ hb => hb.mono fun b h _ => h.1) (fun _ _ _ _ hi => hi.mono fun b h _ => h.1), ?_⟩
    exact h.own.cells (g := g) rfl
end

/-- What list leaves. -/
def LPost (w : World) (d : Nat) (q : DR) (e : Ending) (w' : World) : Prop :=
  Below w.heap.size w w' ∧ match q with
  | .bad _ E => ∃ c' : Int, e = .returned (.tuple #[.slice none 0 0, .int .i64 c', .int .i64 E])
  | .ok c l => ∃ A n cap, e = .returned (.tuple #[.slice A n cap, .int .i64 c, .int .i64 0]) ∧ Its w' (fun b => w.heap.size ≤ b) (d + 1) A n cap l

/-- The world within the loop: the reader in its box stands at a; the row. -/
structure LInv (w : World) (d : Nat) (A : Option Addr) (n c a : Nat) (A9 : Option Addr) (m c9 : Nat) (acc : List It) (xs : List Value) (wr : World) : Prop where
  box : wr.heap[w.heap.size + 1]? = some (.cells #[.slice A n c, .int .i64 a, .int .i64 0] 78 (0, 0))
  bel : Below w.heap.size w wr
  row : LRow wr w.heap.size (w.heap.size + 1) d A9 m c9 acc xs
theorem LInv.below {w : World} {d : Nat} {A : Option Addr} {n c a : Nat} {A9 : Option Addr} {m c9 : Nat} {acc : List It} {xs : List Value} {wr w' : World} (h : LInv w d A n c a A9 m c9 acc xs wr) (hb : Below wr.heap.size wr w') : LInv w d A n c a A9 m c9 acc xs w' :=
  ⟨(hb.block _ (lt_of_block h.box)).trans h.box, h.bel.trans (hb.mono h.bel.size), h.row.below hb⟩

/-- The box written over. -/
def put3 (w : World) (b : Nat) (v0 v1 v2 : Value) : World := ((w.setCell ⟨b, 0, none⟩ v0).setCell ⟨b, 1, none⟩ v1).setCell ⟨b, 2, none⟩ v2
section
variable {w : World} {b : Nat} {v0 v1 v2 : Value}

theorem put3_blk {u0 u1 u2 : Value} {t : TypeId} (h : w.heap[b]? = some (.cells #[u0, u1, u2] t (0, 0))) : (put3 w b v0 v1 v2).heap[b]? = some (.cells #[v0, v1, v2] t (0, 0)) := by
  have e0 := heap_setCell_same w b 0 _ t v0 h
  have e1 := heap_setCell_same _ b 1 _ t v1 e0
  have e2 := heap_setCell_same _ b 2 _ t v2 e1
  exact e2
theorem put3_other {k : Nat} (hk : k ≠ b) : (put3 w b v0 v1 v2).heap[k]? = w.heap[k]? := by
  unfold put3
  rw [heap_setCell_other _ _ _ _ hk, heap_setCell_other _ _ _ _ hk, heap_setCell_other _ _ _ _ hk]
theorem put3_size : (put3 w b v0 v1 v2).heap.size = w.heap.size := by unfold put3; simp
theorem put3_below {w0 : World} {N : Nat} (h : Below N w0 w) (hb : N ≤ b) : Below N w0 (put3 w b v0 v1 v2) := ((h.setCell hb _).setCell hb _).setCell hb _
end

/-- The reader moved on. -/
theorem LInv.put {w : World} {d : Nat} {A : Option Addr} {n c a : Nat} {A9 : Option Addr} {m c9 : Nat} {acc : List It} {xs : List Value} {wr : World} (h : LInv w d A n c a A9 m c9 acc xs wr) (a' : Nat) :
    LInv w d A n c a' A9 m c9 acc xs (put3 wr (w.heap.size + 1) (.slice A n c) (.int .i64 a') (.int .i64 0)) :=
  ⟨put3_blk h.box, put3_below h.bel (Nat.le_succ _), h.row.move (Nat.le_of_eq put3_size.symm) fun _ hb _ => put3_other hb⟩

end Go.Proofs.Ytchpobikbcelfaa
