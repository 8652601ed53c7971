/-
  The reference's Lay: what it answers, and its first steps.
-/
import Derived.Test.YtappnfifhpmekaaDoorParseCopy
import Derived.Test.YtappnfifhpmekaaDoorParseRefDec
import Derived.Test.YtappnfifhpmekaaDoorUtfRefEnc
import Derived.Deep.CutBlock
namespace Go.Proofs.YtappnfifhpmekaaDoor
open Go.RowKit

/-- What Lay answers: the bytes, or none and the error. -/
def LyPost (a : AcS) (w : World) (e : Ending) (w' : World) : Prop :=
  ∃ A n c, e = .returned (.tuple #[.slice A n c, .int .i64 (if layOk a = true then 0 else 1)]) ∧ Sb w' A n (if layOk a = true then layS a else []) ∧ Below w.heap.size w w'
theorem LyPost.no {a : AcS} (h : layOk a = false) {w w' : World} (hb : Below w.heap.size w w') : LyPost a w (.returned (.tuple #[.slice none 0 0, .int .i64 1])) w' :=
  ⟨none, 0, 0, by rw [h]; rfl, by rw [h]; exact Sb.nil _ _, hb⟩
theorem LyPost.yes {a : AcS} (h : layOk a = true) {w w' : World} {A : Option Addr} {n c : Nat} (hs : Sb w' A n (layS a)) (hb : Below w.heap.size w w') : LyPost a w (.returned (.tuple #[.slice A n c, .int .i64 0])) w' :=
  ⟨A, n, c, by rw [h]; rfl, by rw [h]; exact hs, hb⟩
/-- What an act that came in is. -/
structure AcW (a : AcS) : Prop where
  m0 : 0 ≤ a.m
  m1 : a.m ≤ 255
  f0 : 0 ≤ a.fin
  f1 : a.fin ≤ 255
  tx : U8s a.tx
  ps : ∀ z ∈ a.ps, -9223372036854775808 ≤ z ∧ z ≤ 9223372036854775807
/-- The act in its block, and the block beside it. -/
structure Ly (w : World) (b : Nat) (x : AcR) (w1 : World) : Prop where
  bx : Bx w1 b x
  by_ : Bx w1 (b + 1) ⟨x.a, none, 0, 0, none, 0, 0⟩
  bel : Below w.heap.size w w1
  b0 : w.heap.size = b
  rd0 : RdA w x
theorem Ly.rd {w w1 : World} {b : Nat} {x : AcR} (h : Ly w b x w1) : RdA w1 x := h.rd0.below h.bel
theorem Ly.below {w w1 w2 : World} {b : Nat} {x : AcR} (h : Ly w b x w1) (hb : Below w1.heap.size w1 w2) : Ly w b x w2 := ⟨h.bx.below hb, h.by_.below hb, h.bel.trans (hb.mono h.bel.size), h.b0, h.rd0⟩
theorem ly_grown {w w1 w2 : World} {b : Nat} {x : AcR} {row : Option Nat} (h : Ly w b x w1) (hg : w1.grownBy w2 row) (hr : ∀ k, row = some k → b + 2 ≤ k) : Ly w b x w2 :=
  ⟨h.bx.grown hg (fun e => by have := hr _ e; omega), h.by_.grown hg (fun e => by have := hr _ e; omega), h.bel.grown hg h.bel.size (fun k hk => by have := hr k hk; have := h.b0; omega), h.b0, h.rd0⟩
theorem len0 {l : List Int} {n : Nat} (h : l.length = n) : (n = 0) ↔ l = [] := by rw [← h]; exact List.length_eq_zero_iff
end Go.Proofs.YtappnfifhpmekaaDoor
