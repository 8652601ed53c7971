/-
  Acts in memory: a row of records, each with a slice of numbers and a slice of bytes elsewhere.
-/
import Derived.Test.YtappnfifhpmekaaDoorParseSpec
import Derived.Test.YtappnfifhpmekaaDoorRecs
import Derived.Test.YtappnfifhpmekaaDoorIntsApp
namespace Go.Proofs.YtappnfifhpmekaaDoor
open Go.RowKit

/-- An act, and where its numbers and its text lie. -/
structure AcR where
  a : AcS
  P : Option Addr
  np : Nat
  cp : Nat
  T : Option Addr
  nt : Nat
  ct : Nat
def acV (x : AcR) : List Value := [.int .i64 x.a.k, .int .i32 x.a.r, .int .u8 x.a.m, .int .u8 x.a.fin, .slice x.P x.np x.cp, .slice x.T x.nt x.ct]
def acA (x : AcR) : Array Value := #[.int .i64 x.a.k, .int .i32 x.a.r, .int .u8 x.a.m, .int .u8 x.a.fin, .slice x.P x.np x.cp, .slice x.T x.nt x.ct]
theorem acV_len (x : AcR) : (acV x).length = 6 := rfl
theorem one_ac (L : List AcR) : ∀ v ∈ rowV acV L, v.oneCell' = true := by
  induction L with
  | nil => intro v hv; cases hv
  | cons c L ih =>
    intro v hv
    rcases List.mem_append.1 hv with hv | hv
    · simp only [acV, List.mem_cons, List.not_mem_nil, or_false] at hv
      rcases hv with rfl | rfl | rfl | rfl | rfl | rfl <;> rfl
    · exact ih v hv
/-- What its slices read as. -/
structure RdA (w : World) (x : AcR) : Prop where
  p : Ik .i64 w x.P x.np x.a.ps
  t : Sb w x.T x.nt x.a.tx
  lp : x.np ≤ x.cp
  mp : x.cp ≤ maxLen
  lt : x.nt ≤ x.ct
  mt : x.ct ≤ maxLen
theorem RdA.below {w w' : World} {x : AcR} (h : RdA w x) (hb : Below w.heap.size w w') : RdA w' x := ⟨h.p.below hb, h.t.below hb, h.lp, h.mp, h.lt, h.mt⟩
/-- A slice of acts reads as L. -/
structure Ats (w : World) (A : Option Addr) (n : Nat) (R : List AcR) : Prop where
  row : Vs acV w A n R
  rd : ∀ x ∈ R, RdA w x
theorem Ats.below {w w' : World} {A : Option Addr} {n : Nat} {R : List AcR} (h : Ats w A n R) (hb : Below w.heap.size w w') : Ats w' A n R := ⟨h.row.below hb, fun x hx => (h.rd x hx).below hb⟩
def acts (R : List AcR) : List AcS := R.map (·.a)
theorem acts_len (R : List AcR) : (acts R).length = R.length := by simp [acts]
theorem acts_get {R : List AcR} {k : Nat} {x : AcR} (h : R[k]? = some x) : (acts R)[k]? = some x.a := by simp [acts, h]
theorem addStepP (ad : Addr) (j : Nat) : ad.add (j + 1) = ⟨ad.block, ad.off + (j + 1), none⟩ := rfl
theorem addZeroP (ad : Addr) : ad.add 0 = ad := rfl
/-- The six cells of an act at a place. -/
structure Sxa (w : World) (ad : Addr) (x : AcR) : Prop where
  c0 : w.cell? ad = some (.int .i64 x.a.k)
  c1 : w.cell? ⟨ad.block, ad.off + 1, none⟩ = some (.int .i32 x.a.r)
  c2 : w.cell? ⟨ad.block, ad.off + 2, none⟩ = some (.int .u8 x.a.m)
  c3 : w.cell? ⟨ad.block, ad.off + 3, none⟩ = some (.int .u8 x.a.fin)
  c4 : w.cell? ⟨ad.block, ad.off + 4, none⟩ = some (.slice x.P x.np x.cp)
  c5 : w.cell? ⟨ad.block, ad.off + 5, none⟩ = some (.slice x.T x.nt x.ct)
theorem Vs.sxa {w : World} {ad : Addr} {n : Nat} {L : List AcR} (h : Vs acV w (some ad) n L) {k : Nat} {x : AcR} (hk : L[k]? = some x) : Sxa w (ad.add (k * 6)) x := by
  have h1 := h.get acV_len hk
  exact ⟨by simpa [addZeroP] using h1 0 _ rfl, by simpa [addStepP] using h1 1 _ rfl, by simpa [addStepP] using h1 2 _ rfl, by simpa [addStepP] using h1 3 _ rfl, by simpa [addStepP] using h1 4 _ rfl, by simpa [addStepP] using h1 5 _ rfl⟩
/-- An act in a block of its own. -/
structure Sxb (w : World) (b : Nat) (x : AcR) : Prop where
  lt : b < w.heap.size
  c0 : w.cell? ⟨b, 0, none⟩ = some (.int .i64 x.a.k)
  c1 : w.cell? ⟨b, 1, none⟩ = some (.int .i32 x.a.r)
  c2 : w.cell? ⟨b, 2, none⟩ = some (.int .u8 x.a.m)
  c3 : w.cell? ⟨b, 3, none⟩ = some (.int .u8 x.a.fin)
  c4 : w.cell? ⟨b, 4, none⟩ = some (.slice x.P x.np x.cp)
  c5 : w.cell? ⟨b, 5, none⟩ = some (.slice x.T x.nt x.ct)
theorem Sxb.new (w : World) (x : AcR) (t : TypeId) : Sxb (w.alloc (.cells (acA x) t)) w.heap.size x := by
  have hb := heap_alloc_new w (.cells (acA x) t)
  refine ⟨by simp, ?_, ?_, ?_, ?_, ?_, ?_⟩ <;> rw [cell_of_row _ _ _ _ _ _ hb] <;> rfl
theorem Sxb.below {w w' : World} {b : Nat} {x : AcR} (h : Sxb w b x) (hb : Below w.heap.size w w') : Sxb w' b x := by
  have hl := h.lt
  exact ⟨by have := hb.size; omega, (hb.cell hl).trans h.c0, (hb.cell hl).trans h.c1, (hb.cell hl).trans h.c2, (hb.cell hl).trans h.c3, (hb.cell hl).trans h.c4, (hb.cell hl).trans h.c5⟩
end Go.Proofs.YtappnfifhpmekaaDoor
