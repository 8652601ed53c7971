/-
  Part 15 of what the laws of emul want: GridSm, EmulRefScr, ProjScreen.
-/
import Derived.Deep.CutBlock
import Derived.Test.YtikhknnhmnopbaaGreatDoorPk02
import Derived.Test.YtikhknnhmnopbaaGreatDoorPk04
import Derived.Test.YtikhknnhmnopbaaGreatDoorPk09
import Derived.Test.YtikhknnhmnopbaaGreatDoorPk10
import Derived.Test.YtikhknnhmnopbaaGreatDoorPk11
import Derived.Test.YtikhknnhmnopbaaGreatDoorPk14
namespace Go.Proofs.YtikhknnhmnopbaaGreatDoor
open Go.RowKit
theorem two_new (w : World) (c r : Int) (A : Option Addr) (n k : Nat) (c' r' : Int) (A' : Option Addr) (n' k' : Nat) :
  G3 ((w.alloc (.cells (gV c r A n k) 58)).alloc (.cells (gV c' r' A' n' k') 58)) w.heap.size c r A n k ∧
  G3 ((w.alloc (.cells (gV c r A n k) 58)).alloc (.cells (gV c' r' A' n' k') 58)) (w.heap.size + 1) c' r' A' n' k' ∧
  Below w.heap.size w ((w.alloc (.cells (gV c r A n k) 58)).alloc (.cells (gV c' r' A' n' k') 58)) := by
 have h2 := g3_new (w.alloc (.cells (gV c r A n k) 58)) c' r' A' n' k' 58
 rw [alloc_size] at h2
 exact ⟨(g3_new w c r A n k 58).below (below1 _ _), h2, (below1 w _).alloc (below1 w _).size _⟩
set_option maxHeartbeats 1600000 in
theorem sameG_any {w : World} {A A' : Option Addr} {n n' k k' : Nat} {c r c' r' : Int} {L L' : List Ce} (h : Vs ceV w A n L) (h' : Vs ceV w A' n' L') (hn : n ≤ 1000000) (hn' : n' ≤ 9223372036854775807) {B : Bool} (hB : decide (c = c' ∧ r = r' ∧ L = L') = B) :
  Calls Tryz.prog 23 #[.agg (gV c r A n k), .agg (gV c' r' A' n' k')] w fun e w' => e = .returned (.bool B) ∧ Below w.heap.size w w' := by
 obtain ⟨w0, hw0⟩ : ∃ w0, w0 = (w.alloc (.cells (gV c r A n k) 58)).alloc (.cells (gV c' r' A' n' k') 58) := ⟨_, rfl⟩
 obtain ⟨b, hbe⟩ : ∃ b, b = w.heap.size := ⟨_, rfl⟩
 have H := Lib.hid (show G3 w0 b c r A n k ∧ G3 w0 (b + 1) c' r' A' n' k' ∧ Below w.heap.size w w0 ∧ Vs ceV w0 A n L ∧ Vs ceV w0 A' n' L' from by
  obtain ⟨h1, h2, h3⟩ := two_new w c r A n k c' r' A' n' k'
  rw [hw0, hbe]
  exact ⟨h1, h2, h3, h.below h3, h'.below h3⟩)
 clear h h'
 obtain ⟨c0, c1, c2, _⟩ := H.out.1
 obtain ⟨d0, d1, d2, _⟩ := H.out.2.1
 unfold gV at hw0
 by_cases e1 : c = c'
 · subst e1
   by_cases e2 : r = r'
   · subst e2
     obtain ⟨B2, hB2⟩ : ∃ B2, decide (L = L') = B2 := ⟨_, rfl⟩
     have HB := Lib.hid (show B2 = B from by rw [← hB, ← hB2]; simp)
     have HB2 := Lib.hid hB2
     clear hB hB2
     go_enter Tryz.func23, Tryz.ntmps23
     unfold gV
     go_upto_region 1 with fail
     rw [← hw0, ← hbe]
     clear hw0 hbe
     go_wp2_with fail
     refine (sameC_any H.out.2.2.2.1 H.out.2.2.2.2 hn hn').mono ?_
     rintro e w1 ⟨rfl, q, rfl⟩
     rw [HB2.out]
     clear c0 c1 c2 d0 d1 d2
     go_wp2_with fail
     go_ret
     exact ⟨by rw [HB.out]; rfl, belowN H.out.2.2.1 q⟩
   · have HB := Lib.hid (show B = false from by rw [← hB]; simp [e2])
     have e3 : (r == r') = false := by simpa using e2
     clear hB
     go_enter Tryz.func23, Tryz.ntmps23
     unfold gV
     go_upto_region 1 with fail
     rw [← hw0, ← hbe]
     clear hw0 hbe
     go_wp2_with fail
     go_ret
     exact ⟨by rw [HB.out]; rfl, H.out.2.2.1⟩
 · have HB := Lib.hid (show B = false from by rw [← hB]; simp [e1])
   have e3 : (c == c') = false := by simpa using e1
   clear hB
   go_enter Tryz.func23, Tryz.ntmps23
   unfold gV
   go_upto_region 1 with fail
   rw [← hw0, ← hbe]
   clear hw0 hbe
   go_wp2_with fail
   go_ret
   exact ⟨by rw [HB.out]; rfl, H.out.2.2.1⟩
open Go.RowKit
theorem sL_inj {a b : ByteArray} (h : sL a = sL b) : a = b := by
 apply ByteArray.ext
 rw [← Array.toList_inj]
 have hf : Function.Injective (fun b : UInt8 => (b.toNat : Int)) := fun a b e => UInt8.toNat_inj.1 (Int.ofNat.inj e)
 exact (List.map_inj_right fun x y e => hf e).1 h
section
variable {w : World} {s s' : ScR} {S : Sc}
theorem ScIn.alike (h : ScIn w s S) (k : ScIn w s' S) : ∃ A n q T m p, s' = { s with A := A, n := n, k := q, T := T, m := m, q := p } := by
 obtain ⟨c, r, A, n, kk, x, y, hid, mo, ttl, T, m, q⟩ := s
 obtain ⟨c', r', A', n', kk', x', y', hid', mo', ttl', T', m', q'⟩ := s'
 have e1 := h.c.symm.trans k.c
 have e2 := h.r.symm.trans k.r
 have e3 := h.x.symm.trans k.x
 have e4 := h.y.symm.trans k.y
 have e5 := h.hid.symm.trans k.hid
 have e6 := h.mouse.symm.trans k.mouse
 have e7 := sL_inj (h.ttl.symm.trans k.ttl)
 simp only at e1 e2 e3 e4 e5 e6 e7
 subst e1 e2 e3 e4 e5 e6 e7
 exact ⟨A', n', kk', T', m', q', rfl⟩
set_option maxHeartbeats 6400000 in
set_option maxRecDepth 100000 in
theorem refSameS_any (h : ScIn w s S) (k : ScIn w s' S) (hn : s.n ≤ 60000) (hn' : s'.n ≤ 60000) (hm : s.m ≤ 60000) (hm' : s'.m ≤ 60000) :
  Calls Tryz.prog 11 #[.agg (scrA s), .agg (scrA s')] w fun e w' => e = .returned (.bool true) ∧ Below w.heap.size w w' := by
 obtain ⟨A, n, q, T, m, p, rfl⟩ := h.alike k
 obtain ⟨b, hb⟩ : ∃ b, b = w.heap.size := ⟨_, rfl⟩
 obtain ⟨w1, hw1⟩ : ∃ w1, w1 = w.alloc (.cells (scrA s) 25) := ⟨_, rfl⟩
 obtain ⟨w2, hw2⟩ : ∃ w2, w2 = w1.alloc (.cells (scrA { s with A := A, n := n, k := q, T := T, m := m, q := p }) 25) := ⟨_, rfl⟩
 have h1 : Below w.heap.size w w1 := by rw [hw1]; exact (Below.refl _ _).alloc (Nat.le_refl _) _
 have h12 : Below w1.heap.size w1 w2 := by rw [hw2]; exact (Below.refl _ _).alloc (Nat.le_refl _) _
 have hsz : w1.heap.size = b + 1 := by rw [hw1, hb]; simp
 have H2 := Lib.hid (show ScC w2 b s ∧ ScC w2 (b + 1) { s with A := A, n := n, k := q, T := T, m := m, q := p } ∧ Below w.heap.size w w2 from ⟨by
  have := ScC.new w s
  rw [← hw1, ← hb] at this
  exact this.below h12, by
  have := ScC.new w1 { s with A := A, n := n, k := q, T := T, m := m, q := p }
  rw [← hw2, hsz] at this
  exact this, h1.trans (h12.mono h1.size)⟩)
 have HB := Lib.hid (show b < w2.heap.size ∧ b + 1 < w2.heap.size from ⟨H2.out.1.lt, H2.out.2.1.lt⟩)
 have HI := Lib.hid (And.intro (h.below H2.out.2.2) (k.below H2.out.2.2))
 replace hn' : n ≤ 60000 := hn'
 replace hm' : m ≤ 60000 := hm'
 have HLT := Lib.hid (sameT_any (A' := T) (n' := m) (c := s.q) (c' := p) HI.out.1.links HI.out.2.links (by omega) (by omega))
 rw [decide_eq_true rfl] at HLT
 have HG := Lib.hid (fun w' (hb' : Below w2.heap.size w2 w') => sameG_any (A' := A) (n' := n) (c := 0) (r := 0) (c' := 0) (r' := 0) (k := s.k) (k' := q) (HI.out.1.cells.below hb') (HI.out.2.cells.below hb') (by omega) (by omega) (B := true) (decide_eq_true ⟨rfl, rfl, rfl⟩))
 clear h k hn hn' hm hm' h1 h12
 obtain ⟨a0, a1, a2, a3, a4, a5, a6, a7, a8, _⟩ := H2.out.1
 obtain ⟨d0, d1, d2, d3, d4, d5, d6, d7, d8, _⟩ := H2.out.2.1
 have S8 := Lib.hid (show ∀ w', Below w2.heap.size w2 w' → w'.cell? ⟨b, 2, none⟩ = some (.slice s.A s.n s.k) ∧ w'.cell? ⟨b + 1, 2, none⟩ = some (.slice A n q) from fun w' hb' => ⟨(hb'.cell (p := ⟨b, 2, none⟩) HB.out.1).trans H2.out.1.c2, (hb'.cell (p := ⟨b + 1, 2, none⟩) HB.out.2).trans H2.out.2.1.c2⟩)
 unfold scrA at hw1 hw2 ⊢
 simp only at hw2 d0 d1 d2 d3 d4 d5 d6 d7 d8 ⊢
 unfold gV at HG
 go_enter Tryz.func11, Tryz.ntmps11
 go_upto_region 1 with fail
 rw [← hw1, ← hw2, ← hb]
 clear hw1 hw2 hb hsz
 go_wp2_with fail
 refine HLT.out.mono fun e1 w3 ⟨hE, q1, hw3⟩ => ?_
 subst hE
 have h3 : Below w2.heap.size w2 w3 ∧ True := ⟨by rw [hw3]; exact belowN (Below.refl _ _) q1, trivial⟩
 clear hw3
 obtain ⟨e2, f2⟩ := S8.out _ h3.1
 have HG' := HG.out _ h3.1
 clear HG
 go_wp2_with fail
 refine HG'.mono fun e4 w4 ⟨hE, h4⟩ => ?_
 subst hE
 go_wp2_with fail
 go_ret
 exact ⟨rfl, H2.out.2.2.trans ((h3.1.trans (h4.mono h3.1.size)).mono H2.out.2.2.size)⟩
def scN : ScR := ⟨0, 0, none, 0, 0, 0, 0, false, 0, ⟨#[]⟩, none, 0, 0⟩
def scF (s : ScR) : List Value := [.int .i64 s.c, .int .i64 s.r, .slice s.A s.n s.k, .int .i64 s.x, .int .i64 s.y, .bool s.hid, .int .u8 s.mouse, .string s.ttl, .slice s.T s.m s.q]
theorem scF_len (s : ScR) : (scF s).length = 9 := rfl
theorem one_sc (L : List ScR) : ∀ v ∈ rowV scF L, v.oneCell' = true := by
 induction L with
 | nil => intro v hv; cases hv
 | cons c L ih =>
  intro v hv
  simp only [rowV, List.mem_append] at hv
  rcases hv with hv | hv
  · simp only [scF, List.mem_cons, List.not_mem_nil, or_false] at hv
    rcases hv with rfl | rfl | rfl | rfl | rfl | rfl | rfl | rfl | rfl <;> rfl
  · exact ih v hv
abbrev Sx (w : World) (g : Nat) (s : ScR) : Prop := Rw scF 25 w g [s]
theorem Sx.new (w : World) (s : ScR) : Sx (w.alloc (.cells (scrA s) 25)) w.heap.size s := made_rw (f := scF) w 25 [s]
theorem sx_cells {w : World} {g : Nat} {s : ScR} (h : Sx w g s) : ScC w g s :=
 ⟨h.cell (j := 0) rfl, h.cell (j := 1) rfl, h.cell (j := 2) rfl, h.cell (j := 3) rfl, h.cell (j := 4) rfl, h.cell (j := 5) rfl, h.cell (j := 6) rfl, h.cell (j := 7) rfl, h.cell (j := 8) rfl, h.lt⟩
end
open Go.RowKit
structure S2 (w w1 : World) (b : Nat) (s q : ScR) : Prop where
 b1 : Sx w1 b s
 b2 : Sx w1 (b + 1) q
 bel : Below w.heap.size w w1
 lo : w.heap.size ≤ b
section
variable {w w1 w2 : World} {b : Nat} {s s' q : ScR}
theorem S2.lt (h : S2 w w1 b s q) : b + 2 ≤ w1.heap.size := h.b2.lt
theorem S2.on (h : S2 w w1 b s q) (hb : Below w1.heap.size w1 w2) : S2 w w2 b s q := ⟨h.b1.below hb, h.b2.below hb, h.bel.trans (hb.mono h.bel.size), h.lo⟩
end
theorem zero_in (w : World) : ScIn w scN scZero :=
 ⟨rfl, rfl, rfl, rfl, rfl, rfl, rfl, Vs.nil _ _, Vs.nil _ _, Nat.le_refl _, by show 0 ≤ _; omega, Nat.le_refl _, (fun _ h => by cases h), (fun _ h => by cases h), by show (0 : Nat) ≤ _; omega⟩
theorem zero_own (base : Nat) (w : World) : ScOwn base w scN scZero :=
 ⟨zero_in w, ⟨rfl, Nat.le_refl _, by unfold maxLen; show 0 ≤ _; omega, fun h => absurd h (Nat.lt_irrefl 0)⟩, Tx.nil _ _, by show 0 ≤ _; omega, by show 0 ≤ _; omega⟩
theorem ScOwn.lower {base B : Nat} {w : World} {s : ScR} {S : Sc} (h : ScOwn base w s S) (hB : B ≤ base) : ScOwn B w s S := ⟨h.sc, h.cx.lower hB, h.tx.lower hB, h.n, h.m⟩
theorem ScOwn.grown {base : Nat} {w w' : World} {s : ScR} {S : Sc} (h : ScOwn base w s S) {g : Nat} (hg : w.grownBy w' (some g)) (hl : g < base) : ScOwn base w' s S := by
 have h1 := h.cx.grownP hg (fun hn k e => by obtain ⟨g', e', hb, _⟩ := h.cx.own hn; rw [e] at e'; injection e' with e'; injection e' with e'; intro e2; injection e2 with e2; omega)
 have h2 : Tx base w' s.T s.m s.q S.links := h.tx.grown hg (fun k e e2 => by injection e2 with e2; have := h.tx.ownB k (by rw [e]; rfl); omega)
 exact ⟨{ h.sc with cells := h1.vs, links := h2.vs }, h1, h2, h.n, h.m⟩
end Go.Proofs.YtikhknnhmnopbaaGreatDoor
