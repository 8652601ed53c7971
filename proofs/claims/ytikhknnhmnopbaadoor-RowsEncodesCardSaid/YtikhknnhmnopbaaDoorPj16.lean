/-
  Part 16 of what the laws of emul want: GridSm, EmulRefScr, ProjScreen.
-/
import Derived.Test.YtikhknnhmnopbaaDoorPj05
import Derived.Test.YtikhknnhmnopbaaDoorPj10
import Derived.Test.YtikhknnhmnopbaaDoorPj11
import Derived.Test.YtikhknnhmnopbaaDoorPj12
import Derived.Test.YtikhknnhmnopbaaDoorPj15
namespace Go.Proofs.YtikhknnhmnopbaaDoor
open Go.RowKit
theorem two_new (w : World) (c r : Int) (A : Option Addr) (n k : Nat) (c' r' : Int) (A' : Option Addr) (n' k' : Nat) :
  G3 ((w.alloc (.cells (gV c r A n k) 61)).alloc (.cells (gV c' r' A' n' k') 61)) w.heap.size c r A n k ∧
  G3 ((w.alloc (.cells (gV c r A n k) 61)).alloc (.cells (gV c' r' A' n' k') 61)) (w.heap.size + 1) c' r' A' n' k' ∧
  Below w.heap.size w ((w.alloc (.cells (gV c r A n k) 61)).alloc (.cells (gV c' r' A' n' k') 61)) := by
 have h2 := g3_new (w.alloc (.cells (gV c r A n k) 61)) c' r' A' n' k' 61
 rw [alloc_size] at h2
 exact ⟨(g3_new w c r A n k 61).below (below1 _ _), h2, (below1 w _).alloc (below1 w _).size _⟩
set_option maxHeartbeats 1600000 in
theorem sameG_any {w : World} {A A' : Option Addr} {n n' k k' : Nat} {c r c' r' : Int} {L L' : List Ce} (h : Vs ceV w A n L) (h' : Vs ceV w A' n' L') (hn : n ≤ 1000000) (hn' : n' ≤ 9223372036854775807) {B : Bool} (hB : decide (c = c' ∧ r = r' ∧ L = L') = B) :
  Calls Tryd.prog 28 #[.agg (gV c r A n k), .agg (gV c' r' A' n' k')] w fun e w' => e = .returned (.bool B) ∧ Below w.heap.size w w' := by
 obtain ⟨w0, hw0⟩ : ∃ w0, w0 = (w.alloc (.cells (gV c r A n k) 61)).alloc (.cells (gV c' r' A' n' k') 61) := ⟨_, rfl⟩
 obtain ⟨b, hbe⟩ : ∃ b, b = w.heap.size := ⟨_, rfl⟩
 have H := Lib.hid (show G3 w0 b c r A n k ∧ G3 w0 (b + 1) c' r' A' n' k' ∧ Below w.heap.size w w0 ∧ Vs ceV w0 A n L ∧ Vs ceV w0 A' n' L' from by
  obtain ⟨h1, h2, h3⟩ := two_new w c r A n k c' r' A' n' k'
  rw [hw0, hbe]
  exact ⟨h1, h2, h3, h.below h3, h'.below h3⟩)
 clear h h'
 obtain ⟨c0, c1, c2, _⟩ := H.out.1
 obtain ⟨d0, d1, d2, _⟩ := H.out.2.1
 unfold gV at hw0
 by_cases e1 : c = c'
 · subst e1
   by_cases e2 : r = r'
   · subst e2
     obtain ⟨B2, hB2⟩ : ∃ B2, decide (L = L') = B2 := ⟨_, rfl⟩
     have HB := Lib.hid (show B2 = B from by rw [← hB, ← hB2]; simp)
     have HB2 := Lib.hid hB2
     clear hB hB2
     go_enter Tryd.func28, Tryd.ntmps28
     unfold gV
     go_upto_region 1 with fail
     rw [← hw0, ← hbe]
     clear hw0 hbe
     go_wp2_with fail
     refine (sameC_any H.out.2.2.2.1 H.out.2.2.2.2 hn hn').mono ?_
     rintro e w1 ⟨rfl, q, rfl⟩
     rw [HB2.out]
     clear c0 c1 c2 d0 d1 d2
     go_wp2_with fail
     go_ret
     exact ⟨by rw [HB.out]; rfl, belowN H.out.2.2.1 q⟩
   · have HB := Lib.hid (show B = false from by rw [← hB]; simp [e2])
     have e3 : (r == r') = false := by simpa using e2
     clear hB
     go_enter Tryd.func28, Tryd.ntmps28
     unfold gV
     go_upto_region 1 with fail
     rw [← hw0, ← hbe]
     clear hw0 hbe
     go_wp2_with fail
     go_ret
     exact ⟨by rw [HB.out]; rfl, H.out.2.2.1⟩
 · have HB := Lib.hid (show B = false from by rw [← hB]; simp [e1])
   have e3 : (c == c') = false := by simpa using e1
   clear hB
   go_enter Tryd.func28, Tryd.ntmps28
   unfold gV
   go_upto_region 1 with fail
   rw [← hw0, ← hbe]
   clear hw0 hbe
   go_wp2_with fail
   go_ret
   exact ⟨by rw [HB.out]; rfl, H.out.2.2.1⟩
open Go.RowKit
theorem sL_inj {a b : ByteArray} (h : sL a = sL b) : a = b := by
 apply ByteArray.ext
 rw [← Array.toList_inj]
 have hf : Function.Injective (fun b : UInt8 => (b.toNat : Int)) := fun a b e => UInt8.toNat_inj.1 (Int.ofNat.inj e)
 exact (List.map_inj_right fun x y e => hf e).1 h
section
variable {w : World} {s s' : ScR} {S : Sc}
theorem ScIn.alike (h : ScIn w s S) (k : ScIn w s' S) : ∃ A n q T m p, s' = { s with A := A, n := n, k := q, T := T, m := m, q := p } := by
 obtain ⟨c, r, A, n, kk, x, y, hid, mo, ttl, T, m, q⟩ := s
 obtain ⟨c', r', A', n', kk', x', y', hid', mo', ttl', T', m', q'⟩ := s'
 have e1 := h.c.symm.trans k.c
 have e2 := h.r.symm.trans k.r
 have e3 := h.x.symm.trans k.x
 have e4 := h.y.symm.trans k.y
 have e5 := h.hid.symm.trans k.hid
 have e6 := h.mouse.symm.trans k.mouse
 have e7 := sL_inj (h.ttl.symm.trans k.ttl)
 simp only at e1 e2 e3 e4 e5 e6 e7
 subst e1 e2 e3 e4 e5 e6 e7
 exact ⟨A', n', kk', T', m', q', rfl⟩
set_option maxHeartbeats 6400000 in
set_option maxRecDepth 100000 in
theorem refSameS_any (h : ScIn w s S) (k : ScIn w s' S) (hn : s.n ≤ 60000) (hn' : s'.n ≤ 60000) (hm : s.m ≤ 60000) (hm' : s'.m ≤ 60000) :
  Calls Tryd.prog 16 #[.agg (scrA s), .agg (scrA s')] w fun e w' => e = .returned (.bool true) ∧ Below w.heap.size w w' := by
 obtain ⟨A, n, q, T, m, p, rfl⟩ := h.alike k
 obtain ⟨b, hb⟩ : ∃ b, b = w.heap.size := ⟨_, rfl⟩
 obtain ⟨w1, hw1⟩ : ∃ w1, w1 = w.alloc (.cells (scrA s) 25) := ⟨_, rfl⟩
 obtain ⟨w2, hw2⟩ : ∃ w2, w2 = w1.alloc (.cells (scrA { s with A := A, n := n, k := q, T := T, m := m, q := p }) 25) := ⟨_, rfl⟩
 have h1 : Below w.heap.size w w1 := by rw [hw1]; exact (Below.refl _ _).alloc (Nat.le_refl _) _
 have h12 : Below w1.heap.size w1 w2 := by rw [hw2]; exact (Below.refl _ _).alloc (Nat.le_refl _) _
 have hsz : w1.heap.size = b + 1 := by rw [hw1, hb]; simp
 have H2 := Lib.hid (show ScC w2 b s ∧ ScC w2 (b + 1) { s with A := A, n := n, k := q, T := T, m := m, q := p } ∧ Below w.heap.size w w2 from ⟨by
  have := ScC.new w s
  rw [← hw1, ← hb] at this
  exact this.below h12, by
  have := ScC.new w1 { s with A := A, n := n, k := q, T := T, m := m, q := p }
  rw [← hw2, hsz] at this
  exact this, h1.trans (h12.mono h1.size)⟩)
 have HB := Lib.hid (show b < w2.heap.size ∧ b + 1 < w2.heap.size from ⟨H2.out.1.lt, H2.out.2.1.lt⟩)
 have HI := Lib.hid (And.intro (h.below H2.out.2.2) (k.below H2.out.2.2))
 replace hn' : n ≤ 60000 := hn'
 replace hm' : m ≤ 60000 := hm'
 have HLT := Lib.hid (sameT_any (A' := T) (n' := m) (c := s.q) (c' := p) HI.out.1.links HI.out.2.links (by omega) (by omega))
 rw [decide_eq_true rfl] at HLT
 have HG := Lib.hid (fun w' (hb' : Below w2.heap.size w2 w') => sameG_any (A' := A) (n' := n) (c := 0) (r := 0) (c' := 0) (r' := 0) (k := s.k) (k' := q) (HI.out.1.cells.below hb') (HI.out.2.cells.below hb') (by omega) (by omega) (B := true) (decide_eq_true ⟨rfl, rfl, rfl⟩))
 clear h k hn hn' hm hm' h1 h12
 obtain ⟨a0, a1, a2, a3, a4, a5, a6, a7, a8, _⟩ := H2.out.1
 obtain ⟨d0, d1, d2, d3, d4, d5, d6, d7, d8, _⟩ := H2.out.2.1
 have S8 := Lib.hid (show ∀ w', Below w2.heap.size w2 w' → w'.cell? ⟨b, 2, none⟩ = some (.slice s.A s.n s.k) ∧ w'.cell? ⟨b + 1, 2, none⟩ = some (.slice A n q) from fun w' hb' => ⟨(hb'.cell (p := ⟨b, 2, none⟩) HB.out.1).trans H2.out.1.c2, (hb'.cell (p := ⟨b + 1, 2, none⟩) HB.out.2).trans H2.out.2.1.c2⟩)
 unfold scrA at hw1 hw2 ⊢
 simp only at hw2 d0 d1 d2 d3 d4 d5 d6 d7 d8 ⊢
 unfold gV at HG
 go_enter Tryd.func16, Tryd.ntmps16
 go_upto_region 1 with fail
 rw [← hw1, ← hw2, ← hb]
 clear hw1 hw2 hb hsz
 go_wp2_with fail
 refine HLT.out.mono fun e1 w3 ⟨hE, q1, hw3⟩ => ?_
 subst hE
 have h3 : Below w2.heap.size w2 w3 ∧ True := ⟨by rw [hw3]; exact belowN (Below.refl _ _) q1, trivial⟩
 clear hw3
 obtain ⟨e2, f2⟩ := S8.out _ h3.1
 have HG' := HG.out _ h3.1
 clear HG
 go_wp2_with fail
 refine HG'.mono fun e4 w4 ⟨hE, h4⟩ => ?_
 subst hE
 go_wp2_with fail
 go_ret
 exact ⟨rfl, H2.out.2.2.trans ((h3.1.trans (h4.mono h3.1.size)).mono H2.out.2.2.size)⟩
def scN : ScR := ⟨0, 0, none, 0, 0, 0, 0, false, 0, ⟨#[]⟩, none, 0, 0⟩
def scF (s : ScR) : List Value := [.int .i64 s.c, .int .i64 s.r, .slice s.A s.n s.k, .int .i64 s.x, .int .i64 s.y, .bool s.hid, .int .u8 s.mouse, .string s.ttl, .slice s.T s.m s.q]
theorem scF_len (s : ScR) : (scF s).length = 9 := rfl
theorem one_sc (L : List ScR) : ∀ v ∈ rowV scF L, v.oneCell' = true := by
 induction L with
 | nil => intro v hv; cases hv
 | cons c L ih =>
  intro v hv
  simp only [rowV, List.mem_append] at hv
  rcases hv with hv | hv
  · simp only [scF, List.mem_cons, List.not_mem_nil, or_false] at hv
    rcases hv with rfl | rfl | rfl | rfl | rfl | rfl | rfl | rfl | rfl <;> rfl
  · exact ih v hv
abbrev Sx (w : World) (g : Nat) (s : ScR) : Prop := Rw scF 25 w g [s]
theorem Sx.new (w : World) (s : ScR) : Sx (w.alloc (.cells (scrA s) 25)) w.heap.size s := made_rw (f := scF) w 25 [s]
theorem sx_cells {w : World} {g : Nat} {s : ScR} (h : Sx w g s) : ScC w g s :=
 ⟨h.cell (j := 0) rfl, h.cell (j := 1) rfl, h.cell (j := 2) rfl, h.cell (j := 3) rfl, h.cell (j := 4) rfl, h.cell (j := 5) rfl, h.cell (j := 6) rfl, h.cell (j := 7) rfl, h.cell (j := 8) rfl, h.lt⟩
theorem sx_setA {w : World} {g : Nat} {s : ScR} (h : Sx w g s) (A : Option Addr) (n k : Nat) : Sx (w.setCell ⟨g, 2, none⟩ (.slice A n k)) g { s with A := A, n := n, k := k } := by
 obtain ⟨r, h⟩ := h
 exact ⟨r, by rw [heap_setCell_same w g 2 _ _ _ h]; rfl⟩
theorem sx_setT {w : World} {g : Nat} {s : ScR} (h : Sx w g s) (A : Option Addr) (n k : Nat) : Sx (w.setCell ⟨g, 8, none⟩ (.slice A n k)) g { s with T := A, m := n, q := k } := by
 obtain ⟨r, h⟩ := h
 exact ⟨r, by rw [heap_setCell_same w g 8 _ _ _ h]; rfl⟩
set_option maxHeartbeats 6400000 in
set_option maxRecDepth 100000 in
theorem refCopyS_any (h : ScIn w s S) (hn : s.n ≤ 60000) (hm : s.m ≤ 60000) :
  Calls Tryd.prog 8 #[.agg (scrA s)] w fun e w' => Below w.heap.size w w' ∧ ∃ s' : ScR, e = .returned (.agg (scrA s')) ∧ ScIn w' s' S ∧ s'.n = s.n ∧ s'.m = s.m := by
 obtain ⟨b, hb⟩ : ∃ b, b = w.heap.size := ⟨_, rfl⟩
 have HB := Lib.hid hb
 have H := Lib.hid h
 obtain ⟨w2, hw2⟩ : ∃ w2, w2 = ((w.alloc (.cells #[.int .i64 s.c, .int .i64 s.r, .slice s.A s.n s.k, .int .i64 s.x, .int .i64 s.y, .bool s.hid, .int .u8 s.mouse, .string s.ttl, .slice s.T s.m s.q] 25)).alloc (.cells #[.int .i64 0, .int .i64 0, .slice none 0 0, .int .i64 0, .int .i64 0, .bool false, .int .u8 0, .string ⟨#[]⟩, .slice none 0 0] 25)) := ⟨_, rfl⟩
 have H0 := Lib.hid (show Sx w2 b s ∧ Sx w2 (b + 1) scN ∧ Below w.heap.size w w2 ∧ w2.heap.size = b + 2 from by
  have h1 := Sx.new w s
  have h2 := Sx.new (w.alloc (.cells (scrA s) 25)) scN
  rw [World.size_alloc] at h2
  rw [hb, hw2]
  exact ⟨h1.below ((Below.refl _ _).alloc (Nat.le_refl _) _), h2, ((Below.refl _ _).alloc (Nat.le_refl _) _).alloc (by simp) _, by simp⟩)
 clear h
 unfold scrA
 go_enter Tryd.func8, Tryd.ntmps8
 go_upto_region 1 with fail
 rw [← hw2, ← hb]
 clear hw2 hb
 have HI := Lib.hid ((H.out.cells.below H0.out.2.2.1).below ((Below.refl _ _).alloc (Nat.le_refl _) (.cells #[] 51)))
 obtain ⟨_, _, p2, _⟩ := sx_cells H0.out.1
 have f2 := H0.out.1.free 2
 go_upto_region 2 with (at_builtin; refine wpList_app_V _ rfl _ _ 22 rfl ceV_len one_ce w2.heap.size 51 _ 20 (by omega) Tryd.underlying22 infoCe3 rfl (by omega) (.slice (some ⟨w2.heap.size, 0, none⟩) 0 0) 0 [] rfl (World.ownsRow_lit w2 #[] 0 (Nat.le_refl _) (by unfold maxLen; omega) rfl) s.A s.n s.k s.n (by omega) S.cells rfl HI.out (by omega) (by simp) ?_; intro P3 cp3 w3 hown hg3; simp only [List.nil_append] at hown; have H3 := Lib.hid (show Sx w3 b s ∧ Sx w3 (b + 1) scN ∧ Below w2.heap.size w2 w3 ∧ Vs ceV w3 P3 s.n S.cells ∧ s.n ≤ cp3 ∧ ∀ ad, P3 = some ad → w2.heap.size ≤ ad.block from by
  have hb3 : Below w2.heap.size w2 w3 := ((Below.refl _ _).alloc (Nat.le_refl _) _).grown hg3 (by simp) (fun k hk => by have : w2.heap.size = k := (by simpa [Value.ownBlock] using hk); omega)
  obtain ⟨A9, c9, e9, l1, l2⟩ := own_shape hown
  injection e9 with _ _ e9
  subst e9
  exact ⟨H0.out.1.below hb3, H0.out.2.1.below hb3, hb3, own_vs H.out.cells.len hown, l1, own_ge hown⟩); clear hown hg3 p2 f2; obtain ⟨_, _, p2, _⟩ := sx_cells H3.out.1; have f2 := H3.out.1.free 2)
 obtain ⟨w4, hw4⟩ : ∃ w4, w4 = w3.setCell ⟨b, 2, none⟩ (.slice P3 s.n cp3) := ⟨_, rfl⟩
 rw [← hw4]
 have H4 := Lib.hid (show Sx w4 b { s with A := P3, n := s.n, k := cp3 } ∧ Sx w4 (b + 1) scN ∧ Below w.heap.size w w4 ∧ Vs ceV w4 P3 s.n S.cells ∧ s.n ≤ cp3 ∧ b + 2 ≤ w4.heap.size ∧ (∀ ad, P3 = some ad → b + 2 ≤ ad.block) from by
  obtain ⟨k1, k2, k3, k4, k5, k7⟩ := H3.out
  have hs2 := H0.out.2.2.2
  have hbw := HB.out
  have hz3 := k3.size
  have hg4 : w3.grownBy w4 (some b) := by rw [hw4]; exact grownBy_set w3 ⟨b, 2, none⟩ _
  have hz4 := hg4.size
  have hbl : Below w.heap.size w w4 := (H0.out.2.2.1.trans (k3.mono (by omega))).grown hg4 (by omega) (fun k hk => by injection hk with hk; omega)
  exact ⟨by rw [hw4]; exact sx_setA k1 _ _ _, k2.grown hg4 (fun e => by injection e with e; omega), hbl, k4.grown hg4 (fun ad e _ e2 => by injection e2 with e2; have := k7 ad e; omega), k5, by omega, fun ad e => by have := k7 ad e; omega⟩)
 clear H3 hw4 p2 f2 HI
 have HI := Lib.hid ((H.out.links.below H4.out.2.2.1).below ((Below.refl _ _).alloc (Nat.le_refl _) (.cells #[] 9)))
 obtain ⟨_, _, _, _, _, _, _, _, p8, _⟩ := sx_cells H4.out.1
 have f8 := H4.out.1.free 8
 simp only at p8
 go_upto_region 3 with (at_builtin; refine wpList_app_V _ rfl _ _ 23 rfl stV_len one_st w4.heap.size 9 _ 16 (by omega) Tryd.underlying23 infoTx rfl (by omega) (.slice (some ⟨w4.heap.size, 0, none⟩) 0 0) 0 [] rfl (World.ownsRow_lit w4 #[] 0 (Nat.le_refl _) (by unfold maxLen; omega) rfl) s.T s.m s.q s.m (by omega) S.links rfl HI.out (by omega) (by simp) ?_; intro P5 cp5 w5 hown hg5; simp only [List.nil_append] at hown; have H5 := Lib.hid (show Sx w5 b { s with A := P3, n := s.n, k := cp3 } ∧ Sx w5 (b + 1) scN ∧ Below w4.heap.size w4 w5 ∧ Vs stV w5 P5 s.m S.links ∧ s.m ≤ cp5 ∧ ∀ ad, P5 = some ad → w4.heap.size ≤ ad.block from by
  have hb5 : Below w4.heap.size w4 w5 := ((Below.refl _ _).alloc (Nat.le_refl _) _).grown hg5 (by simp) (fun k hk => by have : w4.heap.size = k := (by simpa [Value.ownBlock] using hk); omega)
  obtain ⟨A9, c9, e9, l1, l2⟩ := own_shape hown
  injection e9 with _ _ e9
  subst e9
  exact ⟨H4.out.1.below hb5, H4.out.2.1.below hb5, hb5, own_vs H.out.links.len hown, l1, own_ge hown⟩); clear hown hg5 p8 f8; obtain ⟨_, _, _, _, _, _, _, _, p8, _⟩ := sx_cells H5.out.1; have f8 := H5.out.1.free 8; simp only at p8)
 obtain ⟨w6, hw6⟩ : ∃ w6, w6 = w5.setCell ⟨b, 8, none⟩ (.slice P5 s.m cp5) := ⟨_, rfl⟩
 rw [← hw6]
 have H6 := Lib.hid (show Sx w6 b { s with A := P3, n := s.n, k := cp3, T := P5, m := s.m, q := cp5 } ∧ Sx w6 (b + 1) scN ∧ Below w.heap.size w w6 ∧ Vs ceV w6 P3 s.n S.cells ∧ Vs stV w6 P5 s.m S.links ∧ s.m ≤ cp5 ∧ (∀ ad, P5 = some ad → b + 2 ≤ ad.block) from by
  obtain ⟨k1, k2, k3, k4, k5, k7⟩ := H5.out
  have hs4 := H4.out.2.2.2.2.2.1
  have hbw := HB.out
  have hz5 := k3.size
  have hg6 : w5.grownBy w6 (some b) := by rw [hw6]; exact grownBy_set w5 ⟨b, 8, none⟩ _
  have hz6 := hg6.size
  have hbl : Below w.heap.size w w6 := (H4.out.2.2.1.trans (k3.mono (by omega))).grown hg6 (by omega) (fun k hk => by injection hk with hk; omega)
  exact ⟨by rw [hw6]; exact sx_setT k1 _ _ _, k2.grown hg6 (fun e => by injection e with e; omega), hbl, (H4.out.2.2.2.1.below k3).grown hg6 (fun ad e _ e2 => by injection e2 with e2; have := H4.out.2.2.2.2.2.2 ad e; omega), k4.grown hg6 (fun ad e _ e2 => by injection e2 with e2; have := k7 ad e; omega), k5, fun ad e => by have := k7 ad e; omega⟩)
 clear H5 hw6 p8 f8 HI
 obtain ⟨p0, p1, p2, p3, p4, p5, p6, p7, p8, _⟩ := sx_cells H6.out.1
 simp only at p0 p1 p2 p3 p4 p5 p6 p7 p8
 go_wp2_with (refine wpList_store_V rfl 25 (.tmp 2) (.tmp 13) rfl scF_len one_sc info56 (b + 1) _ 0 { s with A := P3, n := s.n, k := cp3, T := P5, m := s.m, q := cp5 } _ rfl (by omega) rfl rfl 25 [scN] H6.out.2.1 (by decide) ?_; intro w7 hR7 hg7)
 have H7 := Lib.hid (show ScIn w7 { s with A := P3, n := s.n, k := cp3, T := P5, m := s.m, q := cp5 } S ∧ Below w.heap.size w w7 from by
  obtain ⟨k1, k2, k3, k4, k5, k6, k7⟩ := H6.out
  have hbw := HB.out
  refine ⟨{ H.out with cells := k4.grown hg7 (fun ad e _ e2 => by injection e2 with e2; have := H4.out.2.2.2.2.2.2 ad e; omega), links := k5.grown hg7 (fun ad e _ e2 => by injection e2 with e2; have := k7 ad e; omega), nk := H4.out.2.2.2.2.1, mq := k6 }, k3.grown hg7 k3.size (fun k hk => by injection hk with hk; omega)⟩)
 obtain ⟨y0, y1, y2, y3, y4, y5, y6, y7, y8, _⟩ := sx_cells (s := { s with A := P3, n := s.n, k := cp3, T := P5, m := s.m, q := cp5 }) hR7
 simp only at y0 y1 y2 y3 y4 y5 y6 y7 y8
 exact bodyPost_ret (v := .agg (scrA { s with A := P3, n := s.n, k := cp3, T := P5, m := s.m, q := cp5 })) (by simp [results, Tryd.results8, scrA, go_sem, y0, y1, y2, y3, y4, y5, y6, y7, y8]) rfl ⟨H7.out.2, _, rfl, H7.out.1, rfl, rfl⟩
end
open Go.RowKit
structure S2 (w w1 : World) (b : Nat) (s q : ScR) : Prop where
 b1 : Sx w1 b s
 b2 : Sx w1 (b + 1) q
 bel : Below w.heap.size w w1
 lo : w.heap.size ≤ b
section
variable {w w1 w2 : World} {b : Nat} {s s' q : ScR}
theorem S2.lt (h : S2 w w1 b s q) : b + 2 ≤ w1.heap.size := h.b2.lt
theorem S2.on (h : S2 w w1 b s q) (hb : Below w1.heap.size w1 w2) : S2 w w2 b s q := ⟨h.b1.below hb, h.b2.below hb, h.bel.trans (hb.mono h.bel.size), h.lo⟩
end
theorem zero_in (w : World) : ScIn w scN scZero :=
 ⟨rfl, rfl, rfl, rfl, rfl, rfl, rfl, Vs.nil _ _, Vs.nil _ _, Nat.le_refl _, by show 0 ≤ _; omega, Nat.le_refl _, (fun _ h => by cases h), (fun _ h => by cases h), by show (0 : Nat) ≤ _; omega⟩
theorem zero_own (base : Nat) (w : World) : ScOwn base w scN scZero :=
 ⟨zero_in w, ⟨rfl, Nat.le_refl _, by unfold maxLen; show 0 ≤ _; omega, fun h => absurd h (Nat.lt_irrefl 0)⟩, Tx.nil _ _, by show 0 ≤ _; omega, by show 0 ≤ _; omega⟩
theorem ScOwn.lower {base B : Nat} {w : World} {s : ScR} {S : Sc} (h : ScOwn base w s S) (hB : B ≤ base) : ScOwn B w s S := ⟨h.sc, h.cx.lower hB, h.tx.lower hB, h.n, h.m⟩
theorem ScOwn.grown {base : Nat} {w w' : World} {s : ScR} {S : Sc} (h : ScOwn base w s S) {g : Nat} (hg : w.grownBy w' (some g)) (hl : g < base) : ScOwn base w' s S := by
 have h1 := h.cx.grownP hg (fun hn k e => by obtain ⟨g', e', hb, _⟩ := h.cx.own hn; rw [e] at e'; injection e' with e'; injection e' with e'; intro e2; injection e2 with e2; omega)
 have h2 : Tx base w' s.T s.m s.q S.links := h.tx.grown hg (fun k e e2 => by injection e2 with e2; have := h.tx.ownB k (by rw [e]; rfl); omega)
 exact ⟨{ h.sc with cells := h1.vs, links := h2.vs }, h1, h2, h.n, h.m⟩
end Go.Proofs.YtikhknnhmnopbaaDoor
