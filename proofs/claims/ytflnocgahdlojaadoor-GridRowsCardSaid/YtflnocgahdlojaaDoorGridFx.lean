/-
  The chapter's example.
-/
import Derived.Test.YtflnocgahdlojaaDoorGridRow3
import Derived.Test.YtflnocgahdlojaaDoorGridMove
namespace Go.Proofs.YtflnocgahdlojaaDoor
open Go.RowKit

def fxA : Rws := List.replicate 2 (blanksS 3 pn0)
def fxB : Rws := inRowS (fun l => putS l 0 97 pn0) 0 fxA
def fxC : Rws := inRowS (fun l => putS l 1 98 pn0) 1 fxB
def fxD : Rws := scrollS 3 fxC 0 1 1 pn0
theorem gk_blank {c r : Nat} (h1 : 1 ≤ c) (h2 : c ≤ 80) (h3 : 1 ≤ r) (h4 : r ≤ 24) : Gk c r (List.replicate r (blanksS c pn0)) :=
  ⟨blanks_box c r pn0, h1, h2, h3, h4, fun y hy => by rw [lAt_rep hy]; exact blanks_ok h1 h2 pn0_may⟩
theorem gkA : Gk 3 2 fxA := gk_blank (by decide) (by decide) (by decide) (by decide)
theorem gkB : Gk 3 2 fxB := inRow_ok gkA (fun _ => putS_length _ _ _ _) (fun _ h => put_ok h _ _ pn0_may) _
theorem gkC : Gk 3 2 fxC := inRow_ok gkB (fun _ => putS_length _ _ _ _) (fun _ h => put_ok h _ _ pn0_may) _
theorem gkD : Gk 3 2 fxD := scroll_ok gkC _ _ _ pn0_may
theorem opG_yes {c r : Nat} {LL : Rws} (h : Gk c r LL) {p : Pn} (hp : penMayS p = true) (F : Nat → Rws → Rws) : opG (c : Int) (r : Int) LL.flatten p F = some (c, r, F c LL) := by
  unfold opG
  rw [if_pos ⟨h.may, hp⟩, Int.toNat_natCast, Int.toNat_natCast, rows_of_flat h.box]
theorem fx0 : (cAt fxC.flatten 0).r = 97 := by decide +kernel
theorem fx1 : (cAt fxD.flatten 1).r = 98 := by decide +kernel
theorem fx4 : (cAt fxD.flatten 4).r = 32 := by decide +kernel

set_option maxHeartbeats 3200000 in
set_option maxRecDepth 100000 in
theorem fixedG_any {w : World} (hT : Tabs w) : Calls Tryd.prog 9 #[] w fun e w' => e = .returned (.bool true) ∧ Below w.heap.size w w' := by
  have H := Lib.hid hT
  have HN := Lib.hid (show ∀ w : World, Calls Tryd.prog 16 #[.int .i64 3, .int .i64 2] w fun e w' => Below w.heap.size w w' ∧ ∃ g k, e = .returned (.tuple #[.agg #[.int .i64 3, .int .i64 2, .slice (some ⟨g, 0, none⟩) 6 k], .int .i64 0]) ∧ w.heap.size ≤ g ∧ 6 ≤ k ∧ k ≤ maxLen ∧ Rw ceV 41 w' g fxA.flatten from fun w => by
    refine (gNew_any (c := ((3 : Nat) : Int)) (r := ((2 : Nat) : Int)) w).mono fun e w' h => ?_
    obtain ⟨v, rfl, hb, g, k, hv, h1, h2, h3, h4⟩ := h.1 3 2 fxA (new_yes (by decide))
    have hl : fxA.flatten.length = 6 := gkA.box.flen
    rw [hl] at hv h2
    injection hv with hv
    subst hv
    exact ⟨hb, g, k, rfl, h1, h2, h3, h4⟩)
  have HP1 := Lib.hid (show ∀ (w' : World) (g k : Nat), Below w.heap.size w w' → Rw ceV 41 w' g fxA.flatten → 6 ≤ k → Calls Tryd.prog 24 #[.agg #[.int .i64 3, .int .i64 2, .slice (some ⟨g, 0, none⟩) 6 k], .int .i64 0, .int .i64 0, .int .i32 97, .agg #[.int .u32 0, .int .u32 0, .int .u8 0, .int .u16 0]] w' fun e w'' => Below w'.heap.size w' w'' ∧ ∃ g k, e = .returned (.agg #[.int .i64 3, .int .i64 2, .slice (some ⟨g, 0, none⟩) 6 k]) ∧ w'.heap.size ≤ g ∧ 6 ≤ k ∧ k ≤ maxLen ∧ Rw ceV 41 w'' g fxB.flatten from fun w' g k hb hR hk => by
    have hv := hR.vs
    have hl : fxA.flatten.length = 6 := gkA.box.flen
    rw [hl] at hv
    refine (gPut_any (c := ((3 : Nat) : Int)) (r := ((2 : Nat) : Int)) (k := k) 0 0 97 pn0 hv (H.out.below hb (Nat.le_refl _)) hk (by decide)).mono fun e w'' h => ?_
    obtain ⟨hb, g, k, he, h1, h2, h3, h4⟩ := h.1 3 2 fxB (opG_yes gkA pn0_may _)
    have hl : fxB.flatten.length = 6 := gkB.box.flen
    rw [hl] at he h2
    exact ⟨hb, g, k, he, h1, h2, h3, h4⟩)
  have HP2 := Lib.hid (show ∀ (w' : World) (g k : Nat), Below w.heap.size w w' → Rw ceV 41 w' g fxB.flatten → 6 ≤ k → Calls Tryd.prog 24 #[.agg #[.int .i64 3, .int .i64 2, .slice (some ⟨g, 0, none⟩) 6 k], .int .i64 1, .int .i64 1, .int .i32 98, .agg #[.int .u32 0, .int .u32 0, .int .u8 0, .int .u16 0]] w' fun e w'' => Below w'.heap.size w' w'' ∧ ∃ g k, e = .returned (.agg #[.int .i64 3, .int .i64 2, .slice (some ⟨g, 0, none⟩) 6 k]) ∧ w'.heap.size ≤ g ∧ 6 ≤ k ∧ k ≤ maxLen ∧ Rw ceV 41 w'' g fxC.flatten from fun w' g k hb hR hk => by
    have hv := hR.vs
    have hl : fxB.flatten.length = 6 := gkB.box.flen
    rw [hl] at hv
    refine (gPut_any (c := ((3 : Nat) : Int)) (r := ((2 : Nat) : Int)) (k := k) 1 1 98 pn0 hv (H.out.below hb (Nat.le_refl _)) hk (by decide)).mono fun e w'' h => ?_
    obtain ⟨hb, g, k, he, h1, h2, h3, h4⟩ := h.1 3 2 fxC (opG_yes gkB pn0_may _)
    have hl : fxC.flatten.length = 6 := gkC.box.flen
    rw [hl] at he h2
    exact ⟨hb, g, k, he, h1, h2, h3, h4⟩)
  have HS := Lib.hid (show ∀ (w' : World) (g k : Nat), Below w.heap.size w w' → Rw ceV 41 w' g fxC.flatten → 6 ≤ k → Calls Tryd.prog 22 #[.agg #[.int .i64 3, .int .i64 2, .slice (some ⟨g, 0, none⟩) 6 k], .int .i64 0, .int .i64 1, .int .i64 1, .agg #[.int .u32 0, .int .u32 0, .int .u8 0, .int .u16 0]] w' fun e w'' => Below w'.heap.size w' w'' ∧ ∃ g k, e = .returned (.agg #[.int .i64 3, .int .i64 2, .slice (some ⟨g, 0, none⟩) 6 k]) ∧ w'.heap.size ≤ g ∧ 6 ≤ k ∧ k ≤ maxLen ∧ Rw ceV 41 w'' g fxD.flatten from fun w' g k hb hR hk => by
    have hv := hR.vs
    have hl : fxC.flatten.length = 6 := gkC.box.flen
    rw [hl] at hv
    refine (gScroll_any (c := ((3 : Nat) : Int)) (r := ((2 : Nat) : Int)) (k := k) 0 1 1 pn0 hv (H.out.below hb (Nat.le_refl _)) hk (by decide)).mono fun e w'' h => ?_
    obtain ⟨hb, g, k, he, h1, h2, h3, h4⟩ := h.1 3 2 fxD (opG_yes gkC pn0_may _)
    have hl : fxD.flatten.length = 6 := gkD.box.flen
    rw [hl] at he h2
    exact ⟨hb, g, k, he, h1, h2, h3, h4⟩)
  clear hT
  go_enter Tryd.func9, Tryd.ntmps9
  go_wp2_with fail
  refine (HN.out w).mono ?_
  rintro e w1 ⟨hb, g1, k1, rfl, hg1, hk1, hm1, hR⟩
  obtain ⟨w2, hw2⟩ : ∃ w2, w2 = w1.alloc (.cells #[.int .i64 3, .int .i64 2, .slice (some ⟨g1, 0, none⟩) 6 k1] 24) := ⟨_, rfl⟩
  obtain ⟨b, hbe⟩ : ∃ b, b = w1.heap.size := ⟨_, rfl⟩
  have X := Lib.hid (show Below w.heap.size w w2 ∧ Gb w2 b ⟨3, 2, some ⟨g1, 0, none⟩, 6, k1⟩ ∧ Rw ceV 41 w2 g1 fxA.flatten ∧ w.heap.size ≤ b from by
    rw [hw2, hbe]
    exact ⟨hb.alloc hb.size _, gb_new w1 ⟨3, 2, some ⟨g1, 0, none⟩, 6, k1⟩, hR.below (below1 _ _), hb.size⟩)
  clear hb hg1 hR
  go_upto_region 2 with fail
  rw [← hw2, ← hbe]
  clear hw2 hbe
  obtain ⟨c0, c1, c2, _⟩ := X.out.2.1.g3
  go_wp2_with fail
  refine (HP1.out w2 g1 k1 X.out.1 X.out.2.2.1 hk1).mono ?_
  rintro e w3 ⟨hb, g2, k2, rfl, hg2, hk2, hm2, hR⟩
  have X3 := Lib.hid (show Below w.heap.size w w3 ∧ Gb w3 b ⟨3, 2, some ⟨g1, 0, none⟩, 6, k1⟩ ∧ Rw ceV 41 w3 g2 fxB.flatten from ⟨X.out.1.trans (hb.mono X.out.1.size), X.out.2.1.below hb, hR⟩)
  clear hb hg2 hR c0 c1 c2
  go_wp2_with fail
  refine (HP2.out w3 g2 k2 X3.out.1 X3.out.2.2 hk2).mono ?_
  rintro e w4 ⟨hb, g3, k3, rfl, hg3, hk3, hm3, hR⟩
  have X4 := Lib.hid (show Below w.heap.size w w4 ∧ Gb w4 b ⟨3, 2, some ⟨g1, 0, none⟩, 6, k1⟩ ∧ Rw ceV 41 w4 g3 fxC.flatten from ⟨X3.out.1.trans (hb.mono X3.out.1.size), X3.out.2.1.below hb, hR⟩)
  have hlt := X3.out.2.1.lt
  have HLT := Lib.hid (show b < g3 from by have := hg3; omega)
  clear hb hg3 hR hlt
  go_wp2_with (refine wpList_store_G rfl (.tmp 1) (.tmp 12) rfl b ⟨3, 2, some ⟨g1, 0, none⟩, 6, k1⟩ ⟨3, 2, some ⟨g3, 0, none⟩, 6, k3⟩ rfl rfl X4.out.2.1 ?_; intro w5 hG5 hg5; have hb5 := X4.out.1.grown hg5 X4.out.1.size (by intro k hk; injection hk with hk; have := X.out.2.2.2; omega); have hR5 := X4.out.2.2.grown hg5 (by have := HLT.out; simp; omega); obtain ⟨d0, d1, d2, _⟩ := hG5.g3)
  have X5 := Lib.hid (And.intro hb5 (And.intro hG5 hR5))
  clear hb5 hG5 hR5 hg5
  refine (HS.out w5 g3 k3 X5.out.1 X5.out.2.2 hk3).mono ?_
  rintro e w6 ⟨hb, g4, k4, rfl, hg4, hk4, hm4, hR⟩
  obtain ⟨w7, hw7⟩ : ∃ w7, w7 = w6.alloc (.cells #[.int .i64 3, .int .i64 2, .slice (some ⟨g4, 0, none⟩) 6 k4] 24) := ⟨_, rfl⟩
  obtain ⟨b7, hb7⟩ : ∃ b7, b7 = w6.heap.size := ⟨_, rfl⟩
  have X7 := Lib.hid (show Below w.heap.size w w7 ∧ Gb w7 b ⟨3, 2, some ⟨g3, 0, none⟩, 6, k3⟩ ∧ Gb w7 b7 ⟨3, 2, some ⟨g4, 0, none⟩, 6, k4⟩ ∧ Rw ceV 41 w7 g3 fxC.flatten ∧ Rw ceV 41 w7 g4 fxD.flatten from by
    have h1 := X5.out.1.trans (hb.mono X5.out.1.size)
    rw [hw7, hb7]
    exact ⟨h1.alloc h1.size _, (X5.out.2.1.below hb).below (below1 _ _), gb_new w6 ⟨3, 2, some ⟨g4, 0, none⟩, 6, k4⟩, (X5.out.2.2.below hb).below (below1 _ _), hR.below (below1 _ _)⟩)
  clear hb hg4 hR d0 d1 d2
  go_upto_region 4 with fail
  rw [← hw7, ← hb7]
  clear hw7 hb7
  obtain ⟨c0, c1, c2, _⟩ := X7.out.2.1.g3
  obtain ⟨d0, d1, d2, _⟩ := X7.out.2.2.1.g3
  have r0 := (X7.out.2.2.2.1.vs.six (k := 0) (by have : fxC.flatten.length = 6 := gkC.box.flen; omega)).c0
  have r1 := (X7.out.2.2.2.2.vs.six (k := 1) (by have : fxD.flatten.length = 6 := gkD.box.flen; omega)).c0
  have r4 := (X7.out.2.2.2.2.vs.six (k := 4) (by have : fxD.flatten.length = 6 := gkD.box.flen; omega)).c0
  rw [addH, fx0] at r0
  rw [addH, fx1] at r1
  rw [addH, fx4] at r4
  go_wp2_with fail
  go_ret
  exact ⟨rfl, X7.out.1⟩
end Go.Proofs.YtflnocgahdlojaaDoor
