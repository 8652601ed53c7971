/-
  Proved: GridScrolls answers true for every grid, every two rows, every number and every pen, over the table that the program lays (a tied card).
-/
import Derived.Test.YtflnocgahdlojaaDoorOpen
import Derived.Test.YtflnocgahdlojaaDoorCards
import Derived.Test.YtflnocgahdlojaaDoorTie
import Derived.SevenTiedAt
import Derived.Test.YtflnocgahdlojaaDoorCellTab
import Derived.Test.YtflnocgahdlojaaDoorGridOpen
import Derived.Test.YtflnocgahdlojaaDoorGridFx
import Derived.WalkKit
import Derived.Deep.RegionHeld3
namespace Go.Proofs.YtflnocgahdlojaaDoor.gridScrolls
open Go.ChangeShapes Go.WideShapes Go.ChangeAt Go.RowKit

theorem opG_is {c r : Nat} {LL : Rws} (h : Gk c r LL) {p : Pn} (hp : penMayS p = true) (F : Nat → Rws → Rws) : opG (c : Int) (r : Int) LL.flatten p F = some (c, r, F c LL) := by
  unfold opG
  rw [if_pos ⟨h.may, hp⟩, Int.toNat_natCast, Int.toNat_natCast, rows_of_flat h.box]
/-- Up and down again. -/
theorem back_scroll {c r : Nat} {LL : Rws} (h : Box c r LL) {t bo nn : Nat} (p : Pn) (htb : t ≤ bo) (hbr : bo < r) {q : Nat} (hq : q < r) :
    lAt (scrollS c (scrollS c LL (t : Int) (bo : Int) (nn : Int) p) (t : Int) (bo : Int) (-(nn : Int)) p) q = if t ≤ q ∧ q ≤ bo ∧ q < t + nn then blanksS c p else lAt LL q := by
  have h2 := scroll_box h (t : Int) (bo : Int) (nn : Int) p
  rw [scroll_at h2 _ p htb hbr hq]
  by_cases e1 : t ≤ q ∧ q ≤ bo
  · rw [scrollAt_in (by omega)]
    by_cases e2 : q < t + nn
    · rw [if_neg (by omega), if_pos ⟨e1.1, e1.2, e2⟩]
    · rw [if_pos (by omega), if_neg (by omega), show ((q : Int) + -(nn : Int)).toNat = q - nn by omega, scroll_at h _ p htb hbr (by omega), scrollAt_in (by omega), if_pos (by omega), show (((q - nn : Nat) : Int) + (nn : Int)).toNat = q by omega]
  · rw [scrollAt_out (by omega), if_neg (by omega), scroll_at h _ p htb hbr hq, scrollAt_out (by omega)]
structure St (w w0 : World) (b : Nat) (c r : Int) (A : Option Addr) (n k : Nat) (p : Pn) (L : List Ce) : Prop where
  bel : Below w.heap.size w w0
  tabs : Tabs w0
  vs : Vs ceV w0 A n L
  gb : Gb w0 b ⟨c, r, A, n, k⟩
  p4 : Pen4 w0 (b + 1) p

set_option maxHeartbeats 12800000 in
set_option maxRecDepth 100000 in
/-- The walk. -/
theorem walk {gc gr : Int} {A : Option Addr} {n k : Nat} {L : List Ce} {x y z : Int} {p : Pn} (w : World) (hT : Tabs w) (hs : Vs ceV w A n L ∧ n ≤ k ∧ k ≤ maxLen) (_ : (Lit.int .i64 x).wf = true) (_ : (Lit.int .i64 y).wf = true) (_ : (Lit.int .i64 z).wf = true) (_ : True) :
    Calls Tryd.prog 7 #[.agg (gV gc gr A n k), .int .i64 x, .int .i64 y, .int .i64 z, .agg (pnA p)] w fun e w' => e = .returned (.bool true) ∧ Below w.heap.size w w' := by
  obtain ⟨hv, hk, hm⟩ := hs
  unfold maxLen at hm
  obtain ⟨w0, hw0⟩ : ∃ w0, w0 = (w.alloc (.cells (gV gc gr A n k) 24)).alloc (.cells (pnA p) 29) := ⟨_, rfl⟩
  obtain ⟨b, hbe⟩ : ∃ b, b = w.heap.size := ⟨_, rfl⟩
  have H := Lib.hid (show St w w0 b gc gr A n k p L from by
    have h0 := below1 w (.cells (gV gc gr A n k) 24)
    have h1 := h0.alloc h0.size (.cells (pnA p) 29)
    have h2 := pen4_new (w.alloc (.cells (gV gc gr A n k) 24)) p 29
    rw [alloc_size] at h2
    rw [hw0, hbe]
    exact ⟨h1, hT.below h1 (Nat.le_refl _), hv.below h1, (gb_new w ⟨gc, gr, A, n, k⟩).below (below1 _ _), h2⟩)
  have HL := Lib.hid hv.len
  clear hv hT
  obtain ⟨m, hm2⟩ : ∃ m, gridMay gc gr L = m := ⟨_, rfl⟩
  have HM := Lib.hid hm2
  clear hm2
  obtain ⟨LL, hLL⟩ : ∃ LL, rowsS gc.toNat gr.toNat L = LL := ⟨_, rfl⟩
  have HLL := Lib.hid hLL
  clear hLL
  obtain ⟨c0, c1, c2, _⟩ := H.out.gb.g3
  dsimp only at c0 c1 c2
  unfold gV pnA at hw0
  go_enter Tryd.func7, Tryd.ntmps7
  unfold gV pnA
  go_upto_region 1 with fail
  rw [← hw0, ← hbe]
  clear hw0 hbe
  go_wp2_with fail
  refine (refRows_any H.out.vs hk (by omega) HM.out HLL.out).mono ?_
  rintro e w1 ⟨hyes, hno⟩
  clear c0 c1 c2
  cases m
  · obtain ⟨rfl, hb⟩ := hno rfl
    have X := Lib.hid (And.intro hb (H.out.gb.below hb))
    clear hyes hno hb
    obtain ⟨c0, c1, c2, _⟩ := X.out.2.g3
    dsimp only at c0 c1 c2
    by_cases h4 : (4000 : Int) < (n : Int)
    ·
      go_wp2_with fail
      refine (fixedG_any (H.out.tabs.below X.out.1 (Nat.le_refl _))).mono ?_
      rintro e w9 ⟨rfl, hb⟩
      have X9 := Lib.hid ((H.out.bel.trans (Below.mono X.out.1 H.out.bel.size)).trans (hb.mono (H.out.bel.trans (Below.mono X.out.1 H.out.bel.size)).size))
      clear hb
      go_wp2_with fail
      go_ret
      exact ⟨rfl, X9.out⟩
    · have h4' : (n : Int) ≤ 4000 := by omega
      go_wp2_with fail
      refine (fixedG_any (H.out.tabs.below X.out.1 (Nat.le_refl _))).mono ?_
      rintro e w9 ⟨rfl, hb⟩
      have X9 := Lib.hid ((H.out.bel.trans (Below.mono X.out.1 H.out.bel.size)).trans (hb.mono (H.out.bel.trans (Below.mono X.out.1 H.out.bel.size)).size))
      clear hb
      go_wp2_with fail
      go_ret
      exact ⟨rfl, X9.out⟩
  · obtain ⟨hb, g, k', S, rfl, hg, hk1, hk2, htb⟩ := hyes rfl
    have X := Lib.hid (And.intro hb (And.intro (H.out.gb.below hb) (And.intro (H.out.p4.below hb) htb)))
    obtain ⟨c, r, LL', rfl, rfl, hL', hrows, hgk⟩ := ((gridMay_iff _ _ _).1 HM.out).parts
    obtain rfl : LL' = LL := hrows.symm.trans HLL.out
    have HP := Lib.hid (show L = LL'.flatten ∧ Gk c r LL' ∧ n = r * c ∧ LL'.length = r from ⟨hL', hgk, by rw [← HL.out, hL']; exact hgk.box.flen, hgk.box.len⟩)
    have h4 : (n : Int) ≤ 4000 := by have := hgk.small; have := HP.out.2.2.1; omega
    rw [HP.out.2.2.2] at hk1 ⊢
    clear hyes hno hb hg hk2 htb hL' hrows hgk
    obtain ⟨c0, c1, c2, _⟩ := X.out.2.1.g3
    dsimp only at c0 c1 c2
    obtain ⟨d0, d1, d2, d3, _⟩ := X.out.2.2.1
    go_wp2_with fail
    refine (refPenMay_any p _).mono ?_
    rintro e w2 ⟨rfl, hb⟩
    have X2 := Lib.hid (And.intro (X.out.1.trans (hb.mono X.out.1.size)) (And.intro (X.out.2.1.below hb) (And.intro (X.out.2.2.1.below hb) (X.out.2.2.2.below hb))))
    clear hb c0 c1 c2 d0 d1 d2 d3 X
    obtain ⟨pm, hpm⟩ : ∃ pm, penMayS p = pm := ⟨_, rfl⟩
    rw [hpm]
    have HPM := Lib.hid hpm
    clear hpm
    have h24 := HP.out.2.1.r24
    cases pm
    ·
      go_wp2_with fail
      refine (fixedG_any (H.out.tabs.below X2.out.1 (Nat.le_refl _))).mono ?_
      rintro e w9 ⟨rfl, hb⟩
      have X9 := Lib.hid ((H.out.bel.trans (Below.mono X2.out.1 H.out.bel.size)).trans (hb.mono (H.out.bel.trans (Below.mono X2.out.1 H.out.bel.size)).size))
      clear hb
      go_wp2_with fail
      go_ret
      exact ⟨rfl, X9.out⟩
    · by_cases e1 : x < 0
      ·
        go_wp2_with fail
        refine (fixedG_any (H.out.tabs.below X2.out.1 (Nat.le_refl _))).mono ?_
        rintro e w9 ⟨rfl, hb⟩
        have X9 := Lib.hid ((H.out.bel.trans (Below.mono X2.out.1 H.out.bel.size)).trans (hb.mono (H.out.bel.trans (Below.mono X2.out.1 H.out.bel.size)).size))
        clear hb
        go_wp2_with fail
        go_ret
        exact ⟨rfl, X9.out⟩
      · have e1' : 0 ≤ x := by omega
        by_cases e2 : (r : Int) ≤ y
        ·
          go_wp2_with fail
          refine (fixedG_any (H.out.tabs.below X2.out.1 (Nat.le_refl _))).mono ?_
          rintro e w9 ⟨rfl, hb⟩
          have X9 := Lib.hid ((H.out.bel.trans (Below.mono X2.out.1 H.out.bel.size)).trans (hb.mono (H.out.bel.trans (Below.mono X2.out.1 H.out.bel.size)).size))
          clear hb
          go_wp2_with fail
          go_ret
          exact ⟨rfl, X9.out⟩
        · have e2' : y < (r : Int) := by omega
          by_cases e3 : y < x
          ·
            go_wp2_with fail
            refine (fixedG_any (H.out.tabs.below X2.out.1 (Nat.le_refl _))).mono ?_
            rintro e w9 ⟨rfl, hb⟩
            have X9 := Lib.hid ((H.out.bel.trans (Below.mono X2.out.1 H.out.bel.size)).trans (hb.mono (H.out.bel.trans (Below.mono X2.out.1 H.out.bel.size)).size))
            clear hb
            go_wp2_with fail
            go_ret
            exact ⟨rfl, X9.out⟩
          · have e3' : x ≤ y := by omega
            by_cases e4 : z < 1
            ·
              go_wp2_with fail
              refine (fixedG_any (H.out.tabs.below X2.out.1 (Nat.le_refl _))).mono ?_
              rintro e w9 ⟨rfl, hb⟩
              have X9 := Lib.hid ((H.out.bel.trans (Below.mono X2.out.1 H.out.bel.size)).trans (hb.mono (H.out.bel.trans (Below.mono X2.out.1 H.out.bel.size)).size))
              clear hb
              go_wp2_with fail
              go_ret
              exact ⟨rfl, X9.out⟩
            · have e4' : 1 ≤ z := by omega
              by_cases e5 : 24 < z
              ·
                go_wp2_with fail
                refine (fixedG_any (H.out.tabs.below X2.out.1 (Nat.le_refl _))).mono ?_
                rintro e w9 ⟨rfl, hb⟩
                have X9 := Lib.hid ((H.out.bel.trans (Below.mono X2.out.1 H.out.bel.size)).trans (hb.mono (H.out.bel.trans (Below.mono X2.out.1 H.out.bel.size)).size))
                clear hb
                go_wp2_with fail
                go_ret
                exact ⟨rfl, X9.out⟩
              · have e5' : z ≤ 24 := by omega
                obtain ⟨t, rfl⟩ : ∃ t : Nat, x = (t : Int) := ⟨x.toNat, by omega⟩
                obtain ⟨bo, rfl⟩ : ∃ bo : Nat, y = (bo : Int) := ⟨y.toNat, by omega⟩
                obtain ⟨nn, rfl⟩ : ∃ nn : Nat, z = (nn : Int) := ⟨z.toNat, by omega⟩
                have htb : t ≤ bo := by omega
                have hbr : bo < r := by omega
                have vneg : IntKind.i64.wrap (-(nn : Int)) = -(nn : Int) := by rw [IntKind.wrap_i64]; omega
                have vadd : IntKind.i64.wrap ((t : Int) + (nn : Int)) = ((t + nn : Nat) : Int) := by rw [IntKind.wrap_i64]; omega
                have hd1 : decide (r ≤ bo) = false := by simp; omega
                have hd2 : decide (bo < t) = false := by simp; omega
                have hd3 : decide (24 < nn) = false := by simp; omega
                have hd4 : decide (nn < 1) = false := by simp; omega
                clear e1 e2 e3 e4 e5
                go_upto_region 4 with fail
                obtain ⟨TT, hTT⟩ : ∃ TT, TT = scrollS c LL' (t : Int) (bo : Int) (nn : Int) p := ⟨_, rfl⟩
                obtain ⟨HH, hHH⟩ : ∃ HH, HH = scrollS c TT (t : Int) (bo : Int) (-(nn : Int)) p := ⟨_, rfl⟩
                have HS2 := Lib.hid (show Gk c r TT ∧ Gk c r HH ∧ opG (c : Int) (r : Int) L p (fun c LL => scrollS c LL (t : Int) (bo : Int) (nn : Int) p) = some (c, r, TT) ∧ opG (c : Int) (r : Int) TT.flatten p (fun c LL => scrollS c LL (t : Int) (bo : Int) (-(nn : Int)) p) = some (c, r, HH) ∧ (∀ q, q < r → lAt HH q = if t ≤ q ∧ q ≤ bo ∧ q < t + nn then blanksS c p else lAt LL' q) ∧ TT.flatten.length = n ∧ HH.flatten.length = n from by
                  have g1 : Gk c r TT := by rw [hTT]; exact scroll_ok HP.out.2.1 _ _ _ HPM.out
                  have g2 : Gk c r HH := by rw [hHH]; exact scroll_ok g1 _ _ _ HPM.out
                  refine ⟨g1, g2, by rw [HP.out.1, opG_is HP.out.2.1 HPM.out, hTT], by rw [opG_is g1 HPM.out, hHH], fun q hq => ?_, by rw [g1.box.flen]; exact HP.out.2.2.1.symm, by rw [g2.box.flen]; exact HP.out.2.2.1.symm⟩
                  rw [hHH, hTT]
                  exact back_scroll HP.out.2.1.box p htb hbr hq)
                clear hTT hHH
                have hb1 : Below w2.heap.size w2 w2.drew := belowN (Below.refl _ _) 1
                have SX := Lib.hid (show ∀ w', Below w2.heap.size w2 w' → (fun w' => Below w2.heap.size w2 w' ∧ (w'.cell? ⟨b, 0, none⟩ = some (.int .i64 (c : Int)) ∧ w'.cell? ⟨b, 1, none⟩ = some (.int .i64 (r : Int)) ∧ w'.cell? ⟨b, 2, none⟩ = some (.slice A n k) ∧ w'.cell? ⟨b + 1, 0, none⟩ = some (.int .u32 p.fg) ∧ w'.cell? ⟨b + 1, 1, none⟩ = some (.int .u32 p.bg) ∧ w'.cell? ⟨b + 1, 2, none⟩ = some (.int .u8 p.st) ∧ w'.cell? ⟨b + 1, 3, none⟩ = some (.int .u16 p.lk))) w' from fun w' hb => by
                  obtain ⟨f0, f1, f2, _⟩ := (X2.out.2.1.below hb).g3
                  obtain ⟨i0, i1, i2, i3, _⟩ := X2.out.2.2.1.below hb
                  exact ⟨hb, f0, f1, f2, i0, i1, i2, i3⟩)
                have HC1 := Lib.hid (show ∀ w', Below w2.heap.size w2 w' → Calls Tryd.prog 22 #[.agg #[.int .i64 (c : Int), .int .i64 (r : Int), .slice A n k], .int .i64 (t : Int), .int .i64 (bo : Int), .int .i64 (nn : Int), .agg #[.int .u32 p.fg, .int .u32 p.bg, .int .u8 p.st, .int .u16 p.lk]] w' fun e w'' => ∃ g4 k4, e = .returned (.agg #[.int .i64 (c : Int), .int .i64 (r : Int), .slice (some ⟨g4, 0, none⟩) n k4]) ∧ Below w'.heap.size w' w'' ∧ n ≤ k4 ∧ Rw ceV 41 w'' g4 TT.flatten from fun w' hb => by
                  have hbb := X2.out.1.trans (hb.mono X2.out.1.size)
                  refine (gScroll_any (c := c) (r := r) (t : Int) (bo : Int) (nn : Int) p (H.out.vs.below hbb) (H.out.tabs.below hbb (Nat.le_refl _)) hk (by omega)).mono fun e w'' h => ?_
                  obtain ⟨h1, g4, k4, he, h2, h3, h4, h5⟩ := h.1 c r TT HS2.out.2.2.1
                  rw [HS2.out.2.2.2.2.2.1] at he h3
                  exact ⟨g4, k4, he, h1, h3, h5⟩)
                have HC2 := Lib.hid (show ∀ w' g4 k4, Below w2.heap.size w2 w' → n ≤ k4 → Rw ceV 41 w' g4 TT.flatten → Calls Tryd.prog 22 #[.agg #[.int .i64 (c : Int), .int .i64 (r : Int), .slice (some ⟨g4, 0, none⟩) n k4], .int .i64 (t : Int), .int .i64 (bo : Int), .int .i64 (-(nn : Int)), .agg #[.int .u32 p.fg, .int .u32 p.bg, .int .u8 p.st, .int .u16 p.lk]] w' fun e w'' => ∃ g5 k5, e = .returned (.agg #[.int .i64 (c : Int), .int .i64 (r : Int), .slice (some ⟨g5, 0, none⟩) n k5]) ∧ Below w'.heap.size w' w'' ∧ w'.heap.size ≤ g5 ∧ n ≤ k5 ∧ Rw ceV 41 w'' g5 HH.flatten from fun w' g4 k4 hb hk4 hR => by
                  have hbb := X2.out.1.trans (hb.mono X2.out.1.size)
                  have e1 := hR.vs
                  rw [HS2.out.2.2.2.2.2.1] at e1
                  refine (gScroll_any (c := c) (r := r) (t : Int) (bo : Int) (-(nn : Int)) p e1 (H.out.tabs.below hbb (Nat.le_refl _)) hk4 (by omega)).mono fun e w'' h => ?_
                  obtain ⟨h1, g5, k5, he, h2, h3, h4, h5⟩ := h.1 c r HH HS2.out.2.2.2.1
                  rw [HS2.out.2.2.2.2.2.2] at he h3
                  exact ⟨g5, k5, he, h1, h2, h3, h5⟩)
                refine wp_region_noPanic ?_
                refine wp_region_held_drew (S := fun w' => Below w2.heap.size w2 w' ∧ (w'.cell? ⟨b, 0, none⟩ = some (.int .i64 (c : Int)) ∧ w'.cell? ⟨b, 1, none⟩ = some (.int .i64 (r : Int)) ∧ w'.cell? ⟨b, 2, none⟩ = some (.slice A n k) ∧ w'.cell? ⟨b + 1, 0, none⟩ = some (.int .u32 p.fg) ∧ w'.cell? ⟨b + 1, 1, none⟩ = some (.int .u32 p.bg) ∧ w'.cell? ⟨b + 1, 2, none⟩ = some (.int .u8 p.st) ∧ w'.cell? ⟨b + 1, 3, none⟩ = some (.int .u16 p.lk))) (by kernel_rfl) (SX.out _ hb1) (fun hHeld => ?_)
                generalize w2.drew = wd at hHeld hb1 ⊢
                refine wpAnyH_take (i := 0) (v := .agg #[.int .i64 (c : Int), .int .i64 (r : Int), .slice A n k]) rfl (by kernel_rfl) (by kernel_rfl) (by kernel_rfl) (fun _ _ _ h => h) (Or.inl ⟨by rfl, fun wz hSz => ?_⟩) hHeld ?_
                · obtain ⟨_, y0, y1, y2, _, _, _, _⟩ := hSz; go_simp
                simp only [Act.put]
                try simp only [List.setIfInBounds_toArray]
                try simp only [List.set_cons_succ]
                try simp only [List.set_cons_zero]
                refine wpAnyH_take (i := 1) (v := .int .i64 t) rfl (by kernel_rfl) (by kernel_rfl) (by kernel_rfl) (fun _ _ _ h => h) (Or.inl ⟨by rfl, fun wz hSz => ?_⟩) hHeld ?_
                · go_simp
                simp only [Act.put]
                try simp only [List.setIfInBounds_toArray]
                try simp only [List.set_cons_succ]
                try simp only [List.set_cons_zero]
                refine wpAnyH_take (i := 2) (v := .int .i64 bo) rfl (by kernel_rfl) (by kernel_rfl) (by kernel_rfl) (fun _ _ _ h => h) (Or.inl ⟨by rfl, fun wz hSz => ?_⟩) hHeld ?_
                · go_simp
                simp only [Act.put]
                try simp only [List.setIfInBounds_toArray]
                try simp only [List.set_cons_succ]
                try simp only [List.set_cons_zero]
                refine wpAnyH_take (i := 3) (v := .int .i64 nn) rfl (by kernel_rfl) (by kernel_rfl) (by kernel_rfl) (fun _ _ _ h => h) (Or.inl ⟨by rfl, fun wz hSz => ?_⟩) hHeld ?_
                · go_simp
                simp only [Act.put]
                try simp only [List.setIfInBounds_toArray]
                try simp only [List.set_cons_succ]
                try simp only [List.set_cons_zero]
                refine wpAnyH_take (i := 4) (v := .agg #[.int .u32 p.fg, .int .u32 p.bg, .int .u8 p.st, .int .u16 p.lk]) rfl (by kernel_rfl) (by kernel_rfl) (by kernel_rfl) (fun _ _ _ h => h) (Or.inl ⟨by rfl, fun wz hSz => ?_⟩) hHeld ?_
                · obtain ⟨_, _, _, _, y0, y1, y2, y3⟩ := hSz; go_simp
                simp only [Act.put]
                try simp only [List.setIfInBounds_toArray]
                try simp only [List.set_cons_succ]
                try simp only [List.set_cons_zero]
                refine wpAnyH_take (i := 6) (v := .int .i64 t) rfl (by kernel_rfl) (by kernel_rfl) (by kernel_rfl) (fun _ _ _ h => h) (Or.inl ⟨by rfl, fun wz hSz => ?_⟩) hHeld ?_
                · go_simp
                simp only [Act.put]
                try simp only [List.setIfInBounds_toArray]
                try simp only [List.set_cons_succ]
                try simp only [List.set_cons_zero]
                refine wpAnyH_take (i := 7) (v := .int .i64 bo) rfl (by kernel_rfl) (by kernel_rfl) (by kernel_rfl) (fun _ _ _ h => h) (Or.inl ⟨by rfl, fun wz hSz => ?_⟩) hHeld ?_
                · go_simp
                simp only [Act.put]
                try simp only [List.setIfInBounds_toArray]
                try simp only [List.set_cons_succ]
                try simp only [List.set_cons_zero]
                refine wpAnyH_take (i := 8) (v := .int .i64 nn) rfl (by kernel_rfl) (by kernel_rfl) (by kernel_rfl) (fun _ _ _ h => h) (Or.inl ⟨by rfl, fun wz hSz => ?_⟩) hHeld ?_
                · go_simp
                simp only [Act.put]
                try simp only [List.setIfInBounds_toArray]
                try simp only [List.set_cons_succ]
                try simp only [List.set_cons_zero]
                refine wpAnyH_take (i := 9) (v := .int .i64 (-(nn : Int))) rfl (by kernel_rfl) (by kernel_rfl) (by kernel_rfl) (fun _ _ _ h => h) (Or.inl ⟨by rfl, fun wz hSz => ?_⟩) hHeld ?_
                · go_simp
                simp only [Act.put]
                try simp only [List.setIfInBounds_toArray]
                try simp only [List.set_cons_succ]
                try simp only [List.set_cons_zero]
                refine wpAnyH_take (i := 10) (v := .agg #[.int .u32 p.fg, .int .u32 p.bg, .int .u8 p.st, .int .u16 p.lk]) rfl (by kernel_rfl) (by kernel_rfl) (by kernel_rfl) (fun _ _ _ h => h) (Or.inl ⟨by rfl, fun wz hSz => ?_⟩) hHeld ?_
                · obtain ⟨_, _, _, _, y0, y1, y2, y3⟩ := hSz; go_simp
                simp only [Act.put]
                try simp only [List.setIfInBounds_toArray]
                try simp only [List.set_cons_succ]
                try simp only [List.set_cons_zero]
                refine wpAnyH_ready (rs := [5, 12]) (by kernel_rfl) (by simp) (AllReadyH.cons rfl (fun K hK => ?_) (AllReadyH.cons rfl (fun K hK => ?_) AllReadyH.nil))
                · rw [if_pos (by rfl)]
                  go_simp
                  refine (HC1.out _ hb1).mono ?_
                  rintro e w4 ⟨g4, k4, rfl, hb4, hk4, hR4⟩
                  have hb5 := Below.trans (B := w2.heap.size) hb1 (hb4.mono (below_sz (a := w2) (B := w2.heap.size) hb1))
                  refine hK.out _ _ (SX.out _ hb5) (fun hHeld => ?_)
                  clear hK K
                  try simp only [Act.put]
                  try simp only [List.setIfInBounds_toArray]
                  try simp only [List.set_cons_succ]
                  try simp only [List.set_cons_zero]
                  refine wpAnyH_ready (rs := [11, 12]) (by kernel_rfl) (by simp) (AllReadyH.cons rfl (fun K hK => ?_) (AllReadyH.cons rfl (fun K hK => ?_) AllReadyH.nil))
                  · rw [if_pos (by rfl)]
                    go_simp
                    refine (HC2.out _ _ _ hb5 hk4 hR4).mono ?_
                    rintro e w5 ⟨g5, k5, rfl, hb6, hg5, hk5, hR5⟩
                    have hb7 := Below.trans (B := w2.heap.size) hb5 (hb6.mono (below_sz (a := w2) (B := w2.heap.size) hb5))
                    refine hK.out _ _ (SX.out _ hb7) (fun hHeld => ?_)
                    clear hK K
                    try simp only [Act.put]
                    try simp only [List.setIfInBounds_toArray]
                    try simp only [List.set_cons_succ]
                    try simp only [List.set_cons_zero]
                    refine wpAnyH_ready (rs := [12]) (by kernel_rfl) (by simp) (AllReadyH.cons rfl (fun K hK => ?_) AllReadyH.nil)
                    rw [if_pos (by rfl)]
                    go_simp
                    have hba := hb7.alloc hb7.size (.cells (gV 0 0 none 0 0) 24)
                    have HGN := Lib.hid (gb_new w5 gr0)
                    refine hK.out _ _ (SX.out _ hba) (fun hHeld => ?_)
                    clear hK K
                    try simp only [Act.put]
                    try simp only [List.setIfInBounds_toArray]
                    try simp only [List.set_cons_succ]
                    try simp only [List.set_cons_zero]
                    obtain ⟨wB, hwB⟩ : ∃ wB, wB = w5.alloc (.cells (gV 0 0 none 0 0) 24) := ⟨_, rfl⟩
                    obtain ⟨b13, hb13⟩ : ∃ b13, b13 = w5.heap.size := ⟨_, rfl⟩
                    have HGB := Lib.hid (show Gb wB b13 gr0 ∧ w2.heap.size ≤ b13 from ⟨by rw [hwB, hb13]; exact HGN.out, by rw [hb13]; exact hb7.size⟩)
                    have HWB := Lib.hid hwB
                    unfold gV at hwB hHeld hba
                    rw [← hwB] at hHeld hba
                    rw [← hwB, ← hb13]
                    clear hwB hb13 HGN
                    have HGC := Lib.hid (show Gb wB b13 gr0 ∧ Rw ceV 41 wB g5 HH.flatten from ⟨HGB.out.1, (by rw [HWB.out]; exact hR5.below (below1 _ _))⟩)
                    have HSB := Lib.hid (show ∀ x : GR, Below w2.heap.size w2 (set3 wB b13 x) ∧ Gb (set3 wB b13 x) b13 x ∧ Rw ceV 41 (set3 wB b13 x) g5 HH.flatten from fun x => by
                      have h9 := gb_set3 x HGC.out.1
                      exact ⟨hba.grown h9.2 hba.size (by intro k hk; injection hk with hk; have := HGB.out.2; omega), h9.1, HGC.out.2.grown h9.2 (fun e => rw_apart HGC.out.2 HGC.out.1.rw (by decide) (by injection e with e; exact e.symm))⟩)
                    obtain ⟨z0, z1, z2, _⟩ := HGC.out.1.g3
                    unfold gr0 at z0 z1 z2
                    dsimp only at z0 z1 z2
                    have f0 := HGC.out.1.rw.free 0
                    have f1 := HGC.out.1.rw.free 1
                    have f2 := HGC.out.1.rw.free 2
                    refine wpAnyH_ready (rs := [13]) (by kernel_rfl) (by simp) (AllReadyH.cons rfl (fun K hK => ?_) AllReadyH.nil)
                    rw [if_pos (by rfl)]
                    go_simp
                    have HST := Lib.hid (HSB.out ⟨c, r, some ⟨g5, 0, none⟩, n, k5⟩)
                    unfold set3 at HST
                    dsimp only at HST
                    refine hK.out _ _ (SX.out _ HST.out.1) (fun hHeld => ?_)
                    clear hK K
                    refine wpAnyH_done (by kernel_rfl) ?_ _
                    refine NoPanic.normal ?_
                    clear hHeld z0 z1 z2 f0 f1 f2
                    generalize ((wB.setCell ⟨b13, 0, none⟩ (.int .i64 (c : Int))).setCell ⟨b13, 1, none⟩ (.int .i64 (r : Int))).setCell ⟨b13, 2, none⟩ (.slice (some ⟨g5, 0, none⟩) n k5) = wz at HST ⊢
                    have Z := Lib.hid (show Below w0.heap.size w0 wz ∧ Gb wz b ⟨c, r, A, n, k⟩ ∧ Pen4 wz (b + 1) p ∧ Tb wz w0.heap.size g S LL' ∧ Gb wz b13 ⟨c, r, some ⟨g5, 0, none⟩, n, k5⟩ ∧ Rw ceV 41 wz g5 HH.flatten from ⟨X2.out.1.trans (HST.out.1.mono X2.out.1.size), X2.out.2.1.below HST.out.1, X2.out.2.2.1.below HST.out.1, X2.out.2.2.2.below HST.out.1, HST.out.2.1, HST.out.2.2⟩)
                    have HCL := Lib.hid (And.intro hk5 hb1)
                    clear hb1 HC1 HC2 SX hba hb4 hb5 hb6 hb7 hg5 hR4 hR5 hk4 HST HSB HGC
                    go_wp2_with fail
                    go_loopw [72] (fun i wr => ∃ q : Nat, q ≤ r ∧ i = .int .i64 q ∧ Below wz.heap.size wz wr) (fun i _ => r - (intOf i).toNat)
                    case atStart => exact ⟨0, Nat.zero_le _, rfl, Below.refl _ _⟩
                    case round =>
                      obtain ⟨q, hq, rfl, hbw⟩ := hrel
                      have U := Lib.hid (show Below w0.heap.size w0 wr ∧ Gb wr b ⟨c, r, A, n, k⟩ ∧ Pen4 wr (b + 1) p ∧ Tb wr w0.heap.size g S LL' ∧ Gb wr b13 ⟨c, r, some ⟨g5, 0, none⟩, n, k5⟩ ∧ Rw ceV 41 wr g5 HH.flatten ∧ Below wz.heap.size wz wr from ⟨Z.out.1.trans (hbw.mono Z.out.1.size), Z.out.2.1.below hbw, Z.out.2.2.1.below hbw, Z.out.2.2.2.1.below hbw, Z.out.2.2.2.2.1.below hbw, Z.out.2.2.2.2.2.below hbw, hbw⟩)
                      clear hbw
                      by_cases hlt : q < r
                      · have hqi : (q : Int) < (r : Int) := by omega
                        have hc1 := HP.out.2.1.c1
                        have hc80 := HP.out.2.1.c80
                        have HQ := Lib.hid (show q < LL'.length ∧ (lAt LL' q).length = c from ⟨by rw [HP.out.2.2.2]; exact hlt, HP.out.2.1.box.row q hlt⟩)
                        have HDQ := Lib.hid (decide_eq_true (show 0 ≤ (q : Int) ∧ (q : Int) < (r : Int) from by omega))
                        obtain ⟨s, hs⟩ : ∃ s, s = sAt S q := ⟨_, rfl⟩
                        have z1 := U.out.2.2.2.1.cell HQ.out.1
                        have hrow := U.out.2.2.2.1.ls.at_ q HQ.out.1
                        rw [← hs] at z1 hrow
                        clear hs
                        have hvs := hrow.vs
                        obtain ⟨gq, hq1, hq2, hsn, hq3⟩ := hrow
                        rw [HQ.out.2] at hsn
                        obtain ⟨sA, sn, sk⟩ := s
                        dsimp only at hsn hvs z1
                        rw [hsn] at hvs z1
                        have HO := Lib.hid hvs
                        clear hsn hvs hq1 hq2 hq3
                        by_cases e1 : t ≤ q
                        · have e1i : (t : Int) ≤ (q : Int) := by omega
                          by_cases e2 : q ≤ bo
                          · have e2i : (q : Int) ≤ (bo : Int) := by omega
                            by_cases e3 : q < t + nn
                            · have e3i : (q : Int) < ((t + nn : Nat) : Int) := by omega
                              obtain ⟨c0, c1, c2, _⟩ := U.out.2.1.g3
                              dsimp only at c0 c1 c2
                              obtain ⟨i0, i1, i2, i3, _⟩ := U.out.2.2.1
                              go_wp2_with fail
                              refine (refBlanks_any p (by omega)).mono ?_
                              rintro e wb ⟨hb, g7, k7, rfl, hg7, hk7, hm7, hR⟩
                              rw [blanks_len] at hk7 ⊢
                              have V0 := Lib.hid (show Below w0.heap.size w0 wb ∧ Gb wb b13 ⟨c, r, some ⟨g5, 0, none⟩, n, k5⟩ ∧ Vs ceV wb (some ⟨g5, 0, none⟩) n HH.flatten ∧ Vs ceV wb (some ⟨g7, 0, none⟩) c (blanksS c p) ∧ Below wz.heap.size wz wb from by
                                have e9 := (U.out.2.2.2.2.2.1.below hb).vs
                                rw [HS2.out.2.2.2.2.2.2] at e9
                                have e1 := hR.vs
                                rw [blanks_len] at e1
                                exact ⟨U.out.1.trans (hb.mono U.out.1.size), U.out.2.2.2.2.1.below hb, e9, e1, U.out.2.2.2.2.2.2.trans (hb.mono U.out.2.2.2.2.2.2.size)⟩)
                              clear hb hR hg7 c0 c1 c2 i0 i1 i2 i3 z1
                              obtain ⟨d0, d1, d2, _⟩ := V0.out.2.1.g3
                              dsimp only at d0 d1 d2
                              have HROW := Lib.hid (show rowAt c HH.flatten q = blanksS c p from by rw [rowAt_flat HS2.out.2.1.box hlt, HS2.out.2.2.2.2.1 q hlt, if_pos ⟨e1, e2, e3⟩])
                              go_wp2_with fail
                              refine (gRow_any (c := c) (r := r) (M := blanksS c p) (ok := true) (q : Int) V0.out.2.2.1 (H.out.tabs.below V0.out.1 (Nat.le_refl _)) hk5 (by omega) (by rw [HS2.out.2.1.may, HDQ.out]; rfl) HROW.out).mono ?_
                              intro e wa hp
                              obtain ⟨hb, g6, k6, rfl, hg6, hk6, hm6, hR⟩ := hp.1 rfl
                              rw [blanks_len] at hk6 ⊢
                              have V := Lib.hid (show Below wz.heap.size wz wa ∧ Vs ceV wa (some ⟨g6, 0, none⟩) c (blanksS c p) ∧ Vs ceV wa (some ⟨g7, 0, none⟩) c (blanksS c p) from by
                                have e1 := hR.vs
                                rw [blanks_len] at e1
                                exact ⟨V0.out.2.2.2.2.trans (hb.mono V0.out.2.2.2.2.size), e1, V0.out.2.2.2.1.below hb⟩)
                              clear hp hb hR hg6 d0 d1 d2
                              go_wp2_with fail
                              refine (sameC_any (c' := k7) V.out.2.1 V.out.2.2 (by omega) (by omega)).mono ?_
                              rintro e w9 ⟨rfl, q9, rfl⟩
                              rw [show decide (blanksS c p = blanksS c p) = true from by simp]
                              have V9 := Lib.hid (belowN V.out.1 q9)
                              go_wp2_with fail
                              go_roundw
                              case rel => exact ⟨q + 1, by omega, by go_num, V9.out⟩
                              case measure => simp [intOf]; omega
                            · have e3i : ((t + nn : Nat) : Int) ≤ (q : Int) := by omega
                              obtain ⟨d0, d1, d2, _⟩ := U.out.2.2.2.2.1.g3
                              dsimp only at d0 d1 d2
                              have HVH := Lib.hid (show Vs ceV wr (some ⟨g5, 0, none⟩) n HH.flatten from by
                                have e9 := U.out.2.2.2.2.2.1.vs
                                rw [HS2.out.2.2.2.2.2.2] at e9
                                exact e9)
                              have HROW := Lib.hid (show rowAt c HH.flatten q = lAt LL' q from by rw [rowAt_flat HS2.out.2.1.box hlt, HS2.out.2.2.2.2.1 q hlt, if_neg (by omega)])
                              go_wp2_with fail
                              refine (gRow_any (c := c) (r := r) (M := lAt LL' q) (ok := true) (q : Int) HVH.out (H.out.tabs.below U.out.1 (Nat.le_refl _)) hk5 (by omega) (by rw [HS2.out.2.1.may, HDQ.out]; rfl) HROW.out).mono ?_
                              intro e wa hp
                              obtain ⟨hb, g6, k6, rfl, hg6, hk6, hm6, hR⟩ := hp.1 rfl
                              rw [HQ.out.2] at hk6 ⊢
                              have V := Lib.hid (show Below wz.heap.size wz wa ∧ Vs ceV wa (some ⟨g6, 0, none⟩) c (lAt LL' q) ∧ Vs ceV wa sA c (lAt LL' q) from by
                                have e1 := hR.vs
                                rw [HQ.out.2] at e1
                                exact ⟨U.out.2.2.2.2.2.2.trans (hb.mono U.out.2.2.2.2.2.2.size), e1, HO.out.below hb⟩)
                              clear hp hb hR hg6 d0 d1 d2 z1
                              go_wp2_with fail
                              refine (sameC_any (c' := sk) V.out.2.1 V.out.2.2 (by omega) (by omega)).mono ?_
                              rintro e w9 ⟨rfl, q9, rfl⟩
                              rw [show decide (lAt LL' q = lAt LL' q) = true from by simp]
                              have V9 := Lib.hid (belowN V.out.1 q9)
                              go_wp2_with fail
                              go_roundw
                              case rel => exact ⟨q + 1, by omega, by go_num, V9.out⟩
                              case measure => simp [intOf]; omega
                          · have e2i : (bo : Int) < (q : Int) := by omega
                            obtain ⟨d0, d1, d2, _⟩ := U.out.2.2.2.2.1.g3
                            dsimp only at d0 d1 d2
                            have HVH := Lib.hid (show Vs ceV wr (some ⟨g5, 0, none⟩) n HH.flatten from by
                              have e9 := U.out.2.2.2.2.2.1.vs
                              rw [HS2.out.2.2.2.2.2.2] at e9
                              exact e9)
                            have HROW := Lib.hid (show rowAt c HH.flatten q = lAt LL' q from by rw [rowAt_flat HS2.out.2.1.box hlt, HS2.out.2.2.2.2.1 q hlt, if_neg (by omega)])
                            go_wp2_with fail
                            refine (gRow_any (c := c) (r := r) (M := lAt LL' q) (ok := true) (q : Int) HVH.out (H.out.tabs.below U.out.1 (Nat.le_refl _)) hk5 (by omega) (by rw [HS2.out.2.1.may, HDQ.out]; rfl) HROW.out).mono ?_
                            intro e wa hp
                            obtain ⟨hb, g6, k6, rfl, hg6, hk6, hm6, hR⟩ := hp.1 rfl
                            rw [HQ.out.2] at hk6 ⊢
                            have V := Lib.hid (show Below wz.heap.size wz wa ∧ Vs ceV wa (some ⟨g6, 0, none⟩) c (lAt LL' q) ∧ Vs ceV wa sA c (lAt LL' q) from by
                              have e1 := hR.vs
                              rw [HQ.out.2] at e1
                              exact ⟨U.out.2.2.2.2.2.2.trans (hb.mono U.out.2.2.2.2.2.2.size), e1, HO.out.below hb⟩)
                            clear hp hb hR hg6 d0 d1 d2 z1
                            go_wp2_with fail
                            refine (sameC_any (c' := sk) V.out.2.1 V.out.2.2 (by omega) (by omega)).mono ?_
                            rintro e w9 ⟨rfl, q9, rfl⟩
                            rw [show decide (lAt LL' q = lAt LL' q) = true from by simp]
                            have V9 := Lib.hid (belowN V.out.1 q9)
                            go_wp2_with fail
                            go_roundw
                            case rel => exact ⟨q + 1, by omega, by go_num, V9.out⟩
                            case measure => simp [intOf]; omega
                        · have e1i : (q : Int) < (t : Int) := by omega
                          obtain ⟨d0, d1, d2, _⟩ := U.out.2.2.2.2.1.g3
                          dsimp only at d0 d1 d2
                          have HVH := Lib.hid (show Vs ceV wr (some ⟨g5, 0, none⟩) n HH.flatten from by
                            have e9 := U.out.2.2.2.2.2.1.vs
                            rw [HS2.out.2.2.2.2.2.2] at e9
                            exact e9)
                          have HROW := Lib.hid (show rowAt c HH.flatten q = lAt LL' q from by rw [rowAt_flat HS2.out.2.1.box hlt, HS2.out.2.2.2.2.1 q hlt, if_neg (by omega)])
                          go_wp2_with fail
                          refine (gRow_any (c := c) (r := r) (M := lAt LL' q) (ok := true) (q : Int) HVH.out (H.out.tabs.below U.out.1 (Nat.le_refl _)) hk5 (by omega) (by rw [HS2.out.2.1.may, HDQ.out]; rfl) HROW.out).mono ?_
                          intro e wa hp
                          obtain ⟨hb, g6, k6, rfl, hg6, hk6, hm6, hR⟩ := hp.1 rfl
                          rw [HQ.out.2] at hk6 ⊢
                          have V := Lib.hid (show Below wz.heap.size wz wa ∧ Vs ceV wa (some ⟨g6, 0, none⟩) c (lAt LL' q) ∧ Vs ceV wa sA c (lAt LL' q) from by
                            have e1 := hR.vs
                            rw [HQ.out.2] at e1
                            exact ⟨U.out.2.2.2.2.2.2.trans (hb.mono U.out.2.2.2.2.2.2.size), e1, HO.out.below hb⟩)
                          clear hp hb hR hg6 d0 d1 d2 z1
                          go_wp2_with fail
                          refine (sameC_any (c' := sk) V.out.2.1 V.out.2.2 (by omega) (by omega)).mono ?_
                          rintro e w9 ⟨rfl, q9, rfl⟩
                          rw [show decide (lAt LL' q = lAt LL' q) = true from by simp]
                          have V9 := Lib.hid (belowN V.out.1 q9)
                          go_wp2_with fail
                          go_roundw
                          case rel => exact ⟨q + 1, by omega, by go_num, V9.out⟩
                          case measure => simp [intOf]; omega
                      · obtain rfl : q = r := by omega
                        go_wp2_with fail
                        refine (fixedG_any (H.out.tabs.below U.out.1 (Nat.le_refl _))).mono ?_
                        rintro e w9 ⟨rfl, hb⟩
                        have X9 := Lib.hid (H.out.bel.trans ((U.out.1.trans (hb.mono U.out.1.size)).mono H.out.bel.size))
                        clear hb
                        go_wp2_with fail
                        go_ret
                        exact ⟨rfl, X9.out⟩
                  · rw [if_pos (by rfl)]
                    go_simp
                    have hba := hb5.alloc hb5.size (.cells (gV 0 0 none 0 0) 24)
                    have HGN := Lib.hid (gb_new w4 gr0)
                    refine hK.out _ _ (SX.out _ hba) (fun hHeld => ?_)
                    clear hK K
                    try simp only [Act.put]
                    try simp only [List.setIfInBounds_toArray]
                    try simp only [List.set_cons_succ]
                    try simp only [List.set_cons_zero]
                    obtain ⟨wB, hwB⟩ : ∃ wB, wB = w4.alloc (.cells (gV 0 0 none 0 0) 24) := ⟨_, rfl⟩
                    obtain ⟨b13, hb13⟩ : ∃ b13, b13 = w4.heap.size := ⟨_, rfl⟩
                    have HGB := Lib.hid (show Gb wB b13 gr0 ∧ w2.heap.size ≤ b13 from ⟨by rw [hwB, hb13]; exact HGN.out, by rw [hb13]; exact hb5.size⟩)
                    have HWB := Lib.hid hwB
                    unfold gV at hwB hHeld hba
                    rw [← hwB] at hHeld hba
                    rw [← hwB, ← hb13]
                    clear hwB hb13 HGN
                    refine wpAnyH_ready (rs := [11]) (by kernel_rfl) (by simp) (AllReadyH.cons rfl (fun K hK => ?_) AllReadyH.nil)
                    rw [if_pos (by rfl)]
                    go_simp
                    refine (HC2.out _ _ _ hba hk4 (by rw [HWB.out]; exact hR4.below (below1 _ _))).mono ?_
                    rintro e w5 ⟨g5, k5, rfl, hb6, hg5, hk5, hR5⟩
                    have hb7 := Below.trans (B := w2.heap.size) hba (hb6.mono (below_sz (a := w2) (B := w2.heap.size) hba))
                    refine hK.out _ _ (SX.out _ hb7) (fun hHeld => ?_)
                    clear hK K
                    try simp only [Act.put]
                    try simp only [List.setIfInBounds_toArray]
                    try simp only [List.set_cons_succ]
                    try simp only [List.set_cons_zero]
                    have HGC := Lib.hid (show Gb w5 b13 gr0 ∧ Rw ceV 41 w5 g5 HH.flatten from ⟨(HGB.out.1.below hb6), hR5⟩)
                    have HSB := Lib.hid (show ∀ x : GR, Below w2.heap.size w2 (set3 w5 b13 x) ∧ Gb (set3 w5 b13 x) b13 x ∧ Rw ceV 41 (set3 w5 b13 x) g5 HH.flatten from fun x => by
                      have h9 := gb_set3 x HGC.out.1
                      exact ⟨hb7.grown h9.2 hb7.size (by intro k hk; injection hk with hk; have := HGB.out.2; omega), h9.1, HGC.out.2.grown h9.2 (fun e => rw_apart HGC.out.2 HGC.out.1.rw (by decide) (by injection e with e; exact e.symm))⟩)
                    obtain ⟨z0, z1, z2, _⟩ := HGC.out.1.g3
                    unfold gr0 at z0 z1 z2
                    dsimp only at z0 z1 z2
                    have f0 := HGC.out.1.rw.free 0
                    have f1 := HGC.out.1.rw.free 1
                    have f2 := HGC.out.1.rw.free 2
                    refine wpAnyH_ready (rs := [13]) (by kernel_rfl) (by simp) (AllReadyH.cons rfl (fun K hK => ?_) AllReadyH.nil)
                    rw [if_pos (by rfl)]
                    go_simp
                    have HST := Lib.hid (HSB.out ⟨c, r, some ⟨g5, 0, none⟩, n, k5⟩)
                    unfold set3 at HST
                    dsimp only at HST
                    refine hK.out _ _ (SX.out _ HST.out.1) (fun hHeld => ?_)
                    clear hK K
                    refine wpAnyH_done (by kernel_rfl) ?_ _
                    refine NoPanic.normal ?_
                    clear hHeld z0 z1 z2 f0 f1 f2
                    generalize ((w5.setCell ⟨b13, 0, none⟩ (.int .i64 (c : Int))).setCell ⟨b13, 1, none⟩ (.int .i64 (r : Int))).setCell ⟨b13, 2, none⟩ (.slice (some ⟨g5, 0, none⟩) n k5) = wz at HST ⊢
                    have Z := Lib.hid (show Below w0.heap.size w0 wz ∧ Gb wz b ⟨c, r, A, n, k⟩ ∧ Pen4 wz (b + 1) p ∧ Tb wz w0.heap.size g S LL' ∧ Gb wz b13 ⟨c, r, some ⟨g5, 0, none⟩, n, k5⟩ ∧ Rw ceV 41 wz g5 HH.flatten from ⟨X2.out.1.trans (HST.out.1.mono X2.out.1.size), X2.out.2.1.below HST.out.1, X2.out.2.2.1.below HST.out.1, X2.out.2.2.2.below HST.out.1, HST.out.2.1, HST.out.2.2⟩)
                    have HCL := Lib.hid (And.intro hk5 hb1)
                    clear hb1 HC1 HC2 SX hba hb4 hb5 hb6 hb7 hg5 hR4 hR5 hk4 HST HSB HGC
                    go_wp2_with fail
                    go_loopw [72] (fun i wr => ∃ q : Nat, q ≤ r ∧ i = .int .i64 q ∧ Below wz.heap.size wz wr) (fun i _ => r - (intOf i).toNat)
                    case atStart => exact ⟨0, Nat.zero_le _, rfl, Below.refl _ _⟩
                    case round =>
                      obtain ⟨q, hq, rfl, hbw⟩ := hrel
                      have U := Lib.hid (show Below w0.heap.size w0 wr ∧ Gb wr b ⟨c, r, A, n, k⟩ ∧ Pen4 wr (b + 1) p ∧ Tb wr w0.heap.size g S LL' ∧ Gb wr b13 ⟨c, r, some ⟨g5, 0, none⟩, n, k5⟩ ∧ Rw ceV 41 wr g5 HH.flatten ∧ Below wz.heap.size wz wr from ⟨Z.out.1.trans (hbw.mono Z.out.1.size), Z.out.2.1.below hbw, Z.out.2.2.1.below hbw, Z.out.2.2.2.1.below hbw, Z.out.2.2.2.2.1.below hbw, Z.out.2.2.2.2.2.below hbw, hbw⟩)
                      clear hbw
                      by_cases hlt : q < r
                      · have hqi : (q : Int) < (r : Int) := by omega
                        have hc1 := HP.out.2.1.c1
                        have hc80 := HP.out.2.1.c80
                        have HQ := Lib.hid (show q < LL'.length ∧ (lAt LL' q).length = c from ⟨by rw [HP.out.2.2.2]; exact hlt, HP.out.2.1.box.row q hlt⟩)
                        have HDQ := Lib.hid (decide_eq_true (show 0 ≤ (q : Int) ∧ (q : Int) < (r : Int) from by omega))
                        obtain ⟨s, hs⟩ : ∃ s, s = sAt S q := ⟨_, rfl⟩
                        have z1 := U.out.2.2.2.1.cell HQ.out.1
                        have hrow := U.out.2.2.2.1.ls.at_ q HQ.out.1
                        rw [← hs] at z1 hrow
                        clear hs
                        have hvs := hrow.vs
                        obtain ⟨gq, hq1, hq2, hsn, hq3⟩ := hrow
                        rw [HQ.out.2] at hsn
                        obtain ⟨sA, sn, sk⟩ := s
                        dsimp only at hsn hvs z1
                        rw [hsn] at hvs z1
                        have HO := Lib.hid hvs
                        clear hsn hvs hq1 hq2 hq3
                        by_cases e1 : t ≤ q
                        · have e1i : (t : Int) ≤ (q : Int) := by omega
                          by_cases e2 : q ≤ bo
                          · have e2i : (q : Int) ≤ (bo : Int) := by omega
                            by_cases e3 : q < t + nn
                            · have e3i : (q : Int) < ((t + nn : Nat) : Int) := by omega
                              obtain ⟨c0, c1, c2, _⟩ := U.out.2.1.g3
                              dsimp only at c0 c1 c2
                              obtain ⟨i0, i1, i2, i3, _⟩ := U.out.2.2.1
                              go_wp2_with fail
                              refine (refBlanks_any p (by omega)).mono ?_
                              rintro e wb ⟨hb, g7, k7, rfl, hg7, hk7, hm7, hR⟩
                              rw [blanks_len] at hk7 ⊢
                              have V0 := Lib.hid (show Below w0.heap.size w0 wb ∧ Gb wb b13 ⟨c, r, some ⟨g5, 0, none⟩, n, k5⟩ ∧ Vs ceV wb (some ⟨g5, 0, none⟩) n HH.flatten ∧ Vs ceV wb (some ⟨g7, 0, none⟩) c (blanksS c p) ∧ Below wz.heap.size wz wb from by
                                have e9 := (U.out.2.2.2.2.2.1.below hb).vs
                                rw [HS2.out.2.2.2.2.2.2] at e9
                                have e1 := hR.vs
                                rw [blanks_len] at e1
                                exact ⟨U.out.1.trans (hb.mono U.out.1.size), U.out.2.2.2.2.1.below hb, e9, e1, U.out.2.2.2.2.2.2.trans (hb.mono U.out.2.2.2.2.2.2.size)⟩)
                              clear hb hR hg7 c0 c1 c2 i0 i1 i2 i3 z1
                              obtain ⟨d0, d1, d2, _⟩ := V0.out.2.1.g3
                              dsimp only at d0 d1 d2
                              have HROW := Lib.hid (show rowAt c HH.flatten q = blanksS c p from by rw [rowAt_flat HS2.out.2.1.box hlt, HS2.out.2.2.2.2.1 q hlt, if_pos ⟨e1, e2, e3⟩])
                              go_wp2_with fail
                              refine (gRow_any (c := c) (r := r) (M := blanksS c p) (ok := true) (q : Int) V0.out.2.2.1 (H.out.tabs.below V0.out.1 (Nat.le_refl _)) hk5 (by omega) (by rw [HS2.out.2.1.may, HDQ.out]; rfl) HROW.out).mono ?_
                              intro e wa hp
                              obtain ⟨hb, g6, k6, rfl, hg6, hk6, hm6, hR⟩ := hp.1 rfl
                              rw [blanks_len] at hk6 ⊢
                              have V := Lib.hid (show Below wz.heap.size wz wa ∧ Vs ceV wa (some ⟨g6, 0, none⟩) c (blanksS c p) ∧ Vs ceV wa (some ⟨g7, 0, none⟩) c (blanksS c p) from by
                                have e1 := hR.vs
                                rw [blanks_len] at e1
                                exact ⟨V0.out.2.2.2.2.trans (hb.mono V0.out.2.2.2.2.size), e1, V0.out.2.2.2.1.below hb⟩)
                              clear hp hb hR hg6 d0 d1 d2
                              go_wp2_with fail
                              refine (sameC_any (c' := k7) V.out.2.1 V.out.2.2 (by omega) (by omega)).mono ?_
                              rintro e w9 ⟨rfl, q9, rfl⟩
                              rw [show decide (blanksS c p = blanksS c p) = true from by simp]
                              have V9 := Lib.hid (belowN V.out.1 q9)
                              go_wp2_with fail
                              go_roundw
                              case rel => exact ⟨q + 1, by omega, by go_num, V9.out⟩
                              case measure => simp [intOf]; omega
                            · have e3i : ((t + nn : Nat) : Int) ≤ (q : Int) := by omega
                              obtain ⟨d0, d1, d2, _⟩ := U.out.2.2.2.2.1.g3
                              dsimp only at d0 d1 d2
                              have HVH := Lib.hid (show Vs ceV wr (some ⟨g5, 0, none⟩) n HH.flatten from by
                                have e9 := U.out.2.2.2.2.2.1.vs
                                rw [HS2.out.2.2.2.2.2.2] at e9
                                exact e9)
                              have HROW := Lib.hid (show rowAt c HH.flatten q = lAt LL' q from by rw [rowAt_flat HS2.out.2.1.box hlt, HS2.out.2.2.2.2.1 q hlt, if_neg (by omega)])
                              go_wp2_with fail
                              refine (gRow_any (c := c) (r := r) (M := lAt LL' q) (ok := true) (q : Int) HVH.out (H.out.tabs.below U.out.1 (Nat.le_refl _)) hk5 (by omega) (by rw [HS2.out.2.1.may, HDQ.out]; rfl) HROW.out).mono ?_
                              intro e wa hp
                              obtain ⟨hb, g6, k6, rfl, hg6, hk6, hm6, hR⟩ := hp.1 rfl
                              rw [HQ.out.2] at hk6 ⊢
                              have V := Lib.hid (show Below wz.heap.size wz wa ∧ Vs ceV wa (some ⟨g6, 0, none⟩) c (lAt LL' q) ∧ Vs ceV wa sA c (lAt LL' q) from by
                                have e1 := hR.vs
                                rw [HQ.out.2] at e1
                                exact ⟨U.out.2.2.2.2.2.2.trans (hb.mono U.out.2.2.2.2.2.2.size), e1, HO.out.below hb⟩)
                              clear hp hb hR hg6 d0 d1 d2 z1
                              go_wp2_with fail
                              refine (sameC_any (c' := sk) V.out.2.1 V.out.2.2 (by omega) (by omega)).mono ?_
                              rintro e w9 ⟨rfl, q9, rfl⟩
                              rw [show decide (lAt LL' q = lAt LL' q) = true from by simp]
                              have V9 := Lib.hid (belowN V.out.1 q9)
                              go_wp2_with fail
                              go_roundw
                              case rel => exact ⟨q + 1, by omega, by go_num, V9.out⟩
                              case measure => simp [intOf]; omega
                          · have e2i : (bo : Int) < (q : Int) := by omega
                            obtain ⟨d0, d1, d2, _⟩ := U.out.2.2.2.2.1.g3
                            dsimp only at d0 d1 d2
                            have HVH := Lib.hid (show Vs ceV wr (some ⟨g5, 0, none⟩) n HH.flatten from by
                              have e9 := U.out.2.2.2.2.2.1.vs
                              rw [HS2.out.2.2.2.2.2.2] at e9
                              exact e9)
                            have HROW := Lib.hid (show rowAt c HH.flatten q = lAt LL' q from by rw [rowAt_flat HS2.out.2.1.box hlt, HS2.out.2.2.2.2.1 q hlt, if_neg (by omega)])
                            go_wp2_with fail
                            refine (gRow_any (c := c) (r := r) (M := lAt LL' q) (ok := true) (q : Int) HVH.out (H.out.tabs.below U.out.1 (Nat.le_refl _)) hk5 (by omega) (by rw [HS2.out.2.1.may, HDQ.out]; rfl) HROW.out).mono ?_
                            intro e wa hp
                            obtain ⟨hb, g6, k6, rfl, hg6, hk6, hm6, hR⟩ := hp.1 rfl
                            rw [HQ.out.2] at hk6 ⊢
                            have V := Lib.hid (show Below wz.heap.size wz wa ∧ Vs ceV wa (some ⟨g6, 0, none⟩) c (lAt LL' q) ∧ Vs ceV wa sA c (lAt LL' q) from by
                              have e1 := hR.vs
                              rw [HQ.out.2] at e1
                              exact ⟨U.out.2.2.2.2.2.2.trans (hb.mono U.out.2.2.2.2.2.2.size), e1, HO.out.below hb⟩)
                            clear hp hb hR hg6 d0 d1 d2 z1
                            go_wp2_with fail
                            refine (sameC_any (c' := sk) V.out.2.1 V.out.2.2 (by omega) (by omega)).mono ?_
                            rintro e w9 ⟨rfl, q9, rfl⟩
                            rw [show decide (lAt LL' q = lAt LL' q) = true from by simp]
                            have V9 := Lib.hid (belowN V.out.1 q9)
                            go_wp2_with fail
                            go_roundw
                            case rel => exact ⟨q + 1, by omega, by go_num, V9.out⟩
                            case measure => simp [intOf]; omega
                        · have e1i : (q : Int) < (t : Int) := by omega
                          obtain ⟨d0, d1, d2, _⟩ := U.out.2.2.2.2.1.g3
                          dsimp only at d0 d1 d2
                          have HVH := Lib.hid (show Vs ceV wr (some ⟨g5, 0, none⟩) n HH.flatten from by
                            have e9 := U.out.2.2.2.2.2.1.vs
                            rw [HS2.out.2.2.2.2.2.2] at e9
                            exact e9)
                          have HROW := Lib.hid (show rowAt c HH.flatten q = lAt LL' q from by rw [rowAt_flat HS2.out.2.1.box hlt, HS2.out.2.2.2.2.1 q hlt, if_neg (by omega)])
                          go_wp2_with fail
                          refine (gRow_any (c := c) (r := r) (M := lAt LL' q) (ok := true) (q : Int) HVH.out (H.out.tabs.below U.out.1 (Nat.le_refl _)) hk5 (by omega) (by rw [HS2.out.2.1.may, HDQ.out]; rfl) HROW.out).mono ?_
                          intro e wa hp
                          obtain ⟨hb, g6, k6, rfl, hg6, hk6, hm6, hR⟩ := hp.1 rfl
                          rw [HQ.out.2] at hk6 ⊢
                          have V := Lib.hid (show Below wz.heap.size wz wa ∧ Vs ceV wa (some ⟨g6, 0, none⟩) c (lAt LL' q) ∧ Vs ceV wa sA c (lAt LL' q) from by
                            have e1 := hR.vs
                            rw [HQ.out.2] at e1
                            exact ⟨U.out.2.2.2.2.2.2.trans (hb.mono U.out.2.2.2.2.2.2.size), e1, HO.out.below hb⟩)
                          clear hp hb hR hg6 d0 d1 d2 z1
                          go_wp2_with fail
                          refine (sameC_any (c' := sk) V.out.2.1 V.out.2.2 (by omega) (by omega)).mono ?_
                          rintro e w9 ⟨rfl, q9, rfl⟩
                          rw [show decide (lAt LL' q = lAt LL' q) = true from by simp]
                          have V9 := Lib.hid (belowN V.out.1 q9)
                          go_wp2_with fail
                          go_roundw
                          case rel => exact ⟨q + 1, by omega, by go_num, V9.out⟩
                          case measure => simp [intOf]; omega
                      · obtain rfl : q = r := by omega
                        go_wp2_with fail
                        refine (fixedG_any (H.out.tabs.below U.out.1 (Nat.le_refl _))).mono ?_
                        rintro e w9 ⟨rfl, hb⟩
                        have X9 := Lib.hid (H.out.bel.trans ((U.out.1.trans (hb.mono U.out.1.size)).mono H.out.bel.size))
                        clear hb
                        go_wp2_with fail
                        go_ret
                        exact ⟨rfl, X9.out⟩
                · rw [if_pos (by rfl)]
                  go_simp
                  have hba := hb1.alloc hb1.size (.cells (gV 0 0 none 0 0) 24)
                  have HGN := Lib.hid (gb_new wd gr0)
                  refine hK.out _ _ (SX.out _ hba) (fun hHeld => ?_)
                  clear hK K
                  try simp only [Act.put]
                  try simp only [List.setIfInBounds_toArray]
                  try simp only [List.set_cons_succ]
                  try simp only [List.set_cons_zero]
                  obtain ⟨wB, hwB⟩ : ∃ wB, wB = wd.alloc (.cells (gV 0 0 none 0 0) 24) := ⟨_, rfl⟩
                  obtain ⟨b13, hb13⟩ : ∃ b13, b13 = wd.heap.size := ⟨_, rfl⟩
                  have HGB := Lib.hid (show Gb wB b13 gr0 ∧ w2.heap.size ≤ b13 from ⟨by rw [hwB, hb13]; exact HGN.out, by rw [hb13]; exact hb1.size⟩)
                  have HWB := Lib.hid hwB
                  unfold gV at hwB hHeld hba
                  rw [← hwB] at hHeld hba
                  rw [← hwB, ← hb13]
                  clear hwB hb13 HGN
                  refine wpAnyH_ready (rs := [5]) (by kernel_rfl) (by simp) (AllReadyH.cons rfl (fun K hK => ?_) AllReadyH.nil)
                  rw [if_pos (by rfl)]
                  go_simp
                  refine (HC1.out _ hba).mono ?_
                  rintro e w4 ⟨g4, k4, rfl, hb4, hk4, hR4⟩
                  have hb5 := Below.trans (B := w2.heap.size) hba (hb4.mono (below_sz (a := w2) (B := w2.heap.size) hba))
                  refine hK.out _ _ (SX.out _ hb5) (fun hHeld => ?_)
                  clear hK K
                  try simp only [Act.put]
                  try simp only [List.setIfInBounds_toArray]
                  try simp only [List.set_cons_succ]
                  try simp only [List.set_cons_zero]
                  refine wpAnyH_ready (rs := [11]) (by kernel_rfl) (by simp) (AllReadyH.cons rfl (fun K hK => ?_) AllReadyH.nil)
                  rw [if_pos (by rfl)]
                  go_simp
                  refine (HC2.out _ _ _ hb5 hk4 hR4).mono ?_
                  rintro e w5 ⟨g5, k5, rfl, hb6, hg5, hk5, hR5⟩
                  have hb7 := Below.trans (B := w2.heap.size) hb5 (hb6.mono (below_sz (a := w2) (B := w2.heap.size) hb5))
                  refine hK.out _ _ (SX.out _ hb7) (fun hHeld => ?_)
                  clear hK K
                  try simp only [Act.put]
                  try simp only [List.setIfInBounds_toArray]
                  try simp only [List.set_cons_succ]
                  try simp only [List.set_cons_zero]
                  have HGC := Lib.hid (show Gb w5 b13 gr0 ∧ Rw ceV 41 w5 g5 HH.flatten from ⟨((HGB.out.1.below hb4).below hb6), hR5⟩)
                  have HSB := Lib.hid (show ∀ x : GR, Below w2.heap.size w2 (set3 w5 b13 x) ∧ Gb (set3 w5 b13 x) b13 x ∧ Rw ceV 41 (set3 w5 b13 x) g5 HH.flatten from fun x => by
                    have h9 := gb_set3 x HGC.out.1
                    exact ⟨hb7.grown h9.2 hb7.size (by intro k hk; injection hk with hk; have := HGB.out.2; omega), h9.1, HGC.out.2.grown h9.2 (fun e => rw_apart HGC.out.2 HGC.out.1.rw (by decide) (by injection e with e; exact e.symm))⟩)
                  obtain ⟨z0, z1, z2, _⟩ := HGC.out.1.g3
                  unfold gr0 at z0 z1 z2
                  dsimp only at z0 z1 z2
                  have f0 := HGC.out.1.rw.free 0
                  have f1 := HGC.out.1.rw.free 1
                  have f2 := HGC.out.1.rw.free 2
                  refine wpAnyH_ready (rs := [13]) (by kernel_rfl) (by simp) (AllReadyH.cons rfl (fun K hK => ?_) AllReadyH.nil)
                  rw [if_pos (by rfl)]
                  go_simp
                  have HST := Lib.hid (HSB.out ⟨c, r, some ⟨g5, 0, none⟩, n, k5⟩)
                  unfold set3 at HST
                  dsimp only at HST
                  refine hK.out _ _ (SX.out _ HST.out.1) (fun hHeld => ?_)
                  clear hK K
                  refine wpAnyH_done (by kernel_rfl) ?_ _
                  refine NoPanic.normal ?_
                  clear hHeld z0 z1 z2 f0 f1 f2
                  generalize ((w5.setCell ⟨b13, 0, none⟩ (.int .i64 (c : Int))).setCell ⟨b13, 1, none⟩ (.int .i64 (r : Int))).setCell ⟨b13, 2, none⟩ (.slice (some ⟨g5, 0, none⟩) n k5) = wz at HST ⊢
                  have Z := Lib.hid (show Below w0.heap.size w0 wz ∧ Gb wz b ⟨c, r, A, n, k⟩ ∧ Pen4 wz (b + 1) p ∧ Tb wz w0.heap.size g S LL' ∧ Gb wz b13 ⟨c, r, some ⟨g5, 0, none⟩, n, k5⟩ ∧ Rw ceV 41 wz g5 HH.flatten from ⟨X2.out.1.trans (HST.out.1.mono X2.out.1.size), X2.out.2.1.below HST.out.1, X2.out.2.2.1.below HST.out.1, X2.out.2.2.2.below HST.out.1, HST.out.2.1, HST.out.2.2⟩)
                  have HCL := Lib.hid (And.intro hk5 hb1)
                  clear hb1 HC1 HC2 SX hba hb4 hb5 hb6 hb7 hg5 hR4 hR5 hk4 HST HSB HGC
                  go_wp2_with fail
                  go_loopw [72] (fun i wr => ∃ q : Nat, q ≤ r ∧ i = .int .i64 q ∧ Below wz.heap.size wz wr) (fun i _ => r - (intOf i).toNat)
                  case atStart => exact ⟨0, Nat.zero_le _, rfl, Below.refl _ _⟩
                  case round =>
                    obtain ⟨q, hq, rfl, hbw⟩ := hrel
                    have U := Lib.hid (show Below w0.heap.size w0 wr ∧ Gb wr b ⟨c, r, A, n, k⟩ ∧ Pen4 wr (b + 1) p ∧ Tb wr w0.heap.size g S LL' ∧ Gb wr b13 ⟨c, r, some ⟨g5, 0, none⟩, n, k5⟩ ∧ Rw ceV 41 wr g5 HH.flatten ∧ Below wz.heap.size wz wr from ⟨Z.out.1.trans (hbw.mono Z.out.1.size), Z.out.2.1.below hbw, Z.out.2.2.1.below hbw, Z.out.2.2.2.1.below hbw, Z.out.2.2.2.2.1.below hbw, Z.out.2.2.2.2.2.below hbw, hbw⟩)
                    clear hbw
                    by_cases hlt : q < r
                    · have hqi : (q : Int) < (r : Int) := by omega
                      have hc1 := HP.out.2.1.c1
                      have hc80 := HP.out.2.1.c80
                      have HQ := Lib.hid (show q < LL'.length ∧ (lAt LL' q).length = c from ⟨by rw [HP.out.2.2.2]; exact hlt, HP.out.2.1.box.row q hlt⟩)
                      have HDQ := Lib.hid (decide_eq_true (show 0 ≤ (q : Int) ∧ (q : Int) < (r : Int) from by omega))
                      obtain ⟨s, hs⟩ : ∃ s, s = sAt S q := ⟨_, rfl⟩
                      have z1 := U.out.2.2.2.1.cell HQ.out.1
                      have hrow := U.out.2.2.2.1.ls.at_ q HQ.out.1
                      rw [← hs] at z1 hrow
                      clear hs
                      have hvs := hrow.vs
                      obtain ⟨gq, hq1, hq2, hsn, hq3⟩ := hrow
                      rw [HQ.out.2] at hsn
                      obtain ⟨sA, sn, sk⟩ := s
                      dsimp only at hsn hvs z1
                      rw [hsn] at hvs z1
                      have HO := Lib.hid hvs
                      clear hsn hvs hq1 hq2 hq3
                      by_cases e1 : t ≤ q
                      · have e1i : (t : Int) ≤ (q : Int) := by omega
                        by_cases e2 : q ≤ bo
                        · have e2i : (q : Int) ≤ (bo : Int) := by omega
                          by_cases e3 : q < t + nn
                          · have e3i : (q : Int) < ((t + nn : Nat) : Int) := by omega
                            obtain ⟨c0, c1, c2, _⟩ := U.out.2.1.g3
                            dsimp only at c0 c1 c2
                            obtain ⟨i0, i1, i2, i3, _⟩ := U.out.2.2.1
                            go_wp2_with fail
                            refine (refBlanks_any p (by omega)).mono ?_
                            rintro e wb ⟨hb, g7, k7, rfl, hg7, hk7, hm7, hR⟩
                            rw [blanks_len] at hk7 ⊢
                            have V0 := Lib.hid (show Below w0.heap.size w0 wb ∧ Gb wb b13 ⟨c, r, some ⟨g5, 0, none⟩, n, k5⟩ ∧ Vs ceV wb (some ⟨g5, 0, none⟩) n HH.flatten ∧ Vs ceV wb (some ⟨g7, 0, none⟩) c (blanksS c p) ∧ Below wz.heap.size wz wb from by
                              have e9 := (U.out.2.2.2.2.2.1.below hb).vs
                              rw [HS2.out.2.2.2.2.2.2] at e9
                              have e1 := hR.vs
                              rw [blanks_len] at e1
                              exact ⟨U.out.1.trans (hb.mono U.out.1.size), U.out.2.2.2.2.1.below hb, e9, e1, U.out.2.2.2.2.2.2.trans (hb.mono U.out.2.2.2.2.2.2.size)⟩)
                            clear hb hR hg7 c0 c1 c2 i0 i1 i2 i3 z1
                            obtain ⟨d0, d1, d2, _⟩ := V0.out.2.1.g3
                            dsimp only at d0 d1 d2
                            have HROW := Lib.hid (show rowAt c HH.flatten q = blanksS c p from by rw [rowAt_flat HS2.out.2.1.box hlt, HS2.out.2.2.2.2.1 q hlt, if_pos ⟨e1, e2, e3⟩])
                            go_wp2_with fail
                            refine (gRow_any (c := c) (r := r) (M := blanksS c p) (ok := true) (q : Int) V0.out.2.2.1 (H.out.tabs.below V0.out.1 (Nat.le_refl _)) hk5 (by omega) (by rw [HS2.out.2.1.may, HDQ.out]; rfl) HROW.out).mono ?_
                            intro e wa hp
                            obtain ⟨hb, g6, k6, rfl, hg6, hk6, hm6, hR⟩ := hp.1 rfl
                            rw [blanks_len] at hk6 ⊢
                            have V := Lib.hid (show Below wz.heap.size wz wa ∧ Vs ceV wa (some ⟨g6, 0, none⟩) c (blanksS c p) ∧ Vs ceV wa (some ⟨g7, 0, none⟩) c (blanksS c p) from by
                              have e1 := hR.vs
                              rw [blanks_len] at e1
                              exact ⟨V0.out.2.2.2.2.trans (hb.mono V0.out.2.2.2.2.size), e1, V0.out.2.2.2.1.below hb⟩)
                            clear hp hb hR hg6 d0 d1 d2
                            go_wp2_with fail
                            refine (sameC_any (c' := k7) V.out.2.1 V.out.2.2 (by omega) (by omega)).mono ?_
                            rintro e w9 ⟨rfl, q9, rfl⟩
                            rw [show decide (blanksS c p = blanksS c p) = true from by simp]
                            have V9 := Lib.hid (belowN V.out.1 q9)
                            go_wp2_with fail
                            go_roundw
                            case rel => exact ⟨q + 1, by omega, by go_num, V9.out⟩
                            case measure => simp [intOf]; omega
                          · have e3i : ((t + nn : Nat) : Int) ≤ (q : Int) := by omega
                            obtain ⟨d0, d1, d2, _⟩ := U.out.2.2.2.2.1.g3
                            dsimp only at d0 d1 d2
                            have HVH := Lib.hid (show Vs ceV wr (some ⟨g5, 0, none⟩) n HH.flatten from by
                              have e9 := U.out.2.2.2.2.2.1.vs
                              rw [HS2.out.2.2.2.2.2.2] at e9
                              exact e9)
                            have HROW := Lib.hid (show rowAt c HH.flatten q = lAt LL' q from by rw [rowAt_flat HS2.out.2.1.box hlt, HS2.out.2.2.2.2.1 q hlt, if_neg (by omega)])
                            go_wp2_with fail
                            refine (gRow_any (c := c) (r := r) (M := lAt LL' q) (ok := true) (q : Int) HVH.out (H.out.tabs.below U.out.1 (Nat.le_refl _)) hk5 (by omega) (by rw [HS2.out.2.1.may, HDQ.out]; rfl) HROW.out).mono ?_
                            intro e wa hp
                            obtain ⟨hb, g6, k6, rfl, hg6, hk6, hm6, hR⟩ := hp.1 rfl
                            rw [HQ.out.2] at hk6 ⊢
                            have V := Lib.hid (show Below wz.heap.size wz wa ∧ Vs ceV wa (some ⟨g6, 0, none⟩) c (lAt LL' q) ∧ Vs ceV wa sA c (lAt LL' q) from by
                              have e1 := hR.vs
                              rw [HQ.out.2] at e1
                              exact ⟨U.out.2.2.2.2.2.2.trans (hb.mono U.out.2.2.2.2.2.2.size), e1, HO.out.below hb⟩)
                            clear hp hb hR hg6 d0 d1 d2 z1
                            go_wp2_with fail
                            refine (sameC_any (c' := sk) V.out.2.1 V.out.2.2 (by omega) (by omega)).mono ?_
                            rintro e w9 ⟨rfl, q9, rfl⟩
                            rw [show decide (lAt LL' q = lAt LL' q) = true from by simp]
                            have V9 := Lib.hid (belowN V.out.1 q9)
                            go_wp2_with fail
                            go_roundw
                            case rel => exact ⟨q + 1, by omega, by go_num, V9.out⟩
                            case measure => simp [intOf]; omega
                        · have e2i : (bo : Int) < (q : Int) := by omega
                          obtain ⟨d0, d1, d2, _⟩ := U.out.2.2.2.2.1.g3
                          dsimp only at d0 d1 d2
                          have HVH := Lib.hid (show Vs ceV wr (some ⟨g5, 0, none⟩) n HH.flatten from by
                            have e9 := U.out.2.2.2.2.2.1.vs
                            rw [HS2.out.2.2.2.2.2.2] at e9
                            exact e9)
                          have HROW := Lib.hid (show rowAt c HH.flatten q = lAt LL' q from by rw [rowAt_flat HS2.out.2.1.box hlt, HS2.out.2.2.2.2.1 q hlt, if_neg (by omega)])
                          go_wp2_with fail
                          refine (gRow_any (c := c) (r := r) (M := lAt LL' q) (ok := true) (q : Int) HVH.out (H.out.tabs.below U.out.1 (Nat.le_refl _)) hk5 (by omega) (by rw [HS2.out.2.1.may, HDQ.out]; rfl) HROW.out).mono ?_
                          intro e wa hp
                          obtain ⟨hb, g6, k6, rfl, hg6, hk6, hm6, hR⟩ := hp.1 rfl
                          rw [HQ.out.2] at hk6 ⊢
                          have V := Lib.hid (show Below wz.heap.size wz wa ∧ Vs ceV wa (some ⟨g6, 0, none⟩) c (lAt LL' q) ∧ Vs ceV wa sA c (lAt LL' q) from by
                            have e1 := hR.vs
                            rw [HQ.out.2] at e1
                            exact ⟨U.out.2.2.2.2.2.2.trans (hb.mono U.out.2.2.2.2.2.2.size), e1, HO.out.below hb⟩)
                          clear hp hb hR hg6 d0 d1 d2 z1
                          go_wp2_with fail
                          refine (sameC_any (c' := sk) V.out.2.1 V.out.2.2 (by omega) (by omega)).mono ?_
                          rintro e w9 ⟨rfl, q9, rfl⟩
                          rw [show decide (lAt LL' q = lAt LL' q) = true from by simp]
                          have V9 := Lib.hid (belowN V.out.1 q9)
                          go_wp2_with fail
                          go_roundw
                          case rel => exact ⟨q + 1, by omega, by go_num, V9.out⟩
                          case measure => simp [intOf]; omega
                      · have e1i : (q : Int) < (t : Int) := by omega
                        obtain ⟨d0, d1, d2, _⟩ := U.out.2.2.2.2.1.g3
                        dsimp only at d0 d1 d2
                        have HVH := Lib.hid (show Vs ceV wr (some ⟨g5, 0, none⟩) n HH.flatten from by
                          have e9 := U.out.2.2.2.2.2.1.vs
                          rw [HS2.out.2.2.2.2.2.2] at e9
                          exact e9)
                        have HROW := Lib.hid (show rowAt c HH.flatten q = lAt LL' q from by rw [rowAt_flat HS2.out.2.1.box hlt, HS2.out.2.2.2.2.1 q hlt, if_neg (by omega)])
                        go_wp2_with fail
                        refine (gRow_any (c := c) (r := r) (M := lAt LL' q) (ok := true) (q : Int) HVH.out (H.out.tabs.below U.out.1 (Nat.le_refl _)) hk5 (by omega) (by rw [HS2.out.2.1.may, HDQ.out]; rfl) HROW.out).mono ?_
                        intro e wa hp
                        obtain ⟨hb, g6, k6, rfl, hg6, hk6, hm6, hR⟩ := hp.1 rfl
                        rw [HQ.out.2] at hk6 ⊢
                        have V := Lib.hid (show Below wz.heap.size wz wa ∧ Vs ceV wa (some ⟨g6, 0, none⟩) c (lAt LL' q) ∧ Vs ceV wa sA c (lAt LL' q) from by
                          have e1 := hR.vs
                          rw [HQ.out.2] at e1
                          exact ⟨U.out.2.2.2.2.2.2.trans (hb.mono U.out.2.2.2.2.2.2.size), e1, HO.out.below hb⟩)
                        clear hp hb hR hg6 d0 d1 d2 z1
                        go_wp2_with fail
                        refine (sameC_any (c' := sk) V.out.2.1 V.out.2.2 (by omega) (by omega)).mono ?_
                        rintro e w9 ⟨rfl, q9, rfl⟩
                        rw [show decide (lAt LL' q = lAt LL' q) = true from by simp]
                        have V9 := Lib.hid (belowN V.out.1 q9)
                        go_wp2_with fail
                        go_roundw
                        case rel => exact ⟨q + 1, by omega, by go_num, V9.out⟩
                        case measure => simp [intOf]; omega
                    · obtain rfl : q = r := by omega
                      go_wp2_with fail
                      refine (fixedG_any (H.out.tabs.below U.out.1 (Nat.le_refl _))).mono ?_
                      rintro e w9 ⟨rfl, hb⟩
                      have X9 := Lib.hid (H.out.bel.trans ((U.out.1.trans (hb.mono U.out.1.size)).mono H.out.bel.size))
                      clear hb
                      go_wp2_with fail
                      go_ret
                      exact ⟨rfl, X9.out⟩

set_option maxRecDepth 100000 in
theorem lifted (os : Os) (started : os.Started) (H : Type) (enc : TypeId × Value → H) :
    ReturnsInHanded {} Tryd.checked os 7 .any (fun w args => (Rows.gridScrollsSpec.pre enc Tryd.prog Tryd.f7 [] false w args ∧ laidMetH Tryd.prog laidL w) ∧ sizedMet enc Tryd.prog Tryd.f7 (OpenSpec.ofChange Rows.gridScrollsSpec) false w args)
      (Rows.gridScrollsSpec.post enc Tryd.prog Tryd.f7 false true false false) := by
  refine returnsInHanded_of_change_and (C := Tryd.checked) (X := fun w _ => laidMetH Tryd.prog laidL w) (fun _ _ _ hh h => h.of_heap hh) own started (by kernel_rfl) Tryd.func7
    (ChangeSpec.witness_shaped (enc := enc) (C := Tryd.checked) (os := os) (X := fun w _ => laidMetH Tryd.prog laidL w) false (World.laidAll Tryd.prog os laidL) #[.agg #[.int .i64 0, .int .i64 0, .slice none 0 0], .int .i64 0, .int .i64 0, .int .i64 0, .agg #[.int .u32 0, .int .u32 0, .int .u8 0, .int .u16 0]] 8 (World.laidAll_os _ _ _) (start_shaped os) (by kernel_rfl) (by kernel_rfl) (by kernel_rfl) (start_met os _)) ?_
  intro W base args ds gs before hval0 hW _ hsz0 hL _
  have hsz : (DataW.weightsEach Tryd.prog (Tryd.f7.params.toList ++ Rows.gridScrollsSpec.plain.varTypes Tryd.prog) (ds ++ gs)).all (· ≤ reachBytes) = true := hsz0
  clear hsz0
  have hval : ∀ (j : Nat) t v, Tryd.f7.params[j]? = some t → args[j]? = some v → Value.okWide Tryd.prog W .any base t v := hval0
  have hW' := hW
  obtain ⟨p, q, hA0, hV, rfl, _, _⟩ := hW
  have hA : DataW.TrodAll enc Tryd.prog W 0 (fun _ => true) true Tryd.f7.params.toList args.toList ds p := hA0
  rw [Tryd.params7] at hA hval hsz
  obtain ⟨v0, vs0, d0, ds0, p0, q0, hargs, rfl, rfl, h0, r0⟩ := trodAll_cons hA
  obtain ⟨v1, vs1, d1, ds1, p1, q1, rfl, rfl, rfl, h1, r1⟩ := trodAll_cons r0
  obtain ⟨v2, vs2, d2, ds2, p2, q2, rfl, rfl, rfl, h2, r2⟩ := trodAll_cons r1
  obtain ⟨v3, vs3, d3, ds3, p3, q3, rfl, rfl, rfl, h3, r3⟩ := trodAll_cons r2
  obtain ⟨v4, vs4, d4, ds4, p4, q4, rfl, rfl, rfl, h4, r4⟩ := trodAll_cons r3
  obtain ⟨rfl, rfl, rfl⟩ := trodAll_nil r4
  obtain rfl : args = #[v0, v1, v2, v3, v4] := by cases args; simp_all
  obtain ⟨rfl, rfl⟩ := trodVars_none hV
  have lt0 : ∀ x ∈ p0, x.block < W.heap.size := by obtain ⟨m, hm⟩ := h0; exact DataW.trod_lt m _ _ _ hm
  obtain ⟨gc0, gr0, A0, n0, k0, L0, rfl, s0⟩ := open_grid (hval 0 24 v0 rfl rfl) h0
  obtain ⟨a1, rfl, rfl, rfl, w1⟩ := open_int Tryd.underlying3 (hval 1 3 v1 rfl rfl) h1
  obtain ⟨a2, rfl, rfl, rfl, w2⟩ := open_int Tryd.underlying3 (hval 2 3 v2 rfl rfl) h2
  obtain ⟨a3, rfl, rfl, rfl, w3⟩ := open_int Tryd.underlying3 (hval 3 3 v3 rfl rfl) h3
  have lt4 : ∀ x ∈ p4, x.block < W.heap.size := by obtain ⟨m, hm⟩ := h4; exact DataW.trod_lt m _ _ _ hm
  obtain ⟨q4, rfl, s4⟩ := open_pen (hval 4 29 v4 rfl rfl) h4
  clear hA0 hval0
  refine (walk W (tabs_of_laid hL) s0 w1 w2 w3 s4).mono fun e W' ⟨he, bel⟩ => ?_
  subst he
  exact ⟨_, rfl, _, _, _, [], _, [], hW', trodAll_mk1 (shut_bool Tryd.underlying4 _), (trodAll_cons_mk (Below.trod laidOut (by kernel_rfl) (of_decide_eq_true (by kernel_rfl)) h0 bel lt0) (trodAll_cons_mk (shut_int Tryd.underlying3 w1) (trodAll_cons_mk (shut_int Tryd.underlying3 w2) (trodAll_cons_mk (shut_int Tryd.underlying3 w3) (trodAll_cons_mk (Below.trod laidOut (by kernel_rfl) (of_decide_eq_true (by kernel_rfl)) h4 bel lt4) trodAll_mk0))))), rfl, bel.frame _, fun h => by cases h⟩

theorem over : Rows.gridScrollsRow.holds Tryd.pinned (OpenSpec.ofChange Rows.gridScrollsSpec) :=
  OpenClaim.holds_of_wide 7 Tryd.f7 rfl rfl rfl rfl rfl rfl rfl ⟨rfl, rfl, rfl, rfl, rfl⟩ rfl rfl rfl rfl rfl (by kernel_rfl) Tryd.func7 (by kernel_rfl)
    (of_decide_eq_true (by kernel_rfl)) (by unfold Func.isWrapper; first | (rw [if_pos (by decide +kernel)]; kernel_rfl) | (rw [if_neg (by decide +kernel)]; exact ⟨rfl, rfl⟩))
    (fun os started H enc _ => lifted os started H enc)

theorem proved : Rows.GridScrollsCardSaid :=
  Claim7.holds_tied_plain_at .later [] [.data] true Rows.gridScrollsCard.stood.harness false
    over (fun _ h => by cases h) (by kernel_rfl) (fun _ h => by cases h) gridScrolls_row_tie rfl ⟨rfl, rfl⟩ (by kernel_rfl) rfl
    (fun f fn hf hfn => by
      obtain rfl : f = 7 := Option.some.inj ((show Tryd.prog.funcNamed "spyglass/spyglasslaw09.GridScrolls" = some 7 by kernel_rfl).symm.trans hf) |>.symm
      obtain rfl : fn = Tryd.f7 := (Option.some.inj (Tryd.func7.symm.trans hfn)).symm
      exact ⟨by kernel_rfl, fun j t ht => by
        rw [Tryd.params7] at ht
        have hm : t ∈ [24, 3, 3, 3, 29] := by simpa using Array.mem_of_getElem? ht
        have hall : ([24, 3, 3, 3, 29].all fun u => !Tryd.prog.wantsStandIn u) = true := by kernel_rfl
        exact (show Tryd.prog.wantsStandIn t = false by simpa using List.all_eq_true.1 hall t hm)⟩)
    (by kernel_rfl)
end Go.Proofs.YtflnocgahdlojaaDoor.gridScrolls
