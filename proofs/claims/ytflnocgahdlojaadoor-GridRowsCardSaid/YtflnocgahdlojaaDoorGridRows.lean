/-
  Proved: GridRows answers true for every grid, every row's number and every call, over the table that the program lays (a tied card).
-/
import Derived.Test.YtflnocgahdlojaaDoorOpen
import Derived.Test.YtflnocgahdlojaaDoorCards
import Derived.Test.YtflnocgahdlojaaDoorTie
import Derived.SevenTiedAt
import Derived.Test.YtflnocgahdlojaaDoorCellTab
import Derived.Test.YtflnocgahdlojaaDoorGridOpen
import Derived.Test.YtflnocgahdlojaaDoorGridFx
import Derived.WalkKit
import Derived.Deep.RegionHeld3
import Derived.Deep.RegionWith
namespace Go.Proofs.YtflnocgahdlojaaDoor.gridRows
open Go.ChangeShapes Go.WideShapes Go.ChangeAt Go.RowKit

theorem opG_is {c r : Nat} {LL : Rws} (h : Gk c r LL) {p : Pn} (hp : penMayS p = true) (F : Nat → Rws → Rws) : opG (c : Int) (r : Int) LL.flatten p F = some (c, r, F c LL) := by
  unfold opG
  rw [if_pos ⟨h.may, hp⟩, Int.toNat_natCast, Int.toNat_natCast, rows_of_flat h.box]
theorem inRow_else (F : List Ce → List Ce) (y : Int) (LL : Rws) {i : Nat} (hi : (i : Int) ≠ y) : lAt (inRowS F y LL) i = lAt LL i := by
  unfold inRowS
  split
  · rw [lAt_set, if_neg]
    rintro ⟨e, _⟩
    omega
  · rfl
theorem do_row {c r : Nat} {LL : Rws} (h : Gk c r LL) (o : Op9) (h0 : 0 ≤ o.k) (h2 : o.k ≤ 2) (hp : penMayS o.p = true) :
    ∃ M, doG (c : Int) (r : Int) LL.flatten o = some (c, r, M) ∧ Gk c r M ∧ ∀ i : Nat, (i : Int) ≠ o.y → lAt M i = lAt LL i := by
  have hk : o.k = 0 ∨ o.k = 1 ∨ o.k = 2 := by omega
  unfold doG
  rcases hk with hk | hk | hk
  · rw [if_pos hk, opG_is h hp]
    exact ⟨_, rfl, inRow_ok h (fun _ => putS_length _ _ _ _) (fun _ h => put_ok h _ _ hp) _, fun i hi => inRow_else _ _ _ hi⟩
  · rw [if_neg (by omega), if_pos hk, opG_is h hp]
    exact ⟨_, rfl, inRow_ok h (fun _ => insertS_length _ _ _ _) (fun _ h => ins_ok h _ _ hp) _, fun i hi => inRow_else _ _ _ hi⟩
  · rw [if_neg (by omega), if_neg (by omega), if_pos hk, opG_is h hp]
    exact ⟨_, rfl, inRow_ok h (fun _ => deleteS_length _ _ _ _) (fun _ h => del_ok h _ _ hp) _, fun i hi => inRow_else _ _ _ hi⟩
structure St (w w0 : World) (b : Nat) (c r : Int) (A : Option Addr) (n k : Nat) (o : Op9) (L : List Ce) : Prop where
  bel : Below w.heap.size w w0
  tabs : Tabs w0
  vs : Vs ceV w0 A n L
  gb : Gb w0 b ⟨c, r, A, n, k⟩
  op : Op9c w0 (b + 1) o

set_option maxHeartbeats 6400000 in
set_option maxRecDepth 100000 in
/-- The walk. -/
theorem walk {gc gr : Int} {A : Option Addr} {n k : Nat} {L : List Ce} {y : Int} {o : Op9} (w : World) (hT : Tabs w) (hs : Vs ceV w A n L ∧ n ≤ k ∧ k ≤ maxLen) (_ : (Lit.int .i64 y).wf = true) (_ : True) :
    Calls Tryd.prog 6 #[.agg (gV gc gr A n k), .int .i64 y, .agg (opA9 o)] w fun e w' => e = .returned (.bool true) ∧ Below w.heap.size w w' := by
  obtain ⟨hv, hk, hm⟩ := hs
  unfold maxLen at hm
  obtain ⟨w0, hw0⟩ : ∃ w0, w0 = (w.alloc (.cells (gV gc gr A n k) 24)).alloc (.cells (opA9 o) 31) := ⟨_, rfl⟩
  obtain ⟨b, hbe⟩ : ∃ b, b = w.heap.size := ⟨_, rfl⟩
  have H := Lib.hid (show St w w0 b gc gr A n k o L from by
    have h0 := below1 w (.cells (gV gc gr A n k) 24)
    have h1 := h0.alloc h0.size (.cells (opA9 o) 31)
    have h2 := op9_new (w.alloc (.cells (gV gc gr A n k) 24)) o 31
    rw [alloc_size] at h2
    rw [hw0, hbe]
    exact ⟨h1, hT.below h1 (Nat.le_refl _), hv.below h1, (gb_new w ⟨gc, gr, A, n, k⟩).below (below1 _ _), h2⟩)
  have HL := Lib.hid hv.len
  clear hv hT
  obtain ⟨m, hm2⟩ : ∃ m, gridMay gc gr L = m := ⟨_, rfl⟩
  have HM := Lib.hid hm2
  clear hm2
  obtain ⟨LL, hLL⟩ : ∃ LL, rowsS gc.toNat gr.toNat L = LL := ⟨_, rfl⟩
  have HLL := Lib.hid hLL
  clear hLL
  obtain ⟨c0, c1, c2, _⟩ := H.out.gb.g3
  dsimp only at c0 c1 c2
  unfold gV opA9 at hw0
  go_enter Tryd.func6, Tryd.ntmps6
  unfold gV opA9
  go_upto_region 1 with fail
  rw [← hw0, ← hbe]
  clear hw0 hbe
  go_wp2_with fail
  refine (refRows_any H.out.vs hk (by omega) HM.out HLL.out).mono ?_
  rintro e w1 ⟨hyes, hno⟩
  clear c0 c1 c2
  cases m
  · obtain ⟨rfl, hb⟩ := hno rfl
    have X := Lib.hid (And.intro hb (H.out.gb.below hb))
    clear hyes hno hb
    obtain ⟨c0, c1, c2, _⟩ := X.out.2.g3
    dsimp only at c0 c1 c2
    by_cases h4 : (4000 : Int) < (n : Int)
    ·
      go_wp2_with fail
      refine (fixedG_any (H.out.tabs.below X.out.1 (Nat.le_refl _))).mono ?_
      rintro e w9 ⟨rfl, hb⟩
      have X9 := Lib.hid ((H.out.bel.trans (Below.mono X.out.1 H.out.bel.size)).trans (hb.mono (H.out.bel.trans (Below.mono X.out.1 H.out.bel.size)).size))
      clear hb
      go_wp2_with fail
      go_ret
      exact ⟨rfl, X9.out⟩
    · have h4' : (n : Int) ≤ 4000 := by omega
      go_wp2_with fail
      refine (fixedG_any (H.out.tabs.below X.out.1 (Nat.le_refl _))).mono ?_
      rintro e w9 ⟨rfl, hb⟩
      have X9 := Lib.hid ((H.out.bel.trans (Below.mono X.out.1 H.out.bel.size)).trans (hb.mono (H.out.bel.trans (Below.mono X.out.1 H.out.bel.size)).size))
      clear hb
      go_wp2_with fail
      go_ret
      exact ⟨rfl, X9.out⟩
  · obtain ⟨hb, g, k', S, rfl, hg, hk1, hk2, htb⟩ := hyes rfl
    have X := Lib.hid (And.intro hb (And.intro (H.out.gb.below hb) (And.intro (H.out.op.below hb) htb)))
    obtain ⟨c, r, LL', rfl, rfl, hL', hrows, hgk⟩ := ((gridMay_iff _ _ _).1 HM.out).parts
    obtain rfl : LL' = LL := hrows.symm.trans HLL.out
    have HP := Lib.hid (show L = LL'.flatten ∧ Gk c r LL' ∧ n = r * c ∧ LL'.length = r from ⟨hL', hgk, by rw [← HL.out, hL']; exact hgk.box.flen, hgk.box.len⟩)
    have h4 : (n : Int) ≤ 4000 := by have := hgk.small; have := HP.out.2.2.1; omega
    rw [HP.out.2.2.2] at hk1 ⊢
    clear hyes hno hb hg hk2 htb hL' hrows hgk
    obtain ⟨c0, c1, c2, _⟩ := X.out.2.1.g3
    dsimp only at c0 c1 c2
    obtain ⟨d0, d1, d2, d3, d4, d5, d6, d7, d8, _⟩ := X.out.2.2.1
    by_cases e1 : o.k < 0
    ·
      go_wp2_with fail
      refine (fixedG_any (H.out.tabs.below X.out.1 (Nat.le_refl _))).mono ?_
      rintro e w9 ⟨rfl, hb⟩
      have X9 := Lib.hid ((H.out.bel.trans (Below.mono X.out.1 H.out.bel.size)).trans (hb.mono (H.out.bel.trans (Below.mono X.out.1 H.out.bel.size)).size))
      clear hb
      go_wp2_with fail
      go_ret
      exact ⟨rfl, X9.out⟩
    · have e1' : 0 ≤ o.k := by omega
      by_cases e2 : 2 < o.k
      ·
        go_wp2_with fail
        refine (fixedG_any (H.out.tabs.below X.out.1 (Nat.le_refl _))).mono ?_
        rintro e w9 ⟨rfl, hb⟩
        have X9 := Lib.hid ((H.out.bel.trans (Below.mono X.out.1 H.out.bel.size)).trans (hb.mono (H.out.bel.trans (Below.mono X.out.1 H.out.bel.size)).size))
        clear hb
        go_wp2_with fail
        go_ret
        exact ⟨rfl, X9.out⟩
      · have e2' : o.k ≤ 2 := by omega
        go_wp2_with fail
        refine (refPenMay_any o.p _).mono ?_
        rintro e w2 ⟨rfl, hb⟩
        have X2 := Lib.hid (And.intro (X.out.1.trans (hb.mono X.out.1.size)) (And.intro (X.out.2.1.below hb) (And.intro (X.out.2.2.1.below hb) (X.out.2.2.2.below hb))))
        clear hb c0 c1 c2 d0 d1 d2 d3 d4 d5 d6 d7 d8 X
        obtain ⟨c0, c1, c2, _⟩ := X2.out.2.1.g3
        dsimp only at c0 c1 c2
        obtain ⟨d0, d1, d2, d3, d4, d5, d6, d7, d8, _⟩ := X2.out.2.2.1
        obtain ⟨pm, hpm⟩ : ∃ pm, penMayS o.p = pm := ⟨_, rfl⟩
        rw [hpm]
        have HPM := Lib.hid hpm
        clear hpm
        cases pm
        ·
          go_wp2_with fail
          refine (fixedG_any (H.out.tabs.below X2.out.1 (Nat.le_refl _))).mono ?_
          rintro e w9 ⟨rfl, hb⟩
          have X9 := Lib.hid ((H.out.bel.trans (Below.mono X2.out.1 H.out.bel.size)).trans (hb.mono (H.out.bel.trans (Below.mono X2.out.1 H.out.bel.size)).size))
          clear hb
          go_wp2_with fail
          go_ret
          exact ⟨rfl, X9.out⟩
        · by_cases hz : 0 ≤ y ∧ y < (r : Int)
          · obtain ⟨q, rfl⟩ : ∃ q : Nat, y = (q : Int) := ⟨y.toNat, by omega⟩
            have hqr : (q : Int) < (r : Int) := hz.2
            have HQ := Lib.hid (show q < r ∧ q < LL'.length ∧ (lAt LL' q).length = c ∧ rowAt c L q = lAt LL' q ∧ decide (0 ≤ (q : Int) ∧ (q : Int) < (r : Int)) = true from by
              have h1 : q < r := by omega
              exact ⟨h1, by rw [HP.out.2.2.2]; exact h1, HP.out.2.1.box.row q h1, by rw [HP.out.1]; exact rowAt_flat HP.out.2.1.box h1, decide_eq_true hz⟩)
            clear hz e1 e2
            obtain ⟨M, hM1, hM2, hM3⟩ := do_row HP.out.2.1 o e1' e2' HPM.out
            have HDM := Lib.hid (And.intro hM1 (And.intro hM2 hM3))
            clear hM1 hM2 hM3
            go_wp2_with fail
            refine (gRow_any (c := c) (r := r) (M := lAt LL' q) (ok := true) (q : Int) (H.out.vs.below X2.out.1) (H.out.tabs.below X2.out.1 (Nat.le_refl _)) hk (by omega) (by rw [HM.out, HQ.out.2.2.2.2]; rfl) HQ.out.2.2.2.1).mono ?_
            intro e wa hp
            obtain ⟨hb, g3, k3, rfl, hg3, hk3, hm3, hR⟩ := hp.1 rfl
            rw [HQ.out.2.2.1] at hk3 ⊢
            have X3 := Lib.hid (And.intro (X2.out.1.trans (hb.mono X2.out.1.size)) (And.intro (X2.out.2.1.below hb) (And.intro (X2.out.2.2.1.below hb) (And.intro (X2.out.2.2.2.below hb) hR))))
            clear hp hb hR hg3 c0 c1 c2 d0 d1 d2 d3 d4 d5 d6 d7 d8 X2
            obtain ⟨c0, c1, c2, _⟩ := X3.out.2.1.g3
            dsimp only at c0 c1 c2
            obtain ⟨d0, d1, d2, d3, d4, d5, d6, d7, d8, _⟩ := X3.out.2.2.1
            have HDO := do9_any (c := c) (r := r) o (H.out.vs.below X3.out.1) (H.out.tabs.below X3.out.1 (Nat.le_refl _)) hk (by omega) e1' (by omega)
            unfold gV opA9 at HDO
            have HDO := Lib.hid HDO
            go_wp2_with fail
            refine HDO.out.mono ?_
            intro e w2 hp
            obtain ⟨hb, g2, k2, rfl, hg2, hk2, hm2, hR⟩ := hp.1 c r M (by rw [HP.out.1]; exact HDM.out.1)
            have hML : M.flatten.length = n := by rw [HDM.out.2.1.box.flen]; exact HP.out.2.2.1.symm
            rw [hML] at hk2 ⊢
            have HML := Lib.hid hML
            obtain ⟨w3, hw3⟩ : ∃ w3, w3 = w2.alloc (.cells (gV (c : Int) (r : Int) (some ⟨g2, 0, none⟩) n k2) 24) := ⟨_, rfl⟩
            obtain ⟨b9, hb9⟩ : ∃ b9, b9 = w2.heap.size := ⟨_, rfl⟩
            have Y := Lib.hid (show Below w0.heap.size w0 w3 ∧ Op9c w3 (b + 1) o ∧ Gb w3 b9 ⟨c, r, some ⟨g2, 0, none⟩, n, k2⟩ ∧ Rw ceV 41 w3 g2 M.flatten ∧ Tb w3 w0.heap.size g S LL' ∧ Rw ceV 41 w3 g3 (lAt LL' q) from by
              have h1 := X3.out.1.trans (hb.mono X3.out.1.size)
              rw [hw3, hb9]
              exact ⟨h1.alloc h1.size _, (X3.out.2.2.1.below hb).below (below1 _ _), gb_new w2 ⟨c, r, some ⟨g2, 0, none⟩, n, k2⟩, hR.below (below1 _ _), (X3.out.2.2.2.1.below hb).below (below1 _ _), (X3.out.2.2.2.2.below hb).below (below1 _ _)⟩)
            clear hp hb hg2 hR hML c0 c1 c2 d0 d1 d2 d3 d4 d5 d6 d7 d8 h4 HDO
            unfold gV at hw3 ⊢
            go_upto_region 8 with fail
            rw [← hw3, ← hb9]
            clear hw3 hb9 X3
            have hb1 : Below w3.heap.size w3 w3.drew := belowN (Below.refl _ _) 1
            obtain ⟨s, hs⟩ : ∃ s, s = sAt S q := ⟨_, rfl⟩
            have HO := Lib.hid (show ∀ w', Below w3.heap.size w3 w' → w'.cell? ⟨g, q, none⟩ = some (.slice s.A s.n s.k) ∧ Vs ceV w' s.A c (lAt LL' q) from fun w' hb => by
              rw [hs]
              have h7 := (Y.out.2.2.2.2.1.below hb).ls.at_ q HQ.out.2.1
              have h8 := h7.vs
              obtain ⟨_, _, _, h9, _⟩ := h7
              rw [h9, HQ.out.2.2.1] at h8
              exact ⟨(Y.out.2.2.2.2.1.below hb).cell HQ.out.2.1, h8⟩)
            have hsn : s.n = c := by
              obtain ⟨_, _, _, h9, _⟩ := Y.out.2.2.2.2.1.ls.at_ q HQ.out.2.1
              rw [hs, h9, HQ.out.2.2.1]
            have HSN := Lib.hid hsn
            clear hs hsn
            have SX := Lib.hid (show ∀ w', Below w3.heap.size w3 w' → (fun w' => Below w3.heap.size w3 w' ∧ (w'.cell? ⟨b9, 0, none⟩ = some (.int .i64 (c : Int)) ∧ w'.cell? ⟨b9, 1, none⟩ = some (.int .i64 (r : Int)) ∧ w'.cell? ⟨b9, 2, none⟩ = some (.slice (some ⟨g2, 0, none⟩) n k2) ∧ w'.cell? ⟨g, q, none⟩ = some (.slice s.A s.n s.k) ∧ w'.cell? ⟨b + 1, 2, none⟩ = some (.int .i64 o.y))) w' from fun w' hb => by
              obtain ⟨f0, f1, f2, _⟩ := (Y.out.2.2.1.below hb).g3
              exact ⟨hb, f0, f1, f2, (HO.out w' hb).1, (Y.out.2.1.below hb).c2⟩)
            have HFX := Lib.hid (show ∀ w', Below w3.heap.size w3 w' → Calls Tryd.prog 9 #[] w' fun e w'' => e = .returned (.bool true) ∧ Below w'.heap.size w' w'' from fun w' hb => fixedG_any (H.out.tabs.below (Y.out.1.trans (hb.mono Y.out.1.size)) (Nat.le_refl _)))
            have HS1 := Lib.hid (show ∀ w', Below w3.heap.size w3 w' → Calls Tryd.prog 19 #[.slice (some ⟨g3, 0, none⟩) c k3, .slice s.A s.n s.k] w' fun e w'' => e = .returned (.bool true) ∧ Below w'.heap.size w' w'' from fun w' hb => by
              have h7 := (Y.out.2.2.2.2.2.below hb).vs
              rw [HQ.out.2.2.1] at h7
              have hc := HP.out.2.1.c80
              refine (sameC_any (c' := s.k) h7 (by rw [HSN.out]; exact (HO.out w' hb).2 : Vs ceV w' s.A s.n (lAt LL' q)) (by omega) (by rw [HSN.out]; omega)).mono ?_
              rintro e w'' ⟨rfl, q', rfl⟩
              exact ⟨by simp, belowN (Below.refl _ _) _⟩)
            by_cases hy : (q : Int) = o.y
            · have hyb : ((q : Int) == o.y) = true := by simpa using hy
              have hyd : decide ((q : Int) = o.y) = true := by simpa using hy
              clear hy
              refine wp_region_noPanic ?_
              refine wp_region_held_drew (S := fun w' => Below w3.heap.size w3 w' ∧ (w'.cell? ⟨b9, 0, none⟩ = some (.int .i64 (c : Int)) ∧ w'.cell? ⟨b9, 1, none⟩ = some (.int .i64 (r : Int)) ∧ w'.cell? ⟨b9, 2, none⟩ = some (.slice (some ⟨g2, 0, none⟩) n k2) ∧ w'.cell? ⟨g, q, none⟩ = some (.slice s.A s.n s.k) ∧ w'.cell? ⟨b + 1, 2, none⟩ = some (.int .i64 o.y))) (by kernel_rfl) (SX.out _ hb1) (fun hHeld => ?_)
              refine wpAnyH_ready (rs := [0]) (by kernel_rfl) (by simp) (AllReadyH.cons rfl (fun K hK => ?_) AllReadyH.nil)
              rw [if_pos (by rfl)]
              go_simp
              refine (HFX.out _ hb1).mono ?_
              rintro e w4 ⟨rfl, hb4⟩
              have hb5 := Below.trans (B := w3.heap.size) hb1 (hb4.mono (below_sz (a := w3) (B := w3.heap.size) hb1))
              refine hK.out _ _ (SX.out _ hb5) (fun hHeld => ?_)
              clear hK K
              try simp only [Act.put, List.getElem_toArray, List.getElem_cons_succ, List.getElem_cons_zero]
              try simp only [List.setIfInBounds_toArray]
              try simp only [List.set_cons_succ]
              try simp only [List.set_cons_zero]
              refine wpAnyH_take (i := 1) (v := .bool true) rfl (by kernel_rfl) (by kernel_rfl) (by kernel_rfl) (fun _ _ _ h => h) (Or.inl ⟨by rfl, fun wz hSz => ?_⟩) hHeld ?_
              · go_simp
              simp only [Act.put, List.getElem_toArray, List.getElem_cons_succ, List.getElem_cons_zero]
              try simp only [List.setIfInBounds_toArray]
              try simp only [List.set_cons_succ]
              try simp only [List.set_cons_zero]
              refine wpAnyH_take (i := 2) (v := .slice (some ⟨g3, 0, none⟩) c k3) rfl (by kernel_rfl) (by kernel_rfl) (by kernel_rfl) (fun _ _ _ h => h) (Or.inl ⟨by rfl, fun wz hSz => ?_⟩) hHeld ?_
              · go_simp
              simp only [Act.put, List.getElem_toArray, List.getElem_cons_succ, List.getElem_cons_zero]
              try simp only [List.setIfInBounds_toArray]
              try simp only [List.set_cons_succ]
              try simp only [List.set_cons_zero]
              refine wpAnyH_take (i := 3) (v := .slice (some ⟨g, 0, none⟩) r k') rfl (by kernel_rfl) (by kernel_rfl) (by kernel_rfl) (fun _ _ _ h => h) (Or.inl ⟨by rfl, fun wz hSz => ?_⟩) hHeld ?_
              · go_simp
              simp only [Act.put, List.getElem_toArray, List.getElem_cons_succ, List.getElem_cons_zero]
              try simp only [List.setIfInBounds_toArray]
              try simp only [List.set_cons_succ]
              try simp only [List.set_cons_zero]
              refine wpAnyH_take (i := 4) (v := .int .i64 q) rfl (by kernel_rfl) (by kernel_rfl) (by kernel_rfl) (fun _ _ _ h => h) (Or.inl ⟨by rfl, fun wz hSz => ?_⟩) hHeld ?_
              · go_simp
              simp only [Act.put, List.getElem_toArray, List.getElem_cons_succ, List.getElem_cons_zero]
              try simp only [List.setIfInBounds_toArray]
              try simp only [List.set_cons_succ]
              try simp only [List.set_cons_zero]
              refine wpAnyH_take (i := 5) (v := .pointer (some ⟨g, q, none⟩)) rfl (by kernel_rfl) (by kernel_rfl) (by kernel_rfl) (fun _ _ _ h => h) (Or.inl ⟨by rfl, fun wz hSz => ?_⟩) hHeld ?_
              · go_simp
              simp only [Act.put, List.getElem_toArray, List.getElem_cons_succ, List.getElem_cons_zero]
              try simp only [List.setIfInBounds_toArray]
              try simp only [List.set_cons_succ]
              try simp only [List.set_cons_zero]
              refine wpAnyH_take (i := 6) (v := .slice s.A s.n s.k) rfl (by kernel_rfl) (by kernel_rfl) (by kernel_rfl) (fun _ _ _ h => h) (Or.inl ⟨by rfl, fun wz hSz => ?_⟩) hHeld ?_
              · obtain ⟨_, _, _, _, y0, _⟩ := hSz; go_simp
              simp only [Act.put, List.getElem_toArray, List.getElem_cons_succ, List.getElem_cons_zero]
              try simp only [List.setIfInBounds_toArray]
              try simp only [List.set_cons_succ]
              try simp only [List.set_cons_zero]
              refine wpAnyH_ready (rs := [7]) (by kernel_rfl) (by simp) (AllReadyH.cons rfl (fun K hK => ?_) AllReadyH.nil)
              rw [if_pos (by rfl)]
              go_simp
              refine (HS1.out _ hb5).mono ?_
              rintro e w5 ⟨rfl, hb6⟩
              have hb7 := Below.trans (B := w3.heap.size) hb5 (hb6.mono (below_sz (a := w3) (B := w3.heap.size) hb5))
              refine hK.out _ _ (SX.out _ hb7) (fun hHeld => ?_)
              clear hK K
              try simp only [Act.put, List.getElem_toArray, List.getElem_cons_succ, List.getElem_cons_zero]
              try simp only [List.setIfInBounds_toArray]
              try simp only [List.set_cons_succ]
              try simp only [List.set_cons_zero]
              refine wpAnyH_take (i := 8) (v := .bool true) rfl (by kernel_rfl) (by kernel_rfl) (by kernel_rfl) (fun _ _ _ h => h) (Or.inl ⟨by rfl, fun wz hSz => ?_⟩) hHeld ?_
              · go_simp
              simp only [Act.put, List.getElem_toArray, List.getElem_cons_succ, List.getElem_cons_zero]
              try simp only [List.setIfInBounds_toArray]
              try simp only [List.set_cons_succ]
              try simp only [List.set_cons_zero]
              refine wpAnyH_take (i := 9) (v := .bool true) rfl (by kernel_rfl) (by kernel_rfl) (by kernel_rfl) (fun _ _ _ h => h) (Or.inl ⟨by rfl, fun wz hSz => ?_⟩) hHeld ?_
              · go_simp
              simp only [Act.put, List.getElem_toArray, List.getElem_cons_succ, List.getElem_cons_zero]
              try simp only [List.setIfInBounds_toArray]
              try simp only [List.set_cons_succ]
              try simp only [List.set_cons_zero]
              refine wpAnyH_take (i := 10) (v := .int .i64 q) rfl (by kernel_rfl) (by kernel_rfl) (by kernel_rfl) (fun _ _ _ h => h) (Or.inl ⟨by rfl, fun wz hSz => ?_⟩) hHeld ?_
              · go_simp
              simp only [Act.put, List.getElem_toArray, List.getElem_cons_succ, List.getElem_cons_zero]
              try simp only [List.setIfInBounds_toArray]
              try simp only [List.set_cons_succ]
              try simp only [List.set_cons_zero]
              refine wpAnyH_take (i := 11) (v := .pointer (some ⟨b + 1, 2, none⟩)) rfl (by kernel_rfl) (by kernel_rfl) (by kernel_rfl) (fun _ _ _ h => h) (Or.inl ⟨by rfl, fun wz hSz => ?_⟩) hHeld ?_
              · go_simp
              simp only [Act.put, List.getElem_toArray, List.getElem_cons_succ, List.getElem_cons_zero]
              try simp only [List.setIfInBounds_toArray]
              try simp only [List.set_cons_succ]
              try simp only [List.set_cons_zero]
              refine wpAnyH_take (i := 12) (v := .int .i64 o.y) rfl (by kernel_rfl) (by kernel_rfl) (by kernel_rfl) (fun _ _ _ h => h) (Or.inl ⟨by rfl, fun wz hSz => ?_⟩) hHeld ?_
              · obtain ⟨_, _, _, _, _, y0⟩ := hSz; go_simp
              simp only [Act.put, List.getElem_toArray, List.getElem_cons_succ, List.getElem_cons_zero]
              try simp only [List.setIfInBounds_toArray]
              try simp only [List.set_cons_succ]
              try simp only [List.set_cons_zero]
              refine wpAnyH_take (i := 13) (v := .bool true) rfl (by kernel_rfl) (by kernel_rfl) (by kernel_rfl) (fun _ _ _ h => h) (Or.inl ⟨by rfl, fun wz hSz => ?_⟩) hHeld ?_
              · go_simp
              simp only [Act.put, List.getElem_toArray, List.getElem_cons_succ, List.getElem_cons_zero]
              try simp only [List.setIfInBounds_toArray]
              try simp only [List.set_cons_succ]
              try simp only [List.set_cons_zero]
              refine wpAnyH_take (i := 14) (v := .bool true) rfl (by kernel_rfl) (by kernel_rfl) (by kernel_rfl) (fun _ _ _ h => h) (Or.inl ⟨by rfl, fun wz hSz => ?_⟩) hHeld ?_
              · go_simp
              simp only [Act.put, List.getElem_toArray, List.getElem_cons_succ, List.getElem_cons_zero]
              try simp only [List.setIfInBounds_toArray]
              try simp only [List.set_cons_succ]
              try simp only [List.set_cons_zero]
              refine wpAnyH_take (i := 15) (v := undef) rfl (by kernel_rfl) (by kernel_rfl) (by kernel_rfl) (fun _ _ _ h => h) (Or.inr ⟨by rfl, rfl⟩) hHeld ?_
              simp only [Act.put, List.getElem_toArray, List.getElem_cons_succ, List.getElem_cons_zero]
              try simp only [List.setIfInBounds_toArray]
              try simp only [List.set_cons_succ]
              try simp only [List.set_cons_zero]
              refine wpAnyH_take (i := 16) (v := undef) rfl (by kernel_rfl) (by kernel_rfl) (by kernel_rfl) (fun _ _ _ h => h) (Or.inr ⟨by rfl, rfl⟩) hHeld ?_
              simp only [Act.put, List.getElem_toArray, List.getElem_cons_succ, List.getElem_cons_zero]
              try simp only [List.setIfInBounds_toArray]
              try simp only [List.set_cons_succ]
              try simp only [List.set_cons_zero]
              refine wpAnyH_take (i := 17) (v := undef) rfl (by kernel_rfl) (by kernel_rfl) (by kernel_rfl) (fun _ _ _ h => h) (Or.inr ⟨by rfl, rfl⟩) hHeld ?_
              simp only [Act.put, List.getElem_toArray, List.getElem_cons_succ, List.getElem_cons_zero]
              try simp only [List.setIfInBounds_toArray]
              try simp only [List.set_cons_succ]
              try simp only [List.set_cons_zero]
              refine wpAnyH_take (i := 18) (v := undef) rfl (by kernel_rfl) (by kernel_rfl) (by kernel_rfl) (fun _ _ _ h => h) (Or.inr ⟨by rfl, rfl⟩) hHeld ?_
              simp only [Act.put, List.getElem_toArray, List.getElem_cons_succ, List.getElem_cons_zero]
              try simp only [List.setIfInBounds_toArray]
              try simp only [List.set_cons_succ]
              try simp only [List.set_cons_zero]
              refine wpAnyH_take (i := 19) (v := undef) rfl (by kernel_rfl) (by kernel_rfl) (by kernel_rfl) (fun _ _ _ h => h) (Or.inr ⟨by rfl, rfl⟩) hHeld ?_
              simp only [Act.put, List.getElem_toArray, List.getElem_cons_succ, List.getElem_cons_zero]
              try simp only [List.setIfInBounds_toArray]
              try simp only [List.set_cons_succ]
              try simp only [List.set_cons_zero]
              refine wpAnyH_take (i := 20) (v := undef) rfl (by kernel_rfl) (by kernel_rfl) (by kernel_rfl) (fun _ _ _ h => h) (Or.inr ⟨by rfl, rfl⟩) hHeld ?_
              simp only [Act.put, List.getElem_toArray, List.getElem_cons_succ, List.getElem_cons_zero]
              try simp only [List.setIfInBounds_toArray]
              try simp only [List.set_cons_succ]
              try simp only [List.set_cons_zero]
              refine wpAnyH_take (i := 21) (v := undef) rfl (by kernel_rfl) (by kernel_rfl) (by kernel_rfl) (fun _ _ _ h => h) (Or.inr ⟨by rfl, rfl⟩) hHeld ?_
              simp only [Act.put, List.getElem_toArray, List.getElem_cons_succ, List.getElem_cons_zero]
              try simp only [List.setIfInBounds_toArray]
              try simp only [List.set_cons_succ]
              try simp only [List.set_cons_zero]
              refine wpAnyH_take (i := 22) (v := undef) rfl (by kernel_rfl) (by kernel_rfl) (by kernel_rfl) (fun _ _ _ h => h) (Or.inr ⟨by rfl, rfl⟩) hHeld ?_
              simp only [Act.put, List.getElem_toArray, List.getElem_cons_succ, List.getElem_cons_zero]
              try simp only [List.setIfInBounds_toArray]
              try simp only [List.set_cons_succ]
              try simp only [List.set_cons_zero]
              refine wpAnyH_take (i := 23) (v := .bool true) rfl (by kernel_rfl) (by kernel_rfl) (by kernel_rfl) (fun _ _ _ h => h) (Or.inl ⟨by rfl, fun wz hSz => ?_⟩) hHeld ?_
              · go_simp
              simp only [Act.put, List.getElem_toArray, List.getElem_cons_succ, List.getElem_cons_zero]
              try simp only [List.setIfInBounds_toArray]
              try simp only [List.set_cons_succ]
              try simp only [List.set_cons_zero]
              refine wpAnyH_take (i := 24) (v := .bool true) rfl (by kernel_rfl) (by kernel_rfl) (by kernel_rfl) (fun _ _ _ h => h) (Or.inl ⟨by rfl, fun wz hSz => ?_⟩) hHeld ?_
              · go_simp
              simp only [Act.put, List.getElem_toArray, List.getElem_cons_succ, List.getElem_cons_zero]
              try simp only [List.setIfInBounds_toArray]
              try simp only [List.set_cons_succ]
              try simp only [List.set_cons_zero]
              refine wpAnyH_take (i := 25) (v := .bool true) rfl (by kernel_rfl) (by kernel_rfl) (by kernel_rfl) (fun _ _ _ h => h) (Or.inl ⟨by rfl, fun wz hSz => ?_⟩) hHeld ?_
              · go_simp
              simp only [Act.put, List.getElem_toArray, List.getElem_cons_succ, List.getElem_cons_zero]
              try simp only [List.setIfInBounds_toArray]
              try simp only [List.set_cons_succ]
              try simp only [List.set_cons_zero]
              refine wpAnyH_done (by kernel_rfl) ?_ _
              refine NoPanic.normal ?_
              have Z := Lib.hid (H.out.bel.trans ((Y.out.1.trans (hb7.mono Y.out.1.size)).mono H.out.bel.size))
              go_wp2_with fail
              go_ret
              exact ⟨rfl, Z.out⟩
            · have hyb : ((q : Int) == o.y) = false := by simpa using hy
              have hyd : decide ((q : Int) = o.y) = false := by simpa using hy
              have HRW := Lib.hid (show ∀ w', Below w3.heap.size w3 w' → Calls Tryd.prog 18 #[.agg #[.int .i64 (c : Int), .int .i64 (r : Int), .slice (some ⟨g2, 0, none⟩) n k2], .int .i64 (q : Int)] w' fun e w'' => ∃ g5 k5, e = .returned (.slice (some ⟨g5, 0, none⟩) c k5) ∧ Below w'.heap.size w' w'' ∧ Rw ceV 41 w'' g5 (lAt LL' q) from fun w' hb => by
                have h7 := (Y.out.2.2.2.1.below hb).vs
                rw [HML.out] at h7
                refine (gRow_any (c := c) (r := r) (M := lAt LL' q) (ok := true) (q : Int) h7 (H.out.tabs.below (Y.out.1.trans (hb.mono Y.out.1.size)) (Nat.le_refl _)) hk2 (by omega) (by rw [HDM.out.2.1.may, HQ.out.2.2.2.2]; rfl) (by
                  rw [← HDM.out.2.2 q hy]
                  exact rowAt_flat HDM.out.2.1.box HQ.out.1)).mono fun e w'' h => ?_
                obtain ⟨h1, g5, k5, he, h2, h3, h4, h5⟩ := h.1 rfl
                rw [HQ.out.2.2.1] at he
                exact ⟨g5, k5, he, h1, h5⟩)
              have HS2 := Lib.hid (show ∀ w' g5 k5, Below w3.heap.size w3 w' → Rw ceV 41 w' g5 (lAt LL' q) → Calls Tryd.prog 19 #[.slice (some ⟨g5, 0, none⟩) c k5, .slice s.A s.n s.k] w' fun e w'' => e = .returned (.bool true) ∧ Below w'.heap.size w' w'' from fun w' g5 k5 hb hR => by
                have h7 := hR.vs
                rw [HQ.out.2.2.1] at h7
                have hc := HP.out.2.1.c80
                refine (sameC_any (c' := s.k) h7 (by rw [HSN.out]; exact (HO.out w' hb).2 : Vs ceV w' s.A s.n (lAt LL' q)) (by omega) (by rw [HSN.out]; omega)).mono ?_
                rintro e w'' ⟨rfl, q', rfl⟩
                exact ⟨by simp, belowN (Below.refl _ _) _⟩)
              clear hy
              go_region_held3 (fun w' => Below w3.heap.size w3 w' ∧ (w'.cell? ⟨b9, 0, none⟩ = some (.int .i64 (c : Int)) ∧ w'.cell? ⟨b9, 1, none⟩ = some (.int .i64 (r : Int)) ∧ w'.cell? ⟨b9, 2, none⟩ = some (.slice (some ⟨g2, 0, none⟩) n k2) ∧ w'.cell? ⟨g, q, none⟩ = some (.slice s.A s.n s.k) ∧ w'.cell? ⟨b + 1, 2, none⟩ = some (.int .i64 o.y)))
                ((refine SX.out _ ?_; assumption))
                ((first
                  | (go_at_call 9; refine (HFX.out _ (by assumption)).mono ?_; rintro e w4 ⟨rfl, hb4⟩; have hb5 := Below.trans (B := w3.heap.size) (by assumption) (hb4.mono (below_sz (a := w3) (B := w3.heap.size) (by assumption))))
                  | (go_at_call 19; (try go_split_ands); with_reducible refine (HS1.out _ (by assumption)).mono ?_; rintro e w4 ⟨rfl, hb4⟩; have hb5 := Below.trans (B := w3.heap.size) (by assumption) (hb4.mono (below_sz (a := w3) (B := w3.heap.size) (by assumption))))
                  | (go_at_call 18; (try go_split_ands); refine (HRW.out _ (by assumption)).mono ?_; rintro e w4 ⟨g5, k5, rfl, hb4, hR4⟩; have hb5 := Below.trans (B := w3.heap.size) (by assumption) (hb4.mono (below_sz (a := w3) (B := w3.heap.size) (by assumption))))
                  | (go_at_call 19; (try go_split_ands); refine (HS2.out _ _ _ (by assumption) hR4).mono ?_; rintro e w4 ⟨rfl, hb4⟩; have hb5 := Below.trans (B := w3.heap.size) (by assumption) (hb4.mono (below_sz (a := w3) (B := w3.heap.size) (by assumption))))))
              have Z := Lib.hid (H.out.bel.trans ((Y.out.1.trans (hb5.mono Y.out.1.size)).mono H.out.bel.size))
              go_wp2_with fail
              go_ret
              exact ⟨rfl, Z.out⟩
          · have HDZ := Lib.hid (decide_eq_false hz)
            go_wp2_with fail
            refine (gRow_any (c := c) (r := r) (ok := false) y (H.out.vs.below X2.out.1) (H.out.tabs.below X2.out.1 (Nat.le_refl _)) hk (by omega) (by rw [HM.out, HDZ.out]; rfl) rfl).mono ?_
            intro e wa hp
            obtain ⟨rfl, hb⟩ := hp.2 rfl
            have X3 := Lib.hid (And.intro (X2.out.1.trans (hb.mono X2.out.1.size)) trivial)
            clear hp hb c0 c1 c2 d0 d1 d2 d3 d4 d5 d6 d7 d8
            by_cases hz0 : y < 0
            · clear hz
              go_wp2_with fail
              refine (fixedG_any (H.out.tabs.below X3.out.1 (Nat.le_refl _))).mono ?_
              rintro e w9 ⟨rfl, hb⟩
              have X9 := Lib.hid ((H.out.bel.trans (Below.mono X3.out.1 H.out.bel.size)).trans (hb.mono (H.out.bel.trans (Below.mono X3.out.1 H.out.bel.size)).size))
              clear hb
              go_wp2_with fail
              go_ret
              exact ⟨rfl, X9.out⟩
            · have hz1 : (r : Int) ≤ y := by omega
              clear hz
              go_wp2_with fail
              refine (fixedG_any (H.out.tabs.below X3.out.1 (Nat.le_refl _))).mono ?_
              rintro e w9 ⟨rfl, hb⟩
              have X9 := Lib.hid ((H.out.bel.trans (Below.mono X3.out.1 H.out.bel.size)).trans (hb.mono (H.out.bel.trans (Below.mono X3.out.1 H.out.bel.size)).size))
              clear hb
              go_wp2_with fail
              go_ret
              exact ⟨rfl, X9.out⟩

set_option maxRecDepth 100000 in
theorem lifted (os : Os) (started : os.Started) (H : Type) (enc : TypeId × Value → H) :
    ReturnsInHanded {} Tryd.checked os 6 .any (fun w args => (Rows.gridRowsSpec.pre enc Tryd.prog Tryd.f6 [] false w args ∧ laidMetH Tryd.prog laidL w) ∧ sizedMet enc Tryd.prog Tryd.f6 (OpenSpec.ofChange Rows.gridRowsSpec) false w args)
      (Rows.gridRowsSpec.post enc Tryd.prog Tryd.f6 false true false false) := by
  refine returnsInHanded_of_change_and (C := Tryd.checked) (X := fun w _ => laidMetH Tryd.prog laidL w) (fun _ _ _ hh h => h.of_heap hh) own started (by kernel_rfl) Tryd.func6
    (ChangeSpec.witness_shaped (enc := enc) (C := Tryd.checked) (os := os) (X := fun w _ => laidMetH Tryd.prog laidL w) false (World.laidAll Tryd.prog os laidL) #[.agg #[.int .i64 0, .int .i64 0, .slice none 0 0], .int .i64 0, .agg #[.int .i64 0, .int .i64 0, .int .i64 0, .int .i64 0, .int .i32 0, .int .u32 0, .int .u32 0, .int .u8 0, .int .u16 0]] 8 (World.laidAll_os _ _ _) (start_shaped os) (by kernel_rfl) (by kernel_rfl) (by kernel_rfl) (start_met os _)) ?_
  intro W base args ds gs before hval0 hW _ hsz0 hL _
  have hsz : (DataW.weightsEach Tryd.prog (Tryd.f6.params.toList ++ Rows.gridRowsSpec.plain.varTypes Tryd.prog) (ds ++ gs)).all (· ≤ reachBytes) = true := hsz0
  clear hsz0
  have hval : ∀ (j : Nat) t v, Tryd.f6.params[j]? = some t → args[j]? = some v → Value.okWide Tryd.prog W .any base t v := hval0
  have hW' := hW
  obtain ⟨p, q, hA0, hV, rfl, _, _⟩ := hW
  have hA : DataW.TrodAll enc Tryd.prog W 0 (fun _ => true) true Tryd.f6.params.toList args.toList ds p := hA0
  rw [Tryd.params6] at hA hval hsz
  obtain ⟨v0, vs0, d0, ds0, p0, q0, hargs, rfl, rfl, h0, r0⟩ := trodAll_cons hA
  obtain ⟨v1, vs1, d1, ds1, p1, q1, rfl, rfl, rfl, h1, r1⟩ := trodAll_cons r0
  obtain ⟨v2, vs2, d2, ds2, p2, q2, rfl, rfl, rfl, h2, r2⟩ := trodAll_cons r1
  obtain ⟨rfl, rfl, rfl⟩ := trodAll_nil r2
  obtain rfl : args = #[v0, v1, v2] := by cases args; simp_all
  obtain ⟨rfl, rfl⟩ := trodVars_none hV
  have lt0 : ∀ x ∈ p0, x.block < W.heap.size := by obtain ⟨m, hm⟩ := h0; exact DataW.trod_lt m _ _ _ hm
  obtain ⟨gc0, gr0, A0, n0, k0, L0, rfl, s0⟩ := open_grid (hval 0 24 v0 rfl rfl) h0
  obtain ⟨a1, rfl, rfl, rfl, w1⟩ := open_int Tryd.underlying3 (hval 1 3 v1 rfl rfl) h1
  have lt2 : ∀ x ∈ p2, x.block < W.heap.size := by obtain ⟨m, hm⟩ := h2; exact DataW.trod_lt m _ _ _ hm
  obtain ⟨o2, rfl, s2⟩ := open_op9 (hval 2 31 v2 rfl rfl) h2
  clear hA0 hval0
  refine (walk W (tabs_of_laid hL) s0 w1 s2).mono fun e W' ⟨he, bel⟩ => ?_
  subst he
  exact ⟨_, rfl, _, _, _, [], _, [], hW', trodAll_mk1 (shut_bool Tryd.underlying4 _), (trodAll_cons_mk (Below.trod laidOut (by kernel_rfl) (of_decide_eq_true (by kernel_rfl)) h0 bel lt0) (trodAll_cons_mk (shut_int Tryd.underlying3 w1) (trodAll_cons_mk (Below.trod laidOut (by kernel_rfl) (of_decide_eq_true (by kernel_rfl)) h2 bel lt2) trodAll_mk0))), rfl, bel.frame _, fun h => by cases h⟩

theorem over : Rows.gridRowsRow.holds Tryd.pinned (OpenSpec.ofChange Rows.gridRowsSpec) :=
  OpenClaim.holds_of_wide 6 Tryd.f6 rfl rfl rfl rfl rfl rfl rfl ⟨rfl, rfl, rfl, rfl, rfl⟩ rfl rfl rfl rfl rfl (by kernel_rfl) Tryd.func6 (by kernel_rfl)
    (of_decide_eq_true (by kernel_rfl)) (by unfold Func.isWrapper; first | (rw [if_pos (by decide +kernel)]; kernel_rfl) | (rw [if_neg (by decide +kernel)]; exact ⟨rfl, rfl⟩))
    (fun os started H enc _ => lifted os started H enc)

theorem proved : Rows.GridRowsCardSaid :=
  Claim7.holds_tied_plain_at .later [] [.data] true Rows.gridRowsCard.stood.harness false
    over (fun _ h => by cases h) (by kernel_rfl) (fun _ h => by cases h) gridRows_row_tie rfl ⟨rfl, rfl⟩ (by kernel_rfl) rfl
    (fun f fn hf hfn => by
      obtain rfl : f = 6 := Option.some.inj ((show Tryd.prog.funcNamed "spyglass/spyglasslaw09.GridRows" = some 6 by kernel_rfl).symm.trans hf) |>.symm
      obtain rfl : fn = Tryd.f6 := (Option.some.inj (Tryd.func6.symm.trans hfn)).symm
      exact ⟨by kernel_rfl, fun j t ht => by
        rw [Tryd.params6] at ht
        have hm : t ∈ [24, 3, 31] := by simpa using Array.mem_of_getElem? ht
        have hall : ([24, 3, 31].all fun u => !Tryd.prog.wantsStandIn u) = true := by kernel_rfl
        exact (show Tryd.prog.wantsStandIn t = false by simpa using List.all_eq_true.1 hall t hm)⟩)
    (by kernel_rfl)
end Go.Proofs.YtflnocgahdlojaaDoor.gridRows
