/-
  Proved: GridBack answers true for every grid and every size, over the table that the program lays (a tied card).
-/
import Derived.Test.YtflnocgahdlojaaDoorOpen
import Derived.Test.YtflnocgahdlojaaDoorCards
import Derived.Test.YtflnocgahdlojaaDoorTie
import Derived.SevenTiedAt
import Derived.Test.YtflnocgahdlojaaDoorCellTab
import Derived.Test.YtflnocgahdlojaaDoorGridOpen
import Derived.Test.YtflnocgahdlojaaDoorGridFx
import Derived.WalkKit
import Derived.Deep.RegionHeld3
namespace Go.Proofs.YtflnocgahdlojaaDoor.gridBack
open Go.ChangeShapes Go.WideShapes Go.ChangeAt Go.RowKit

theorem back_row {L : List Ce} (h : RowOk L) {cs : Nat} (h1 : L.length ≤ cs) (h2 : cs ≤ 80) : resRow L.length (resRow cs L) = L := by
  have hp := h.pos
  have ho := resRow_ok h (show 1 ≤ cs by omega) h2
  refine row_ext (resRow_len _ _) fun i hi => ?_
  rw [resRow_len] at hi
  have e : cAt (resRow cs L) i = cAt L i := by
    rw [resRow_at h (by omega), if_pos hi, if_neg]
    rintro ⟨e1, e2⟩
    have := (h.next hi e1).1
    omega
  rw [resRow_at ho hi, resRow_len, if_pos (by omega), e, if_neg]
  rintro ⟨e1, e2⟩
  have := (h.next hi e1).1
  omega
theorem back_grid {c r cs rs : Nat} {LL : Rws} (h : Gk c r LL) (h1 : c ≤ cs) (h2 : cs ≤ 80) (h3 : r ≤ rs) : resizeS c r (resizeS cs rs LL) = LL := by
  refine rws_ext (by rw [(resize_box _ _ _).len, h.box.len]) fun i hi => ?_
  rw [(resize_box _ _ _).len] at hi
  have hl := (resize_box cs rs LL).len
  unfold resizeS at hl ⊢
  rw [lAt_map, if_pos hi, hl, if_pos (by omega), lAt_map, if_pos (by omega), if_pos (by rw [h.box.len]; exact hi)]
  have hr := h.box.row i hi
  have := back_row (h.ok i hi) (cs := cs) (by rw [hr]; exact h1) h2
  rw [hr] at this
  exact this
theorem resG_yes {c r cs rs : Nat} {LL : Rws} (h : Gk c r LL) (hs : sizeOk (cs : Int) (rs : Int) = true) : resG (c : Int) (r : Int) LL.flatten (cs : Int) (rs : Int) = some (cs, rs, resizeS cs rs LL) := by
  unfold resG
  rw [if_pos ⟨h.may, hs⟩, Int.toNat_natCast, Int.toNat_natCast, Int.toNat_natCast, Int.toNat_natCast, rows_of_flat h.box]
structure St (w w0 : World) (b : Nat) (c r : Int) (A : Option Addr) (n k : Nat) (L : List Ce) : Prop where
  bel : Below w.heap.size w w0
  tabs : Tabs w0
  vs : Vs ceV w0 A n L
  gb : Gb w0 b ⟨c, r, A, n, k⟩

set_option maxHeartbeats 6400000 in
set_option maxRecDepth 100000 in
/-- The walk. -/
theorem walk {gc gr : Int} {A : Option Addr} {n k : Nat} {L : List Ce} {x y : Int} (w : World) (hT : Tabs w) (hs : Vs ceV w A n L ∧ n ≤ k ∧ k ≤ maxLen) (_ : (Lit.int .i64 x).wf = true) (_ : (Lit.int .i64 y).wf = true) :
    Calls Tryd.prog 8 #[.agg (gV gc gr A n k), .int .i64 x, .int .i64 y] w fun e w' => e = .returned (.bool true) ∧ Below w.heap.size w w' := by
  obtain ⟨hv, hk, hm⟩ := hs
  unfold maxLen at hm
  obtain ⟨w0, hw0⟩ : ∃ w0, w0 = w.alloc (.cells (gV gc gr A n k) 24) := ⟨_, rfl⟩
  obtain ⟨b, hbe⟩ : ∃ b, b = w.heap.size := ⟨_, rfl⟩
  have H := Lib.hid (show St w w0 b gc gr A n k L from by
    have h1 := below1 w (.cells (gV gc gr A n k) 24)
    rw [hw0, hbe]
    exact ⟨h1, hT.below h1 (Nat.le_refl _), hv.below h1, gb_new w ⟨gc, gr, A, n, k⟩⟩)
  have HL := Lib.hid hv.len
  clear hv hT
  obtain ⟨m, hm2⟩ : ∃ m, gridMay gc gr L = m := ⟨_, rfl⟩
  have HM := Lib.hid hm2
  clear hm2
  obtain ⟨LL, hLL⟩ : ∃ LL, rowsS gc.toNat gr.toNat L = LL := ⟨_, rfl⟩
  have HLL := Lib.hid hLL
  clear hLL
  obtain ⟨c0, c1, c2, _⟩ := H.out.gb.g3
  dsimp only at c0 c1 c2
  unfold gV at hw0
  go_enter Tryd.func8, Tryd.ntmps8
  unfold gV
  go_upto_region 1 with fail
  rw [← hw0, ← hbe]
  clear hw0 hbe
  go_wp2_with fail
  refine (refRows_any H.out.vs hk (by omega) HM.out HLL.out).mono ?_
  rintro e w1 ⟨hyes, hno⟩
  clear c0 c1 c2
  cases m
  · obtain ⟨rfl, hb⟩ := hno rfl
    have X := Lib.hid (And.intro hb (H.out.gb.below hb))
    clear hyes hno hb
    obtain ⟨c0, c1, c2, _⟩ := X.out.2.g3
    dsimp only at c0 c1 c2
    by_cases h4 : (4000 : Int) < (n : Int)
    ·
      go_wp2_with fail
      refine (fixedG_any (H.out.tabs.below X.out.1 (Nat.le_refl _))).mono ?_
      rintro e w9 ⟨rfl, hb⟩
      have X9 := Lib.hid ((H.out.bel.trans (Below.mono X.out.1 H.out.bel.size)).trans (hb.mono (H.out.bel.trans (Below.mono X.out.1 H.out.bel.size)).size))
      clear hb
      go_wp2_with fail
      go_ret
      exact ⟨rfl, X9.out⟩
    · have h4' : (n : Int) ≤ 4000 := by omega
      go_wp2_with fail
      refine (fixedG_any (H.out.tabs.below X.out.1 (Nat.le_refl _))).mono ?_
      rintro e w9 ⟨rfl, hb⟩
      have X9 := Lib.hid ((H.out.bel.trans (Below.mono X.out.1 H.out.bel.size)).trans (hb.mono (H.out.bel.trans (Below.mono X.out.1 H.out.bel.size)).size))
      clear hb
      go_wp2_with fail
      go_ret
      exact ⟨rfl, X9.out⟩
  · obtain ⟨hb, g, k', S, rfl, hg, hk1, hk2, htb⟩ := hyes rfl
    have X := Lib.hid (And.intro hb (H.out.gb.below hb))
    clear hyes hno hb hg hk1 hk2 htb
    obtain ⟨c, r, LL', rfl, rfl, hL', hrows, hgk⟩ := ((gridMay_iff _ _ _).1 HM.out).parts
    obtain rfl : LL' = LL := hrows.symm.trans HLL.out
    have HP := Lib.hid (show L = LL'.flatten ∧ Gk c r LL' ∧ n = r * c from ⟨hL', hgk, by rw [← HL.out, hL']; exact hgk.box.flen⟩)
    have h4 : (n : Int) ≤ 4000 := by have := hgk.small; have := HP.out.2.2; omega
    clear hL' hrows hgk
    obtain ⟨c0, c1, c2, _⟩ := X.out.2.g3
    dsimp only at c0 c1 c2
    by_cases e1 : x < (c : Int)
    ·
      go_wp2_with fail
      refine (fixedG_any (H.out.tabs.below X.out.1 (Nat.le_refl _))).mono ?_
      rintro e w9 ⟨rfl, hb⟩
      have X9 := Lib.hid ((H.out.bel.trans (Below.mono X.out.1 H.out.bel.size)).trans (hb.mono (H.out.bel.trans (Below.mono X.out.1 H.out.bel.size)).size))
      clear hb
      go_wp2_with fail
      go_ret
      exact ⟨rfl, X9.out⟩
    · have e1' : (c : Int) ≤ x := by omega
      by_cases e2 : y < (r : Int)
      ·
        go_wp2_with fail
        refine (fixedG_any (H.out.tabs.below X.out.1 (Nat.le_refl _))).mono ?_
        rintro e w9 ⟨rfl, hb⟩
        have X9 := Lib.hid ((H.out.bel.trans (Below.mono X.out.1 H.out.bel.size)).trans (hb.mono (H.out.bel.trans (Below.mono X.out.1 H.out.bel.size)).size))
        clear hb
        go_wp2_with fail
        go_ret
        exact ⟨rfl, X9.out⟩
      · have e2' : (r : Int) ≤ y := by omega
        by_cases e3 : (80 : Int) < x
        ·
          go_wp2_with fail
          refine (fixedG_any (H.out.tabs.below X.out.1 (Nat.le_refl _))).mono ?_
          rintro e w9 ⟨rfl, hb⟩
          have X9 := Lib.hid ((H.out.bel.trans (Below.mono X.out.1 H.out.bel.size)).trans (hb.mono (H.out.bel.trans (Below.mono X.out.1 H.out.bel.size)).size))
          clear hb
          go_wp2_with fail
          go_ret
          exact ⟨rfl, X9.out⟩
        · have e3' : x ≤ 80 := by omega
          by_cases e4 : (24 : Int) < y
          ·
            go_wp2_with fail
            refine (fixedG_any (H.out.tabs.below X.out.1 (Nat.le_refl _))).mono ?_
            rintro e w9 ⟨rfl, hb⟩
            have X9 := Lib.hid ((H.out.bel.trans (Below.mono X.out.1 H.out.bel.size)).trans (hb.mono (H.out.bel.trans (Below.mono X.out.1 H.out.bel.size)).size))
            clear hb
            go_wp2_with fail
            go_ret
            exact ⟨rfl, X9.out⟩
          · have e4' : y ≤ 24 := by omega
            clear e1 e2 e3 e4
            obtain ⟨cs, rfl⟩ : ∃ cs : Nat, x = (cs : Int) := ⟨x.toNat, by omega⟩
            obtain ⟨rs, rfl⟩ : ∃ rs : Nat, y = (rs : Int) := ⟨y.toNat, by omega⟩
            have HZ := Lib.hid (show sizeOk (cs : Int) (rs : Int) = true ∧ sizeOk (c : Int) (r : Int) = true ∧ Gk cs rs (resizeS cs rs LL') ∧ resizeS c r (resizeS cs rs LL') = LL' ∧ (resizeS cs rs LL').flatten.length = rs * cs ∧ rs * cs ≤ 1920 from by
              have h1 := HP.out.2.1.c1
              have h2 := HP.out.2.1.r1
              have h3 := HP.out.2.1.c80
              have h5 := HP.out.2.1.r24
              have h6 := resize_ok HP.out.2.1 (c' := cs) (r' := rs) (by omega) (by omega) (by omega) (by omega)
              exact ⟨by unfold sizeOk; simp; omega, by unfold sizeOk; simp; omega, h6, back_grid HP.out.2.1 (by omega) (by omega) (by omega), h6.box.flen, h6.small⟩)
            go_wp2_with fail
            refine (gResize_any (c := c) (r := r) (cs : Int) (rs : Int) (H.out.vs.below X.out.1) (H.out.tabs.below X.out.1 (Nat.le_refl _)) hk (by omega)).mono ?_
            intro e w2 hp
            obtain ⟨hb, g2, k2, rfl, hg2, hk2, hm2, hR⟩ := hp.1 cs rs _ (by rw [HP.out.1]; exact resG_yes HP.out.2.1 HZ.out.1)
            obtain ⟨m, hm3⟩ : ∃ m, m = rs * cs := ⟨_, rfl⟩
            rw [HZ.out.2.2.2.2.1, ← hm3] at hk2 ⊢
            have HM3 := Lib.hid hm3
            clear hm3
            obtain ⟨w3, hw3⟩ : ∃ w3, w3 = w2.alloc (.cells (gV (cs : Int) (rs : Int) (some ⟨g2, 0, none⟩) m k2) 24) := ⟨_, rfl⟩
            obtain ⟨b9, hb9⟩ : ∃ b9, b9 = w2.heap.size := ⟨_, rfl⟩
            have Y := Lib.hid (show Below w0.heap.size w0 w3 ∧ Gb w3 b ⟨c, r, A, n, k⟩ ∧ Gb w3 b9 ⟨cs, rs, some ⟨g2, 0, none⟩, m, k2⟩ ∧ Rw ceV 41 w3 g2 (resizeS cs rs LL').flatten from by
              have h1 := X.out.1.trans (hb.mono X.out.1.size)
              rw [hw3, hb9]
              exact ⟨h1.alloc h1.size _, (X.out.2.below hb).below (below1 _ _), gb_new w2 ⟨cs, rs, some ⟨g2, 0, none⟩, m, k2⟩, hR.below (below1 _ _)⟩)
            clear hp hb hg2 hR c0 c1 c2 e1' e2' e3' e4' h4
            unfold gV at hw3 ⊢
            go_upto_region 5 with fail
            rw [← hw3, ← hb9]
            clear hw3 hb9 X
            have hb1 : Below w3.heap.size w3 w3.drew := belowN (Below.refl _ _) 1
            have SX := Lib.hid (show ∀ w', Below w3.heap.size w3 w' → (fun w' => Below w3.heap.size w3 w' ∧ (w'.cell? ⟨b9, 0, none⟩ = some (.int .i64 (cs : Int)) ∧ w'.cell? ⟨b9, 1, none⟩ = some (.int .i64 (rs : Int)) ∧ w'.cell? ⟨b9, 2, none⟩ = some (.slice (some ⟨g2, 0, none⟩) m k2) ∧ w'.cell? ⟨b, 0, none⟩ = some (.int .i64 (c : Int)) ∧ w'.cell? ⟨b, 1, none⟩ = some (.int .i64 (r : Int)) ∧ w'.cell? ⟨b, 2, none⟩ = some (.slice A n k))) w' from fun w' hb => by
              obtain ⟨f0, f1, f2, _⟩ := (Y.out.2.2.1.below hb).g3
              obtain ⟨g0, g1, g2, _⟩ := (Y.out.2.1.below hb).g3
              exact ⟨hb, f0, f1, f2, g0, g1, g2⟩)
            have HFX := Lib.hid (show ∀ w', Below w3.heap.size w3 w' → Calls Tryd.prog 9 #[] w' fun e w'' => e = .returned (.bool true) ∧ Below w'.heap.size w' w'' from fun w' hb => fixedG_any (H.out.tabs.below (Y.out.1.trans (hb.mono Y.out.1.size)) (Nat.le_refl _)))
            have HMY := Lib.hid (show ∀ w', Below w3.heap.size w3 w' → Calls Tryd.prog 13 #[.agg #[.int .i64 (cs : Int), .int .i64 (rs : Int), .slice (some ⟨g2, 0, none⟩) m k2]] w' fun e w'' => e = .returned (.bool true) ∧ Below w'.heap.size w' w'' from fun w' hb => by
              have e1 := (Y.out.2.2.2.below hb).vs
              rw [HZ.out.2.2.2.2.1, ← HM3.out] at e1
              refine (gMay_any (c := cs) (r := rs) e1 (H.out.tabs.below (Y.out.1.trans (hb.mono Y.out.1.size)) (Nat.le_refl _)) hk2 (by have := HZ.out.2.2.2.2.2; have := HM3.out; omega)).mono fun e w'' h => ?_
              rw [HZ.out.2.2.1.may] at h
              exact h)
            have HRS := Lib.hid (show ∀ w', Below w3.heap.size w3 w' → Calls Tryd.prog 23 #[.agg #[.int .i64 (cs : Int), .int .i64 (rs : Int), .slice (some ⟨g2, 0, none⟩) m k2], .int .i64 (c : Int), .int .i64 (r : Int)] w' fun e w'' => ∃ g4 k4, e = .returned (.agg #[.int .i64 (c : Int), .int .i64 (r : Int), .slice (some ⟨g4, 0, none⟩) n k4]) ∧ Below w'.heap.size w' w'' ∧ Rw ceV 41 w'' g4 L from fun w' hb => by
              have e1 := (Y.out.2.2.2.below hb).vs
              rw [HZ.out.2.2.2.2.1, ← HM3.out] at e1
              refine (gResize_any (c := cs) (r := rs) (c : Int) (r : Int) e1 (H.out.tabs.below (Y.out.1.trans (hb.mono Y.out.1.size)) (Nat.le_refl _)) hk2 (by have := HZ.out.2.2.2.2.2; have := HM3.out; omega)).mono fun e w'' h => ?_
              obtain ⟨h1, g4, k4, he, h2, h3, h4, h5⟩ := h.1 c r _ (resG_yes HZ.out.2.2.1 HZ.out.2.1)
              rw [HZ.out.2.2.2.1, ← HP.out.1] at he h5
              rw [HL.out] at he
              exact ⟨g4, k4, he, h1, h5⟩)
            have HSM := Lib.hid (show ∀ w' g4 k4, Below w3.heap.size w3 w' → Rw ceV 41 w' g4 L → Calls Tryd.prog 14 #[.agg #[.int .i64 (c : Int), .int .i64 (r : Int), .slice (some ⟨g4, 0, none⟩) n k4], .agg #[.int .i64 (c : Int), .int .i64 (r : Int), .slice A n k]] w' fun e w'' => e = .returned (.bool true) ∧ Below w'.heap.size w' w'' from fun w' g4 k4 hb hR => by
              have e1 := hR.vs
              rw [HL.out] at e1
              exact sameG_any e1 (H.out.vs.below (Y.out.1.trans (hb.mono Y.out.1.size))) (by have := HP.out.2.1.small; have := HP.out.2.2; omega) (by omega) (by simp))
            go_region_held3 (fun w' => Below w3.heap.size w3 w' ∧ (w'.cell? ⟨b9, 0, none⟩ = some (.int .i64 (cs : Int)) ∧ w'.cell? ⟨b9, 1, none⟩ = some (.int .i64 (rs : Int)) ∧ w'.cell? ⟨b9, 2, none⟩ = some (.slice (some ⟨g2, 0, none⟩) m k2) ∧ w'.cell? ⟨b, 0, none⟩ = some (.int .i64 (c : Int)) ∧ w'.cell? ⟨b, 1, none⟩ = some (.int .i64 (r : Int)) ∧ w'.cell? ⟨b, 2, none⟩ = some (.slice A n k)))
              ((refine SX.out _ ?_; assumption))
              ((first
                | (go_at_call 9; refine (HFX.out _ (by assumption)).mono ?_; rintro e w4 ⟨rfl, hb4⟩; have hb5 := Below.trans (B := w3.heap.size) (by assumption) (hb4.mono (below_sz (a := w3) (B := w3.heap.size) (by assumption))))
                | (go_at_call 13; (try go_split_ands); refine (HMY.out _ (by assumption)).mono ?_; rintro e w4 ⟨rfl, hb4⟩; have hb5 := Below.trans (B := w3.heap.size) (by assumption) (hb4.mono (below_sz (a := w3) (B := w3.heap.size) (by assumption))))
                | (go_at_call 23; (try go_split_ands); refine (HRS.out _ (by assumption)).mono ?_; rintro e w4 ⟨g4, k4, rfl, hb4, hR4⟩; have hb5 := Below.trans (B := w3.heap.size) (by assumption) (hb4.mono (below_sz (a := w3) (B := w3.heap.size) (by assumption))))
                | (go_at_call 14; (try go_split_ands); refine (HSM.out _ _ _ (by assumption) hR4).mono ?_; rintro e w4 ⟨rfl, hb4⟩; have hb5 := Below.trans (B := w3.heap.size) (by assumption) (hb4.mono (below_sz (a := w3) (B := w3.heap.size) (by assumption))))))
            have Z := Lib.hid (H.out.bel.trans ((Y.out.1.trans (hb5.mono Y.out.1.size)).mono H.out.bel.size))
            go_wp2_with fail
            go_ret
            exact ⟨rfl, Z.out⟩

set_option maxRecDepth 100000 in
theorem lifted (os : Os) (started : os.Started) (H : Type) (enc : TypeId × Value → H) :
    ReturnsInHanded {} Tryd.checked os 8 .any (fun w args => (Rows.gridBackSpec.pre enc Tryd.prog Tryd.f8 [] false w args ∧ laidMetH Tryd.prog laidL w) ∧ sizedMet enc Tryd.prog Tryd.f8 (OpenSpec.ofChange Rows.gridBackSpec) false w args)
      (Rows.gridBackSpec.post enc Tryd.prog Tryd.f8 false true false false) := by
  refine returnsInHanded_of_change_and (C := Tryd.checked) (X := fun w _ => laidMetH Tryd.prog laidL w) (fun _ _ _ hh h => h.of_heap hh) own started (by kernel_rfl) Tryd.func8
    (ChangeSpec.witness_shaped (enc := enc) (C := Tryd.checked) (os := os) (X := fun w _ => laidMetH Tryd.prog laidL w) false (World.laidAll Tryd.prog os laidL) #[.agg #[.int .i64 0, .int .i64 0, .slice none 0 0], .int .i64 0, .int .i64 0] 8 (World.laidAll_os _ _ _) (start_shaped os) (by kernel_rfl) (by kernel_rfl) (by kernel_rfl) (start_met os _)) ?_
  intro W base args ds gs before hval0 hW _ hsz0 hL _
  have hsz : (DataW.weightsEach Tryd.prog (Tryd.f8.params.toList ++ Rows.gridBackSpec.plain.varTypes Tryd.prog) (ds ++ gs)).all (· ≤ reachBytes) = true := hsz0
  clear hsz0
  have hval : ∀ (j : Nat) t v, Tryd.f8.params[j]? = some t → args[j]? = some v → Value.okWide Tryd.prog W .any base t v := hval0
  have hW' := hW
  obtain ⟨p, q, hA0, hV, rfl, _, _⟩ := hW
  have hA : DataW.TrodAll enc Tryd.prog W 0 (fun _ => true) true Tryd.f8.params.toList args.toList ds p := hA0
  rw [Tryd.params8] at hA hval hsz
  obtain ⟨v0, vs0, d0, ds0, p0, q0, hargs, rfl, rfl, h0, r0⟩ := trodAll_cons hA
  obtain ⟨v1, vs1, d1, ds1, p1, q1, rfl, rfl, rfl, h1, r1⟩ := trodAll_cons r0
  obtain ⟨v2, vs2, d2, ds2, p2, q2, rfl, rfl, rfl, h2, r2⟩ := trodAll_cons r1
  obtain ⟨rfl, rfl, rfl⟩ := trodAll_nil r2
  obtain rfl : args = #[v0, v1, v2] := by cases args; simp_all
  obtain ⟨rfl, rfl⟩ := trodVars_none hV
  have lt0 : ∀ x ∈ p0, x.block < W.heap.size := by obtain ⟨m, hm⟩ := h0; exact DataW.trod_lt m _ _ _ hm
  obtain ⟨gc0, gr0, A0, n0, k0, L0, rfl, s0⟩ := open_grid (hval 0 24 v0 rfl rfl) h0
  obtain ⟨a1, rfl, rfl, rfl, w1⟩ := open_int Tryd.underlying3 (hval 1 3 v1 rfl rfl) h1
  obtain ⟨a2, rfl, rfl, rfl, w2⟩ := open_int Tryd.underlying3 (hval 2 3 v2 rfl rfl) h2
  clear hA0 hval0
  refine (walk W (tabs_of_laid hL) s0 w1 w2).mono fun e W' ⟨he, bel⟩ => ?_
  subst he
  exact ⟨_, rfl, _, _, _, [], _, [], hW', trodAll_mk1 (shut_bool Tryd.underlying4 _), (trodAll_cons_mk (Below.trod laidOut (by kernel_rfl) (of_decide_eq_true (by kernel_rfl)) h0 bel lt0) (trodAll_cons_mk (shut_int Tryd.underlying3 w1) (trodAll_cons_mk (shut_int Tryd.underlying3 w2) trodAll_mk0))), rfl, bel.frame _, fun h => by cases h⟩

theorem over : Rows.gridBackRow.holds Tryd.pinned (OpenSpec.ofChange Rows.gridBackSpec) :=
  OpenClaim.holds_of_wide 8 Tryd.f8 rfl rfl rfl rfl rfl rfl rfl ⟨rfl, rfl, rfl, rfl, rfl⟩ rfl rfl rfl rfl rfl (by kernel_rfl) Tryd.func8 (by kernel_rfl)
    (of_decide_eq_true (by kernel_rfl)) (by unfold Func.isWrapper; first | (rw [if_pos (by decide +kernel)]; kernel_rfl) | (rw [if_neg (by decide +kernel)]; exact ⟨rfl, rfl⟩))
    (fun os started H enc _ => lifted os started H enc)

theorem proved : Rows.GridBackCardSaid :=
  Claim7.holds_tied_plain_at .later [] [.data] true Rows.gridBackCard.stood.harness false
    over (fun _ h => by cases h) (by kernel_rfl) (fun _ h => by cases h) gridBack_row_tie rfl ⟨rfl, rfl⟩ (by kernel_rfl) rfl
    (fun f fn hf hfn => by
      obtain rfl : f = 8 := Option.some.inj ((show Tryd.prog.funcNamed "spyglass/spyglasslaw09.GridBack" = some 8 by kernel_rfl).symm.trans hf) |>.symm
      obtain rfl : fn = Tryd.f8 := (Option.some.inj (Tryd.func8.symm.trans hfn)).symm
      exact ⟨by kernel_rfl, fun j t ht => by
        rw [Tryd.params8] at ht
        have hm : t ∈ [24, 3, 3] := by simpa using Array.mem_of_getElem? ht
        have hall : ([24, 3, 3].all fun u => !Tryd.prog.wantsStandIn u) = true := by kernel_rfl
        exact (show Tryd.prog.wantsStandIn t = false by simpa using List.all_eq_true.1 hall t hm)⟩)
    (by kernel_rfl)
end Go.Proofs.YtflnocgahdlojaaDoor.gridBack
