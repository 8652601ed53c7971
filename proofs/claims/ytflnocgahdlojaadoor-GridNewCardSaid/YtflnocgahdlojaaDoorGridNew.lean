/-
  Proved: GridNew answers true for every number of columns and of rows, and every place, over the table that the program lays (a tied card).
-/
import Derived.Test.YtflnocgahdlojaaDoorOpen
import Derived.Test.YtflnocgahdlojaaDoorCards
import Derived.Test.YtflnocgahdlojaaDoorTie
import Derived.SevenTiedAt
import Derived.Test.YtflnocgahdlojaaDoorCellTab
import Derived.Test.YtflnocgahdlojaaDoorGridSm
import Derived.Test.YtflnocgahdlojaaDoorGridFx
import Derived.Test.YtflnocgahdlojaaDoorGridRefA
import Derived.WalkKit
namespace Go.Proofs.YtflnocgahdlojaaDoor.gridNew
open Go.ChangeShapes Go.WideShapes Go.ChangeAt Go.RowKit

set_option maxHeartbeats 3200000 in
set_option maxRecDepth 100000 in
/-- The walk. -/
theorem walk {x y z : Int} (w : World) (hT : Tabs w) (_ : (Lit.int .i64 x).wf = true) (_ : (Lit.int .i64 y).wf = true) (_ : (Lit.int .i64 z).wf = true) :
    Calls Tryd.prog 4 #[.int .i64 x, .int .i64 y, .int .i64 z] w fun e w' => e = .returned (.bool true) ∧ Below w.heap.size w w' := by
  have H := Lib.hid hT
  clear hT
  obtain ⟨S, hS⟩ : ∃ S, sizeOk x y = S := ⟨_, rfl⟩
  have HS := Lib.hid hS
  go_enter Tryd.func4, Tryd.ntmps4
  go_wp2_with fail
  refine (gNew_any (c := x) (r := y) w).mono ?_
  intro e w1 hp
  cases S
  · obtain ⟨rfl, hb⟩ := hp.2 (new_no HS.out)
    obtain ⟨w2, hw2⟩ : ∃ w2, w2 = w1.alloc (.cells (gV 0 0 none 0 0) 24) := ⟨_, rfl⟩
    obtain ⟨b, hbe⟩ : ∃ b, b = w1.heap.size := ⟨_, rfl⟩
    have X := Lib.hid (show Below w.heap.size w w2 ∧ Gb w2 b gr0 from by
      rw [hw2, hbe]
      exact ⟨hb.alloc hb.size _, gb_new w1 gr0⟩)
    clear hp hb hS
    unfold gV at hw2 ⊢
    go_upto_region 2 with fail
    rw [← hw2, ← hbe]
    clear hw2 hbe
    go_wp2_with fail
    refine (refNew_any (c := x) (r := y) w2).mono ?_
    intro e w3 hp
    obtain ⟨rfl, hb⟩ := hp.2 (new_no HS.out)
    obtain ⟨w4, hw4⟩ : ∃ w4, w4 = w3.alloc (.cells (gV 0 0 none 0 0) 24) := ⟨_, rfl⟩
    obtain ⟨b4, hbe⟩ : ∃ b4, b4 = w3.heap.size := ⟨_, rfl⟩
    have X4 := Lib.hid (show Below w.heap.size w w4 ∧ Gb w4 b gr0 ∧ Gb w4 b4 gr0 from by
      have h1 := X.out.1.trans (hb.mono X.out.1.size)
      rw [hw4, hbe]
      exact ⟨h1.alloc h1.size _, (X.out.2.below hb).below (below1 _ _), gb_new w3 gr0⟩)
    clear hp hb
    unfold gV at hw4 ⊢
    go_upto_region 3 with fail
    rw [← hw4, ← hbe]
    clear hw4 hbe
    go_wp2_with fail
    refine (fixedG_any (H.out.below X4.out.1 (Nat.le_refl _))).mono ?_
    rintro e w5 ⟨rfl, hb⟩
    have X5 := Lib.hid (show Below w.heap.size w w5 ∧ Gb w5 b gr0 ∧ Gb w5 b4 gr0 from ⟨X4.out.1.trans (hb.mono X4.out.1.size), X4.out.2.1.below hb, X4.out.2.2.below hb⟩)
    clear hb
    obtain ⟨c0, c1, c2, _⟩ := X5.out.2.1.g3
    obtain ⟨d0, d1, d2, _⟩ := X5.out.2.2.g3
    unfold gr0 at c0 c1 c2 d0 d1 d2
    dsimp only at c0 c1 c2 d0 d1 d2
    go_wp2_with fail
    refine (sameG_any (c := 0) (r := 0) (c' := 0) (r' := 0) (L := []) (L' := []) (B := true) (Vs.nil w5 none) (Vs.nil w5 none) (by omega) (by omega) (by simp)).mono ?_
    rintro e w6 ⟨rfl, hb⟩
    have X6 := Lib.hid (show Below w.heap.size w w6 ∧ Gb w6 b gr0 from ⟨X5.out.1.trans (hb.mono X5.out.1.size), X5.out.2.1.below hb⟩)
    clear hb c0 c1 c2 d0 d1 d2
    obtain ⟨c0, c1, c2, _⟩ := X6.out.2.g3
    unfold gr0 at c0 c1 c2
    dsimp only at c0 c1 c2
    go_wp2_with fail
    refine (gRow_any (c := 0) (r := 0) (A := none) (n := 0) (k := 0) (L := []) (ok := false) z (Vs.nil w6 none) (H.out.below X6.out.1 (Nat.le_refl _)) (Nat.le_refl _) (by omega) (by rw [gridMay_sz (by decide)]; rfl) rfl).mono ?_
    intro e w7 hp
    obtain ⟨rfl, hb⟩ := hp.2 rfl
    have X7 := Lib.hid (X6.out.1.trans (hb.mono X6.out.1.size))
    clear hp hb c0 c1 c2
    go_wp2_with fail
    go_ret
    exact ⟨rfl, X7.out⟩
  · obtain ⟨c, r, rfl, rfl, h1, h2, h3, h4⟩ := size_nat HS.out
    obtain ⟨L, hL⟩ : ∃ L, L = (List.replicate r (blanksS c pn0)).flatten := ⟨_, rfl⟩
    obtain ⟨n, hn⟩ : ∃ n, n = r * c := ⟨_, rfl⟩
    have hn2 : n ≤ 1920 := by rw [hn]; exact Nat.mul_le_mul h4 h2
    have HL := Lib.hid (show L.length = n ∧ gridMay (c : Int) (r : Int) L = true ∧ L = (List.replicate r (blanksS c pn0)).flatten from ⟨by rw [hL, hn]; exact (blanks_box c r pn0).flen, by rw [hL]; exact (gk_blank h1 h2 h3 h4).may, hL⟩)
    obtain ⟨v, rfl, hb, g1, k1, hv, hg1, hk1, hm1, hR⟩ := hp.1 c r _ (new_yes HS.out)
    rw [← hL, HL.out.1] at hv hk1
    rw [← hL] at hR
    injection hv with hv
    subst hv
    clear hn
    obtain ⟨w2, hw2⟩ : ∃ w2, w2 = w1.alloc (.cells (gV (c : Int) (r : Int) (some ⟨g1, 0, none⟩) n k1) 24) := ⟨_, rfl⟩
    obtain ⟨b, hbe⟩ : ∃ b, b = w1.heap.size := ⟨_, rfl⟩
    have X := Lib.hid (show Below w.heap.size w w2 ∧ Gb w2 b ⟨c, r, some ⟨g1, 0, none⟩, n, k1⟩ ∧ Rw ceV 41 w2 g1 L from by
      rw [hw2, hbe]
      exact ⟨hb.alloc hb.size _, gb_new w1 ⟨c, r, some ⟨g1, 0, none⟩, n, k1⟩, hR.below (below1 _ _)⟩)
    clear hp hb hS hR hg1 hL
    unfold gV at hw2 ⊢
    go_upto_region 2 with fail
    rw [← hw2, ← hbe]
    clear hw2 hbe
    go_wp2_with fail
    refine (refNew_any (c := c) (r := r) w2).mono ?_
    intro e w3 hp
    obtain ⟨v, rfl, hb, g2, k2, hv, hg2, hk2, hm2, hR⟩ := hp.1 c r _ (new_yes HS.out)
    rw [← HL.out.2.2, HL.out.1] at hv hk2
    rw [← HL.out.2.2] at hR
    injection hv with hv
    subst hv
    obtain ⟨w4, hw4⟩ : ∃ w4, w4 = w3.alloc (.cells (gV (c : Int) (r : Int) (some ⟨g2, 0, none⟩) n k2) 24) := ⟨_, rfl⟩
    obtain ⟨b4, hbe⟩ : ∃ b4, b4 = w3.heap.size := ⟨_, rfl⟩
    have X4 := Lib.hid (show Below w.heap.size w w4 ∧ Gb w4 b ⟨c, r, some ⟨g1, 0, none⟩, n, k1⟩ ∧ Gb w4 b4 ⟨c, r, some ⟨g2, 0, none⟩, n, k2⟩ ∧ Rw ceV 41 w4 g1 L ∧ Rw ceV 41 w4 g2 L from by
      have h1 := X.out.1.trans (hb.mono X.out.1.size)
      rw [hw4, hbe]
      exact ⟨h1.alloc h1.size _, (X.out.2.1.below hb).below (below1 _ _), gb_new w3 ⟨c, r, some ⟨g2, 0, none⟩, n, k2⟩, (X.out.2.2.below hb).below (below1 _ _), hR.below (below1 _ _)⟩)
    clear hp hb hR hg2
    unfold gV at hw4 ⊢
    go_upto_region 3 with fail
    rw [← hw4, ← hbe]
    clear hw4 hbe
    go_wp2_with fail
    refine (fixedG_any (H.out.below X4.out.1 (Nat.le_refl _))).mono ?_
    rintro e w5 ⟨rfl, hb⟩
    have X5 := Lib.hid (show Below w.heap.size w w5 ∧ Gb w5 b ⟨c, r, some ⟨g1, 0, none⟩, n, k1⟩ ∧ Gb w5 b4 ⟨c, r, some ⟨g2, 0, none⟩, n, k2⟩ ∧ Vs ceV w5 (some ⟨g1, 0, none⟩) n L ∧ Vs ceV w5 (some ⟨g2, 0, none⟩) n L from by
      have e1 := (X4.out.2.2.2.1.below hb).vs
      have e2 := (X4.out.2.2.2.2.below hb).vs
      rw [HL.out.1] at e1 e2
      exact ⟨X4.out.1.trans (hb.mono X4.out.1.size), X4.out.2.1.below hb, X4.out.2.2.1.below hb, e1, e2⟩)
    clear hb
    obtain ⟨c0, c1, c2, _⟩ := X5.out.2.1.g3
    obtain ⟨d0, d1, d2, _⟩ := X5.out.2.2.1.g3
    go_wp2_with fail
    refine (sameG_any (c := c) (r := r) (c' := c) (r' := r) (B := true) X5.out.2.2.2.1 X5.out.2.2.2.2 (by omega) (by omega) (by simp)).mono ?_
    rintro e w6 ⟨rfl, hb⟩
    have X6 := Lib.hid (show Below w.heap.size w w6 ∧ Gb w6 b ⟨c, r, some ⟨g1, 0, none⟩, n, k1⟩ ∧ Vs ceV w6 (some ⟨g1, 0, none⟩) n L from ⟨X5.out.1.trans (hb.mono X5.out.1.size), X5.out.2.1.below hb, X5.out.2.2.2.1.below hb⟩)
    clear hb c0 c1 c2 d0 d1 d2
    obtain ⟨c0, c1, c2, _⟩ := X6.out.2.1.g3
    by_cases hz : 0 ≤ z ∧ z < (r : Int)
    · obtain ⟨q, rfl⟩ : ∃ q : Nat, z = (q : Int) := ⟨z.toNat, by omega⟩
      have hq1 : (q : Int) < (r : Int) := hz.2
      have HRow := Lib.hid (show rowAt c L q = blanksS c pn0 from by rw [HL.out.2.2, rowAt_flat (blanks_box c r pn0) (by omega), lAt_rep (by omega)])
      have HDZ := Lib.hid (decide_eq_true hz)
      clear hz
      go_wp2_with fail
      refine (gRow_any (c := c) (r := r) (M := blanksS c pn0) (ok := true) (q : Int) X6.out.2.2 (H.out.below X6.out.1 (Nat.le_refl _)) hk1 (by omega) (by rw [HL.out.2.1, HDZ.out]; rfl) HRow.out).mono ?_
      intro e w7 hp
      obtain ⟨hb, g3, k3, rfl, hg3, hk3, hm3, hR⟩ := hp.1 rfl
      rw [blanks_len] at hk3 ⊢
      have X7 := Lib.hid (And.intro (X6.out.1.trans (hb.mono X6.out.1.size)) hR)
      clear hp hb hR hg3 c0 c1 c2
      go_wp2_with fail
      refine (refBlanks_any pn0 (by omega)).mono ?_
      rintro e w8 ⟨hb, g4, k4, rfl, hg4, hk4, hm4, hR⟩
      rw [blanks_len] at hk4 ⊢
      have X8 := Lib.hid (show Below w.heap.size w w8 ∧ Vs ceV w8 (some ⟨g3, 0, none⟩) c (blanksS c pn0) ∧ Vs ceV w8 (some ⟨g4, 0, none⟩) c (blanksS c pn0) from by
        have e1 := (X7.out.2.below hb).vs
        have e2 := hR.vs
        rw [blanks_len] at e1 e2
        exact ⟨X7.out.1.trans (hb.mono X7.out.1.size), e1, e2⟩)
      clear hb hR hg4
      go_wp2_with fail
      refine (sameC_any X8.out.2.1 X8.out.2.2 (by omega) (by omega)).mono ?_
      rintro e w9 ⟨rfl, q9, rfl⟩
      rw [show decide (blanksS c pn0 = blanksS c pn0) = true from by simp]
      go_wp2_with fail
      go_ret
      exact ⟨rfl, belowN X8.out.1 _⟩
    · have HDZ := Lib.hid (decide_eq_false hz)
      go_wp2_with fail
      refine (gRow_any (c := c) (r := r) (ok := false) z X6.out.2.2 (H.out.below X6.out.1 (Nat.le_refl _)) hk1 (by omega) (by rw [HL.out.2.1, HDZ.out]; rfl) rfl).mono ?_
      intro e w7 hp
      obtain ⟨rfl, hb⟩ := hp.2 rfl
      have X7 := Lib.hid (X6.out.1.trans (hb.mono X6.out.1.size))
      clear hp hb c0 c1 c2
      by_cases hz0 : z < 0
      · clear hz
        go_wp2_with fail
        go_ret
        exact ⟨rfl, X7.out⟩
      · have hz1 : (r : Int) ≤ z := by omega
        clear hz
        go_wp2_with fail
        go_ret
        exact ⟨rfl, X7.out⟩

set_option maxRecDepth 100000 in
theorem lifted (os : Os) (started : os.Started) (H : Type) (enc : TypeId × Value → H) :
    ReturnsInHanded {} Tryd.checked os 4 .any (fun w args => (Rows.gridNewSpec.pre enc Tryd.prog Tryd.f4 [] false w args ∧ laidMetH Tryd.prog laidL w) ∧ sizedMet enc Tryd.prog Tryd.f4 (OpenSpec.ofChange Rows.gridNewSpec) false w args)
      (Rows.gridNewSpec.post enc Tryd.prog Tryd.f4 false true false false) := by
  refine returnsInHanded_of_change_and (C := Tryd.checked) (X := fun w _ => laidMetH Tryd.prog laidL w) (fun _ _ _ hh h => h.of_heap hh) own started (by kernel_rfl) Tryd.func4
    (ChangeSpec.witness_shaped (enc := enc) (C := Tryd.checked) (os := os) (X := fun w _ => laidMetH Tryd.prog laidL w) false (World.laidAll Tryd.prog os laidL) #[.int .i64 0, .int .i64 0, .int .i64 0] 8 (World.laidAll_os _ _ _) (start_shaped os) (by kernel_rfl) (by kernel_rfl) (by kernel_rfl) (start_met os _)) ?_
  intro W base args ds gs before hval0 hW _ hsz0 hL _
  have hsz : (DataW.weightsEach Tryd.prog (Tryd.f4.params.toList ++ Rows.gridNewSpec.plain.varTypes Tryd.prog) (ds ++ gs)).all (· ≤ reachBytes) = true := hsz0
  clear hsz0
  have hval : ∀ (j : Nat) t v, Tryd.f4.params[j]? = some t → args[j]? = some v → Value.okWide Tryd.prog W .any base t v := hval0
  have hW' := hW
  obtain ⟨p, q, hA0, hV, rfl, _, _⟩ := hW
  have hA : DataW.TrodAll enc Tryd.prog W 0 (fun _ => true) true Tryd.f4.params.toList args.toList ds p := hA0
  rw [Tryd.params4] at hA hval hsz
  obtain ⟨v0, vs0, d0, ds0, p0, q0, hargs, rfl, rfl, h0, r0⟩ := trodAll_cons hA
  obtain ⟨v1, vs1, d1, ds1, p1, q1, rfl, rfl, rfl, h1, r1⟩ := trodAll_cons r0
  obtain ⟨v2, vs2, d2, ds2, p2, q2, rfl, rfl, rfl, h2, r2⟩ := trodAll_cons r1
  obtain ⟨rfl, rfl, rfl⟩ := trodAll_nil r2
  obtain rfl : args = #[v0, v1, v2] := by cases args; simp_all
  obtain ⟨rfl, rfl⟩ := trodVars_none hV
  obtain ⟨a0, rfl, rfl, rfl, w0⟩ := open_int Tryd.underlying3 (hval 0 3 v0 rfl rfl) h0
  obtain ⟨a1, rfl, rfl, rfl, w1⟩ := open_int Tryd.underlying3 (hval 1 3 v1 rfl rfl) h1
  obtain ⟨a2, rfl, rfl, rfl, w2⟩ := open_int Tryd.underlying3 (hval 2 3 v2 rfl rfl) h2
  clear hA0 hval0
  refine (walk W (tabs_of_laid hL) w0 w1 w2).mono fun e W' ⟨he, bel⟩ => ?_
  subst he
  exact ⟨_, rfl, _, _, _, [], _, [], hW', trodAll_mk1 (shut_bool Tryd.underlying4 _), (trodAll_cons_mk (shut_int Tryd.underlying3 w0) (trodAll_cons_mk (shut_int Tryd.underlying3 w1) (trodAll_cons_mk (shut_int Tryd.underlying3 w2) trodAll_mk0))), rfl, bel.frame _, fun h => by cases h⟩

theorem over : Rows.gridNewRow.holds Tryd.pinned (OpenSpec.ofChange Rows.gridNewSpec) :=
  OpenClaim.holds_of_wide 4 Tryd.f4 rfl rfl rfl rfl rfl rfl rfl ⟨rfl, rfl, rfl, rfl, rfl⟩ rfl rfl rfl rfl rfl (by kernel_rfl) Tryd.func4 (by kernel_rfl)
    (of_decide_eq_true (by kernel_rfl)) (by unfold Func.isWrapper; first | (rw [if_pos (by decide +kernel)]; kernel_rfl) | (rw [if_neg (by decide +kernel)]; exact ⟨rfl, rfl⟩))
    (fun os started H enc _ => lifted os started H enc)

theorem proved : Rows.GridNewCardSaid :=
  Claim7.holds_tied_plain_at .later [] [.data] true Rows.gridNewCard.stood.harness false
    over (fun _ h => by cases h) (by kernel_rfl) (fun _ h => by cases h) gridNew_row_tie rfl ⟨rfl, rfl⟩ (by kernel_rfl) rfl
    (fun f fn hf hfn => by
      obtain rfl : f = 4 := Option.some.inj ((show Tryd.prog.funcNamed "spyglass/spyglasslaw09.GridNew" = some 4 by kernel_rfl).symm.trans hf) |>.symm
      obtain rfl : fn = Tryd.f4 := (Option.some.inj (Tryd.func4.symm.trans hfn)).symm
      exact ⟨by kernel_rfl, fun j t ht => by
        rw [Tryd.params4] at ht
        have hm : t ∈ [3, 3, 3] := by simpa using Array.mem_of_getElem? ht
        have hall : ([3, 3, 3].all fun u => !Tryd.prog.wantsStandIn u) = true := by kernel_rfl
        exact (show Tryd.prog.wantsStandIn t = false by simpa using List.all_eq_true.1 hall t hm)⟩)
    (by kernel_rfl)
end Go.Proofs.YtflnocgahdlojaaDoor.gridNew
