/-
  Proved: CellMay answers true for every colour, every cell and every row, over the table that the program lays (a tied card).
-/
import Derived.Test.YtaofkipamliijaaDoorOpen
import Derived.Test.YtaofkipamliijaaDoorCards
import Derived.Test.YtaofkipamliijaaDoorTie
import Derived.SevenTiedAt
import Derived.Test.YtaofkipamliijaaDoorCellTab
import Derived.Test.YtaofkipamliijaaDoorCellIn
import Derived.Test.YtaofkipamliijaaDoorCellFixed
import Derived.Test.YtaofkipamliijaaDoorCellRefRow
import Derived.WalkKit
import Derived.Deep.RegionHeld3
namespace Go.Proofs.YtaofkipamliijaaDoor.cellMay
open Go.ChangeShapes Go.WideShapes Go.ChangeAt Go.RowKit

set_option maxHeartbeats 3200000 in
set_option maxRecDepth 100000 in
/-- The walk. -/
theorem walk {k : Int} {x : Ce} {A : Option Addr} {n c : Nat} {L : List Ce} (w : World) (hT : Tabs w) (_ : True) (_ : True) (hs : Vs ceV w A n L ∧ n ≤ c ∧ c ≤ maxLen) :
    Calls Tryd.prog 3 #[.int .u32 k, .agg (ceA x), .slice A n c] w fun e w' => e = .returned (.bool true) ∧ Below w.heap.size w w' := by
  obtain ⟨hv, hc1, hc2⟩ := hs
  unfold maxLen at hc2
  obtain ⟨w0, hw0⟩ : ∃ w0, w0 = w.alloc (.cells (ceA x) 28) := ⟨_, rfl⟩
  obtain ⟨b, hbe⟩ : ∃ b, b = w.heap.size := ⟨_, rfl⟩
  have H := Lib.hid (show Below w.heap.size w w0 ∧ Tabs w0 ∧ Vs ceV w0 A n L ∧ Six w0 ⟨b, 0, none⟩ x ∧ b < w0.heap.size from by
    have h1 : Below w.heap.size w (w.alloc (.cells (ceA x) 28)) := (Below.refl _ _).alloc (Nat.le_refl _) _
    rw [hw0, hbe]
    exact ⟨h1, hT.below h1 (Nat.le_refl _), hv.alloc _, six_new w x _, by simp⟩)
  have HL := Lib.hid hv.len
  clear hv hT
  unfold ceA at hw0
  go_enter Tryd.func3, Tryd.ntmps3
  unfold ceA
  go_upto_region 1 with fail
  rw [← hw0, ← hbe]
  clear hw0 hbe
  by_cases hbig : 1000 < n
  · go_wp2_with fail
    refine (fixedC_any H.out.2.1).mono ?_
    rintro e w1 ⟨rfl, hb⟩
    have X := Lib.hid (H.out.1.trans (hb.mono H.out.1.size))
    clear hb
    go_wp2_with fail
    go_ret
    exact ⟨rfl, X.out⟩
  · have hn : n ≤ 1000 := by omega
    go_wp2_with fail
    refine (copyC_any H.out.2.2.1 (by omega)).mono ?_
    rintro e w1 ⟨hb, g, c', rfl, hg, hk1, hk2, hR⟩
    rw [HL.out]
    have X := Lib.hid (show Below w.heap.size w w1 ∧ Tabs w1 ∧ Vs ceV w1 A n L ∧ Six w1 ⟨b, 0, none⟩ x ∧ b < w1.heap.size ∧ Vs ceV w1 (some ⟨g, 0, none⟩) n L from by
      have h5 := hR.vs
      rw [HL.out] at h5
      exact ⟨H.out.1.trans (hb.mono H.out.1.size), H.out.2.1.below hb (Nat.le_refl _), H.out.2.2.1.below hb, H.out.2.2.2.1.below hb H.out.2.2.2.2, by have := hb.size; have := H.out.2.2.2.2; omega, h5⟩)
    clear hb hg hk1 hk2 hR H
    have SX := Lib.hid (show ∀ w', Below w1.heap.size w1 w' → (Below w1.heap.size w1 w' ∧ (w'.cell? ⟨b, 0, none⟩ = some (.int .i32 x.r) ∧ w'.cell? ⟨b, 1, none⟩ = some (.int .u8 x.wd) ∧ w'.cell? ⟨b, 2, none⟩ = some (.int .u32 x.p.fg) ∧ w'.cell? ⟨b, 3, none⟩ = some (.int .u32 x.p.bg) ∧ w'.cell? ⟨b, 4, none⟩ = some (.int .u8 x.p.st) ∧ w'.cell? ⟨b, 5, none⟩ = some (.int .u16 x.p.lk))) from fun w' hb => ⟨hb, (X.out.2.2.2.1.below hb X.out.2.2.2.2.1).blk⟩)
    have P0 := Lib.hid (show ∀ w', Below w1.heap.size w1 w' → Calls Tryd.prog 8 #[] w' fun e w'' => e = .returned (.bool true) ∧ Below w1.heap.size w1 w'' from fun w' hb => (fixedC_any (X.out.2.1.below hb (Nat.le_refl _))).mono fun _ _ h => ⟨h.1, hb.trans (h.2.mono hb.size)⟩)
    have P1 := Lib.hid (show ∀ w', Calls Tryd.prog 10 #[.int .u32 k] w' fun e w'' => e = .returned (.bool (colMay k)) ∧ w' = w'' from fun w' => colMay_any k w')
    have P2 := Lib.hid (show ∀ w', Calls Tryd.prog 11 #[.int .u32 k] w' fun e w'' => e = .returned (.bool (colMay k)) ∧ w' = w'' from fun w' => refColMay_any k w')
    have P3 := Lib.hid (show ∀ w', Below w1.heap.size w1 w' → Calls Tryd.prog 12 #[.agg #[.int .i32 x.r, .int .u8 x.wd, .int .u32 x.p.fg, .int .u32 x.p.bg, .int .u8 x.p.st, .int .u16 x.p.lk]] w' fun e w'' => e = .returned (.bool (cellMay x)) ∧ Below w1.heap.size w1 w'' from fun w' hb => (ceMay_any x (X.out.2.1.below hb (Nat.le_refl _))).mono fun _ _ h => ⟨h.1, hb.trans (h.2.mono hb.size)⟩)
    have P4 := Lib.hid (show ∀ w', Below w1.heap.size w1 w' → Calls Tryd.prog 13 #[.agg #[.int .i32 x.r, .int .u8 x.wd, .int .u32 x.p.fg, .int .u32 x.p.bg, .int .u8 x.p.st, .int .u16 x.p.lk]] w' fun e w'' => e = .returned (.bool (cellMay x)) ∧ Below w1.heap.size w1 w'' from fun w' hb => (refCeMay_any x w').mono fun _ _ h => ⟨h.1, hb.trans (h.2.mono hb.size)⟩)
    have P5 := Lib.hid (show ∀ w', Below w1.heap.size w1 w' → Calls Tryd.prog 14 #[.slice (some ⟨g, 0, none⟩) n c'] w' fun e w'' => e = .returned (.bool (rowMay L)) ∧ Below w1.heap.size w1 w'' from fun w' hb => (rowMay_any (X.out.2.2.2.2.2.below hb) (X.out.2.1.below hb (Nat.le_refl _)) (by omega)).mono fun _ _ h => ⟨h.1, hb.trans (h.2.mono hb.size)⟩)
    have P6 := Lib.hid (show ∀ w', Below w1.heap.size w1 w' → Calls Tryd.prog 15 #[.slice A n c] w' fun e w'' => e = .returned (.bool (rowMay L)) ∧ Below w1.heap.size w1 w'' from fun w' hb => (refRowMay_any (X.out.2.2.1.below hb) (by omega)).mono fun _ _ h => ⟨h.1, hb.trans (h.2.mono hb.size)⟩)
    have P7 := Lib.hid (show ∀ w', Below w1.heap.size w1 w' → Calls Tryd.prog 16 #[.agg #[.int .u32 x.p.fg, .int .u32 x.p.bg, .int .u8 x.p.st, .int .u16 x.p.lk]] w' fun e w'' => e = .returned (.agg (ceA (blankS x.p))) ∧ Below w1.heap.size w1 w'' from fun w' hb => (blank_any x.p w').mono fun _ _ h => ⟨h.1, hb.trans (h.2.mono hb.size)⟩)
    have P8 := Lib.hid (show ∀ w', Below w1.heap.size w1 w' → Calls Tryd.prog 17 #[.agg #[.int .u32 x.p.fg, .int .u32 x.p.bg, .int .u8 x.p.st, .int .u16 x.p.lk]] w' fun e w'' => e = .returned (.agg (ceA (blankS x.p))) ∧ Below w1.heap.size w1 w'' from fun w' hb => (refBlank_any x.p w').mono fun _ _ h => ⟨h.1, hb.trans (h.2.mono hb.size)⟩)
    have P9 := Lib.hid (show ∀ w', Below w1.heap.size w1 w' → Calls Tryd.prog 18 #[.slice (some ⟨g, 0, none⟩) n c', .slice A n c] w' fun e w'' => e = .returned (.bool true) ∧ Below w1.heap.size w1 w'' from fun w' hb => (sameC_any (X.out.2.2.2.2.2.below hb) (X.out.2.2.1.below hb) (by omega) (by omega)).mono fun _ _ h => ⟨by rw [h.1]; simp, by obtain ⟨_, q, rfl⟩ := h; exact belowN hb q⟩)
    have hq : ∀ w, (binOp .eql 28 (.agg (ceA (blankS x.p))) (.agg (ceA (blankS x.p)))).run Tryd.prog w = .ok (.bool true) w := fun w => by rw [ce_eql]; simp
    have hgd := guardCe
    have hb0 : Below w1.heap.size w1 w1 := Below.refl _ _
    generalize colMay k = B1 at P1 P2
    generalize cellMay x = B2 at P3 P4
    generalize rowMay L = B3 at P5 P6
    generalize ceA (blankS x.p) = BV at P7 P8 hq
    go_wp2_with fail
    go_region_held3 (fun w' => Below w1.heap.size w1 w' ∧ (w'.cell? ⟨b, 0, none⟩ = some (.int .i32 x.r) ∧ w'.cell? ⟨b, 1, none⟩ = some (.int .u8 x.wd) ∧ w'.cell? ⟨b, 2, none⟩ = some (.int .u32 x.p.fg) ∧ w'.cell? ⟨b, 3, none⟩ = some (.int .u32 x.p.bg) ∧ w'.cell? ⟨b, 4, none⟩ = some (.int .u8 x.p.st) ∧ w'.cell? ⟨b, 5, none⟩ = some (.int .u16 x.p.lk)))
      ((refine SX.out _ ?_; (try go_split_ands); first | assumption | exact belowN (by assumption) 1))
      ((first
        | (go_at_call 8; (try go_split_ands); refine (P0.out _ (by assumption)).mono ?_; rintro e w2 ⟨rfl, hb2⟩)
        | (go_at_call 10; (try go_split_ands); refine (P1.out _).mono ?_; rintro e w3 ⟨rfl, rfl⟩)
        | (go_at_call 11; (try go_split_ands); refine (P2.out _).mono ?_; rintro e w3 ⟨rfl, rfl⟩)
        | (go_at_call 12; (try go_split_ands); refine (P3.out _ (by assumption)).mono ?_; rintro e w3 ⟨rfl, hb3⟩)
        | (go_at_call 13; (try go_split_ands); refine (P4.out _ (by assumption)).mono ?_; rintro e w4 ⟨rfl, hb4⟩)
        | (go_at_call 14; (try go_split_ands); refine (P5.out _ (by assumption)).mono ?_; rintro e w5 ⟨rfl, hb5⟩)
        | (go_at_call 15; (try go_split_ands); refine (P6.out _ (by assumption)).mono ?_; rintro e w6 ⟨rfl, hb6⟩)
        | (go_at_call 16; (try go_split_ands); refine (P7.out _ (by assumption)).mono ?_; rintro e w7 ⟨rfl, hb7⟩)
        | (go_at_call 17; (try go_split_ands); refine (P8.out _ (by assumption)).mono ?_; rintro e w8 ⟨rfl, hb8⟩)
        | (go_at_call 18; (try go_split_ands); refine (P9.out _ (by assumption)).mono ?_; rintro e w9 ⟨rfl, hb9⟩)))
    go_wp2_with fail
    go_ret
    exact ⟨rfl, X.out.1.trans (hb9.mono X.out.1.size)⟩

set_option maxRecDepth 100000 in
theorem lifted (os : Os) (started : os.Started) (H : Type) (enc : TypeId × Value → H) :
    ReturnsInHanded {} Tryd.checked os 3 .any (fun w args => (Rows.cellMaySpec.pre enc Tryd.prog Tryd.f3 [] false w args ∧ laidMetH Tryd.prog laidL w) ∧ sizedMet enc Tryd.prog Tryd.f3 (OpenSpec.ofChange Rows.cellMaySpec) false w args)
      (Rows.cellMaySpec.post enc Tryd.prog Tryd.f3 false true false false) := by
  refine returnsInHanded_of_change_and (C := Tryd.checked) (X := fun w _ => laidMetH Tryd.prog laidL w) (fun _ _ _ hh h => h.of_heap hh) own started (by kernel_rfl) Tryd.func3
    (ChangeSpec.witness_shaped (enc := enc) (C := Tryd.checked) (os := os) (X := fun w _ => laidMetH Tryd.prog laidL w) false (World.laidAll Tryd.prog os laidL) #[.int .u32 0, .agg #[.int .i32 0, .int .u8 0, .int .u32 0, .int .u32 0, .int .u8 0, .int .u16 0], .slice none 0 0] 8 (World.laidAll_os _ _ _) (start_shaped os) (by kernel_rfl) (by kernel_rfl) (by kernel_rfl) (start_met os _)) ?_
  intro W base args ds gs before hval0 hW _ hsz0 hL _
  have hsz : (DataW.weightsEach Tryd.prog (Tryd.f3.params.toList ++ Rows.cellMaySpec.plain.varTypes Tryd.prog) (ds ++ gs)).all (· ≤ reachBytes) = true := hsz0
  clear hsz0
  have hval : ∀ (j : Nat) t v, Tryd.f3.params[j]? = some t → args[j]? = some v → Value.okWide Tryd.prog W .any base t v := hval0
  have hW' := hW
  obtain ⟨p, q, hA0, hV, rfl, _, _⟩ := hW
  have hA : DataW.TrodAll enc Tryd.prog W 0 (fun _ => true) true Tryd.f3.params.toList args.toList ds p := hA0
  rw [Tryd.params3] at hA hval hsz
  obtain ⟨v0, vs0, d0, ds0, p0, q0, hargs, rfl, rfl, h0, r0⟩ := trodAll_cons hA
  obtain ⟨v1, vs1, d1, ds1, p1, q1, rfl, rfl, rfl, h1, r1⟩ := trodAll_cons r0
  obtain ⟨v2, vs2, d2, ds2, p2, q2, rfl, rfl, rfl, h2, r2⟩ := trodAll_cons r1
  obtain ⟨rfl, rfl, rfl⟩ := trodAll_nil r2
  obtain rfl : args = #[v0, v1, v2] := by cases args; simp_all
  obtain ⟨rfl, rfl⟩ := trodVars_none hV
  have lt0 : ∀ x ∈ p0, x.block < W.heap.size := by obtain ⟨m, hm⟩ := h0; exact DataW.trod_lt m _ _ _ hm
  obtain ⟨k0, rfl, s0⟩ := open_col (hval 0 23 v0 rfl rfl) h0
  have lt1 : ∀ x ∈ p1, x.block < W.heap.size := by obtain ⟨m, hm⟩ := h1; exact DataW.trod_lt m _ _ _ hm
  obtain ⟨x1, rfl, s1⟩ := open_cell (hval 1 28 v1 rfl rfl) h1
  have lt2 : ∀ x ∈ p2, x.block < W.heap.size := by obtain ⟨m, hm⟩ := h2; exact DataW.trod_lt m _ _ _ hm
  obtain ⟨A2, n2, c2, L2, rfl, s2⟩ := open_cells (hval 2 29 v2 rfl rfl) h2
  clear hA0 hval0
  refine (walk W (tabs_of_laid hL) s0 s1 s2).mono fun e W' ⟨he, bel⟩ => ?_
  subst he
  exact ⟨_, rfl, _, _, _, [], _, [], hW', trodAll_mk1 (shut_bool Tryd.underlying4 _), (trodAll_cons_mk (Below.trod laidOut (by kernel_rfl) (of_decide_eq_true (by kernel_rfl)) h0 bel lt0) (trodAll_cons_mk (Below.trod laidOut (by kernel_rfl) (of_decide_eq_true (by kernel_rfl)) h1 bel lt1) (trodAll_cons_mk (Below.trod laidOut (by kernel_rfl) (of_decide_eq_true (by kernel_rfl)) h2 bel lt2) trodAll_mk0))), rfl, bel.frame _, fun h => by cases h⟩

theorem over : Rows.cellMayRow.holds Tryd.pinned (OpenSpec.ofChange Rows.cellMaySpec) :=
  OpenClaim.holds_of_wide 3 Tryd.f3 rfl rfl rfl rfl rfl rfl rfl ⟨rfl, rfl, rfl, rfl, rfl⟩ rfl rfl rfl rfl rfl (by kernel_rfl) Tryd.func3 (by kernel_rfl)
    (of_decide_eq_true (by kernel_rfl)) (by unfold Func.isWrapper; first | (rw [if_pos (by decide +kernel)]; kernel_rfl) | (rw [if_neg (by decide +kernel)]; exact ⟨rfl, rfl⟩))
    (fun os started H enc _ => lifted os started H enc)

theorem proved : Rows.CellMayCardSaid :=
  Claim7.holds_tied_plain_at .later [] [.data] true Rows.cellMayCard.stood.harness false
    over (fun _ h => by cases h) (by kernel_rfl) (fun _ h => by cases h) cellMay_row_tie rfl ⟨rfl, rfl⟩ (by kernel_rfl) rfl
    (fun f fn hf hfn => by
      obtain rfl : f = 3 := Option.some.inj ((show Tryd.prog.funcNamed "spyglass/spyglasslaw08.CellMay" = some 3 by kernel_rfl).symm.trans hf) |>.symm
      obtain rfl : fn = Tryd.f3 := (Option.some.inj (Tryd.func3.symm.trans hfn)).symm
      exact ⟨by kernel_rfl, fun j t ht => by
        rw [Tryd.params3] at ht
        have hm : t ∈ [23, 28, 29] := by simpa using Array.mem_of_getElem? ht
        have hall : ([23, 28, 29].all fun u => !Tryd.prog.wantsStandIn u) = true := by kernel_rfl
        exact (show Tryd.prog.wantsStandIn t = false by simpa using List.all_eq_true.1 hall t hm)⟩)
    (by kernel_rfl)
end Go.Proofs.YtaofkipamliijaaDoor.cellMay
