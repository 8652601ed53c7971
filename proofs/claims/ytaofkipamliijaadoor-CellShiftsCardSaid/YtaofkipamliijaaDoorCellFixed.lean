/-
  The chapter's example.
-/
import Derived.Test.YtaofkipamliijaaDoorCellPut
namespace Go.Proofs.YtaofkipamliijaaDoor
open Go.RowKit

def l4 : List Ce := [⟨32, 0, pn0⟩, ⟨32, 0, pn0⟩, ⟨32, 0, pn0⟩, ⟨32, 0, pn0⟩]
def l5 : List Ce := [⟨32, 0, pn0⟩, ⟨19968, 1, pn0⟩, ⟨0, 2, pn0⟩, ⟨32, 0, pn0⟩]
def l6 : List Ce := [⟨32, 0, pn0⟩, ⟨32, 0, pn0⟩, ⟨97, 0, pn0⟩, ⟨32, 0, pn0⟩]
theorem put45 : putS l4 1 19968 pn0 = l5 := by decide +kernel
theorem put56 : putS l5 2 97 pn0 = l6 := by decide +kernel
theorem put44 : putS l4 3 19968 pn0 = l4 := by decide +kernel
theorem ok4 : RowOk l4 := ⟨by decide, by decide, fun i hi => by
  have h : i = 0 ∨ i = 1 ∨ i = 2 ∨ i = 3 := by have : i < 4 := hi; omega
  rcases h with rfl | rfl | rfl | rfl <;> exact ⟨by decide +kernel, by decide +kernel, by decide +kernel⟩⟩
theorem ok5 : RowOk l5 := ⟨by decide, by decide, fun i hi => by
  have h : i = 0 ∨ i = 1 ∨ i = 2 ∨ i = 3 := by have : i < 4 := hi; omega
  rcases h with rfl | rfl | rfl | rfl <;> exact ⟨by decide +kernel, by decide +kernel, by decide +kernel⟩⟩
theorem may4 : (rowMay l4 && penMayS pn0) = true := by rw [(rowMay_iff l4).2 ok4]; decide
theorem may5 : (rowMay l5 && penMayS pn0) = true := by rw [(rowMay_iff l5).2 ok5]; decide

set_option maxHeartbeats 3200000 in
set_option maxRecDepth 100000 in
theorem fixedC_any {w : World} (hT : Tabs w) : Calls Tryd.prog 8 #[] w fun e w' => e = .returned (.bool true) ∧ Below w.heap.size w w' := by
  have HB := Lib.hid (show ∀ w : World, Calls Tryd.prog 16 #[.agg #[.int .u32 0, .int .u32 0, .int .u8 0, .int .u16 0]] w fun e w' => e = .returned (.agg #[.int .i32 32, .int .u8 0, .int .u32 0, .int .u32 0, .int .u8 0, .int .u16 0]) ∧ Below w.heap.size w w' from fun w => blank_any pn0 w)
  have H := Lib.hid hT
  clear hT
  go_enter Tryd.func8, Tryd.ntmps8
  go_wp2_with fail
  refine (HB.out _).mono ?_
  rintro e w1 ⟨rfl, hb1⟩
  go_wp2_with fail
  refine (HB.out _).mono ?_
  rintro e w2 ⟨rfl, hb2⟩
  have X2 := Lib.hid (hb1.trans (hb2.mono hb1.size))
  clear hb1 hb2
  go_wp2_with fail
  refine (HB.out _).mono ?_
  rintro e w3 ⟨rfl, hb3⟩
  have X3 := Lib.hid (X2.out.trans (hb3.mono X2.out.size))
  clear hb3 X2
  go_wp2_with fail
  refine (HB.out _).mono ?_
  rintro e w4 ⟨rfl, hb4⟩
  have X4 := Lib.hid (X3.out.trans (hb4.mono X3.out.size))
  clear hb4 X3
  go_upto_region 2 with fail
  obtain ⟨w5, hw5⟩ : ∃ w5, w5 = w4.alloc (.cells (rowV ceV l4).toArray 28) := ⟨_, rfl⟩
  have X5 := Lib.hid (show Below w.heap.size w w5 ∧ Rw ceV 28 w5 w4.heap.size l4 from by rw [hw5]; exact ⟨X4.out.alloc X4.out.size _, made_rw w4 _ _⟩)
  have hw6 : w5 = w4.alloc (.cells #[.int .i32 32, .int .u8 0, .int .u32 0, .int .u32 0, .int .u8 0, .int .u16 0, .int .i32 32, .int .u8 0, .int .u32 0, .int .u32 0, .int .u8 0, .int .u16 0, .int .i32 32, .int .u8 0, .int .u32 0, .int .u32 0, .int .u8 0, .int .u16 0, .int .i32 32, .int .u8 0, .int .u32 0, .int .u32 0, .int .u8 0, .int .u16 0] 28) := hw5
  obtain ⟨g1, hg1⟩ : ∃ g, g = w4.heap.size := ⟨_, rfl⟩
  rw [← hw6, ← hg1]
  rw [← hg1] at X5
  clear hw5 hw6 hg1 X4
  go_wp2_with fail
  refine (put_at (c := 4) (ok := true) (R := l5) 1 19968 pn0 X5.out.2.vs (H.out.below X5.out.1 (Nat.le_refl _)) (by decide) may4 put45).mono ?_
  rintro e w6 ⟨hyes, _⟩
  obtain ⟨hb, g2, k2, e2, hg2, hk2, hm2, hR2⟩ := hyes rfl
  have e3 : e = .returned (.slice (some ⟨g2, 0, none⟩) 4 k2) := e2
  subst e3
  have X6 := Lib.hid (show Below w.heap.size w w6 ∧ Rw ceV 28 w6 g1 l4 ∧ Rw ceV 28 w6 g2 l5 from ⟨X5.out.1.trans (hb.mono X5.out.1.size), X5.out.2.below hb, hR2⟩)
  clear hyes hb hg2 hR2 X5 e2
  go_wp2_with fail
  refine (put_at (c := k2) (ok := true) (R := l6) 2 97 pn0 X6.out.2.2.vs (H.out.below X6.out.1 (Nat.le_refl _)) (by decide) may5 put56).mono ?_
  rintro e w7 ⟨hyes, _⟩
  obtain ⟨hb, g3, k3, e2, hg3, hk3, hm3, hR3⟩ := hyes rfl
  have e3 : e = .returned (.slice (some ⟨g3, 0, none⟩) 4 k3) := e2
  subst e3
  have X7 := Lib.hid (show Below w.heap.size w w7 ∧ Rw ceV 28 w7 g1 l4 ∧ Rw ceV 28 w7 g2 l5 ∧ Rw ceV 28 w7 g3 l6 from ⟨X6.out.1.trans (hb.mono X6.out.1.size), X6.out.2.1.below hb, X6.out.2.2.below hb, hR3⟩)
  clear hyes hb hg3 hR3 X6 e2
  have SX := Lib.hid (show ∀ w', Below w7.heap.size w7 w' → (Below w7.heap.size w7 w' ∧ w'.cell? ⟨g2, 7, none⟩ = some (.int .u8 1) ∧ w'.cell? ⟨g2, 13, none⟩ = some (.int .u8 2) ∧ w'.cell? ⟨g3, 12, none⟩ = some (.int .i32 97) ∧
      (w'.cell? ⟨g3, 6, none⟩ = some (.int .i32 32) ∧ w'.cell? ⟨g3, 7, none⟩ = some (.int .u8 0) ∧ w'.cell? ⟨g3, 8, none⟩ = some (.int .u32 0) ∧ w'.cell? ⟨g3, 9, none⟩ = some (.int .u32 0) ∧ w'.cell? ⟨g3, 10, none⟩ = some (.int .u8 0) ∧ w'.cell? ⟨g3, 11, none⟩ = some (.int .u16 0)) ∧
      (w'.cell? ⟨g1, 6, none⟩ = some (.int .i32 32) ∧ w'.cell? ⟨g1, 7, none⟩ = some (.int .u8 0) ∧ w'.cell? ⟨g1, 8, none⟩ = some (.int .u32 0) ∧ w'.cell? ⟨g1, 9, none⟩ = some (.int .u32 0) ∧ w'.cell? ⟨g1, 10, none⟩ = some (.int .u8 0) ∧ w'.cell? ⟨g1, 11, none⟩ = some (.int .u16 0))) from fun w' hb => by
    have e1 := (X7.out.2.1.below hb).six (k := 1) (by decide)
    have e2 := (X7.out.2.2.2.below hb).six (k := 1) (by decide)
    have e3 := (X7.out.2.2.2.below hb).six (k := 2) (by decide)
    have e4 := (X7.out.2.2.1.below hb).six (k := 1) (by decide)
    have e5 := (X7.out.2.2.1.below hb).six (k := 2) (by decide)
    exact ⟨hb, e4.2.1, e5.2.1, e3.1, e2, e1⟩)
  have hq := fun w => ce_eql ⟨32, 0, pn0⟩ ⟨32, 0, pn0⟩ w
  unfold ceA at hq
  have hgd := guardCe
  have HP := Lib.hid (show ∀ w', Below w7.heap.size w7 w' → Calls Tryd.prog 25 #[.slice (some ⟨g1, 0, none⟩) 4 4, .int .i64 3, .int .i32 19968, .agg #[.int .u32 0, .int .u32 0, .int .u8 0, .int .u16 0]] w' fun e w'' => ∃ A c, e = .returned (.slice A 4 c) ∧ Vs ceV w'' A 4 l4 ∧ Vs ceV w'' (some ⟨g1, 0, none⟩) 4 l4 ∧ Below w7.heap.size w7 w'' from fun w' hb => by
    have hR := X7.out.2.1.below hb
    refine (put_at (c := 4) (ok := true) (R := l4) 3 19968 pn0 hR.vs (H.out.below (X7.out.1.trans (hb.mono X7.out.1.size)) (Nat.le_refl _)) (by decide) may4 put44).mono ?_
    rintro e w'' ⟨hyes, _⟩
    obtain ⟨hb2, g, k, rfl, hg, hk, hm, hR2⟩ := hyes rfl
    exact ⟨_, _, rfl, hR2.vs, (hR.below hb2).vs, hb.trans (hb2.mono hb.size)⟩)
  have hb0 : Below w7.heap.size w7 w7 := Below.refl _ _
  go_wp2_with fail
  go_region_held3 (fun w' => Below w7.heap.size w7 w' ∧ w'.cell? ⟨g2, 7, none⟩ = some (.int .u8 1) ∧ w'.cell? ⟨g2, 13, none⟩ = some (.int .u8 2) ∧ w'.cell? ⟨g3, 12, none⟩ = some (.int .i32 97) ∧
      (w'.cell? ⟨g3, 6, none⟩ = some (.int .i32 32) ∧ w'.cell? ⟨g3, 7, none⟩ = some (.int .u8 0) ∧ w'.cell? ⟨g3, 8, none⟩ = some (.int .u32 0) ∧ w'.cell? ⟨g3, 9, none⟩ = some (.int .u32 0) ∧ w'.cell? ⟨g3, 10, none⟩ = some (.int .u8 0) ∧ w'.cell? ⟨g3, 11, none⟩ = some (.int .u16 0)) ∧
      (w'.cell? ⟨g1, 6, none⟩ = some (.int .i32 32) ∧ w'.cell? ⟨g1, 7, none⟩ = some (.int .u8 0) ∧ w'.cell? ⟨g1, 8, none⟩ = some (.int .u32 0) ∧ w'.cell? ⟨g1, 9, none⟩ = some (.int .u32 0) ∧ w'.cell? ⟨g1, 10, none⟩ = some (.int .u8 0) ∧ w'.cell? ⟨g1, 11, none⟩ = some (.int .u16 0)))
    ((refine SX.out _ ?_; (try go_split_ands); first | assumption | exact belowN (by assumption) 1 | exact belowN (by assumption) _))
    ((first
      | (go_at_call 25; (try go_split_ands); refine (HP.out _ (by assumption)).mono ?_; rintro e w8 ⟨A8, c8, rfl, hv8, hv9, hb8⟩)
      | (go_at_call 18; (try go_split_ands); refine (sameC_any hv8 hv9 (by decide) (by decide)).mono ?_; rintro e w9 ⟨rfl, q9, rfl⟩)))
  go_wp2_with fail
  go_ret
  exact ⟨by simp, X7.out.1.trans (belowN (hb8.mono X7.out.1.size) _)⟩
end Go.Proofs.YtaofkipamliijaaDoor
