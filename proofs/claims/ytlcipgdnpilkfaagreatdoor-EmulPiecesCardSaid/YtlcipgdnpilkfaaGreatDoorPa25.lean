/-
  Part 25 of what the laws of emul want: EmulScr.
-/
import Derived.Test.YtlcipgdnpilkfaaGreatDoorPa24
namespace Go.Proofs.YtlcipgdnpilkfaaGreatDoor
open Go.RowKit
section
variable {B : Nat} {w : World} {g : Nat} {x : CT} {A : Option Addr} {n c : Nat} {ps : List Int}
theorem CzP.drew {t : Tm} {w0 : World} {e : Ending} {w' : World} (hz : Cz B w0 g x) (hb : Below w0.heap.size w0 w) (h : CzP B g x t w e w') : CzP B g x t w0 e w' := by
 obtain ⟨rfl, y, hy⟩ := h
 exact ⟨rfl, y, ((CzTo.refl hz).below hb).trans hy⟩
set_option maxRecDepth 100000 in
set_option maxHeartbeats 1600000 in
theorem scrollUp_any (hT : Tabs w) (h : Cz B w g x) (hN : Nm w (CB g x) A n c ps) : Calls Tryz.prog 179 #[.pointer (some ⟨g, 0, none⟩), .slice A n c] w (CzP B g x (Dd.scrollUp.run ps x.t) w) := by
 have HC := Lib.hid (count_any (hN.below (Below.refl _ _).drew) 0 (by omega))
 have n1 := hN.one 0
 show Calls _ _ _ _ (CzP B g x (x.t.scrolled x.t.top x.t.bot (numP ps 0 1)) w)
 generalize numP ps 0 1 = N at HC n1 ⊢
 have HS := Lib.hid (show Calls Tryz.prog 161 #[.pointer (some ⟨g, 0, none⟩), .int .i64 x.t.top, .int .i64 x.t.bot, .int .i64 N] w.drew (CzP B g x (x.t.scrolled x.t.top x.t.bot N) w) from (scroll_any (hT.below (Below.refl _ _).drew (Nat.le_refl _)) (h.below (Below.refl _ _).drew) _ _ _).mono fun _ _ hX => hX.drew h (Below.refl _ _).drew)
 have c23 : w.cell? ⟨g, 23, none⟩ = some (.int .i64 x.t.top) := h.cell rfl
 have c24 : w.cell? ⟨g, 24, none⟩ = some (.int .i64 x.t.bot) := h.cell rfl
 clear h hN hT
 go_enter Tryz.func179, Tryz.ntmps179
 go_wp2_with fail
 go_still_tail 13, (by kernel_rfl)
 still_call HC.out
 repeat still_step
 refine wpStill_nil ?_
 change wpList _ _ _ _ _ w.drew
 generalize w.drew = w2 at HS ⊢
 go_wp2_with fail
 refine HS.out.mono ?_
 rintro e w3 ⟨rfl, y, hy⟩
 have Y := Lib.hid hy
 clear hy
 go_wp2_with fail
 go_end0
 exact ⟨rfl, y, Y.out⟩
set_option maxRecDepth 100000 in
set_option maxHeartbeats 1600000 in
theorem scrollDown_any (hT : Tabs w) (h : Cz B w g x) (hN : Nm w (CB g x) A n c ps) : Calls Tryz.prog 180 #[.pointer (some ⟨g, 0, none⟩), .slice A n c] w (CzP B g x (Dd.scrollDown.run ps x.t) w) := by
 have HC := Lib.hid (count_any (hN.below (Below.refl _ _).drew) 0 (by omega))
 have n1 := hN.one 0
 show Calls _ _ _ _ (CzP B g x (x.t.scrolled x.t.top x.t.bot (-(numP ps 0 1))) w)
 generalize numP ps 0 1 = N at HC n1 ⊢
 have HS := Lib.hid (show Calls Tryz.prog 161 #[.pointer (some ⟨g, 0, none⟩), .int .i64 x.t.top, .int .i64 x.t.bot, .int .i64 (-N)] w.drew (CzP B g x (x.t.scrolled x.t.top x.t.bot (-N)) w) from (scroll_any (hT.below (Below.refl _ _).drew (Nat.le_refl _)) (h.below (Below.refl _ _).drew) _ _ _).mono fun _ _ hX => hX.drew h (Below.refl _ _).drew)
 have c23 : w.cell? ⟨g, 23, none⟩ = some (.int .i64 x.t.top) := h.cell rfl
 have c24 : w.cell? ⟨g, 24, none⟩ = some (.int .i64 x.t.bot) := h.cell rfl
 have k0 : wrap64 (-N) = -N := by unfold wrap64; omega
 have j0 : IntKind.i64.wrap (-N) = -N := by rw [IntKind.wrap_i64]; omega
 clear h hN hT
 go_enter Tryz.func180, Tryz.ntmps180
 go_wp2_with fail
 go_still_tail 14, (by kernel_rfl)
 still_call HC.out
 repeat still_step
 refine wpStill_nil ?_
 change wpList _ _ _ _ _ w.drew
 generalize w.drew = w2 at HS ⊢
 go_wp2_with fail
 refine HS.out.mono ?_
 rintro e w3 ⟨rfl, y, hy⟩
 have Y := Lib.hid hy
 clear hy
 go_wp2_with fail
 go_end0
 exact ⟨rfl, y, Y.out⟩
set_option maxRecDepth 100000 in
set_option maxHeartbeats 1600000 in
theorem moveRows_any (hT : Tabs w) (h : Cz B w g x) (m : Int) : Calls Tryz.prog 226 #[.pointer (some ⟨g, 0, none⟩), .int .i64 m] w (CzP B g x (if x.t.top ≤ x.t.now.y ∧ x.t.now.y ≤ x.t.bot then (x.t.scrolled x.t.now.y x.t.bot m).atX 0 else x.t) w) := by
 have HZ := Lib.hid h
 have HT := Lib.hid hT
 have c2 : w.cell? ⟨g, 2, none⟩ = some (.int .i64 x.t.now.y) := h.cell rfl
 have c23 : w.cell? ⟨g, 23, none⟩ = some (.int .i64 x.t.top) := h.cell rfl
 have c24 : w.cell? ⟨g, 24, none⟩ = some (.int .i64 x.t.bot) := h.cell rfl
 by_cases h1 : x.t.top ≤ x.t.now.y
 · by_cases h2 : x.t.now.y ≤ x.t.bot
   · rw [if_pos ⟨h1, h2⟩]
     clear h hT
     go_enter Tryz.func226, Tryz.ntmps226
     go_wp2_with fail
     go_quiet (fail)
     go_wp2_with fail
     generalize hw2 : w.drewN nq = w2
     have hb2 : Below w.heap.size w w2 := by rw [← hw2]; exact belowN (Below.refl _ _) _
     clear hw2
     have Z2 := HZ.out.below hb2
     have c2 : w2.cell? ⟨g, 2, none⟩ = some (.int .i64 x.t.now.y) := Z2.cell rfl
     have c24 : w2.cell? ⟨g, 24, none⟩ = some (.int .i64 x.t.bot) := Z2.cell rfl
     have HS := Lib.hid (show Calls Tryz.prog 161 #[.pointer (some ⟨g, 0, none⟩), .int .i64 x.t.now.y, .int .i64 x.t.bot, .int .i64 m] w2.drew (CzP B g x (x.t.scrolled x.t.now.y x.t.bot m) w) from (scroll_any (HT.out.below hb2.drew (Nat.le_refl _)) (HZ.out.below hb2.drew) _ _ _).mono fun _ _ hX => hX.drew HZ.out hb2.drew)
     clear Z2 hb2
     go_still_tail 13, (by kernel_rfl)
     change wpList _ _ _ _ _ w2.drew
     generalize w2.drew = w3 at HS ⊢
     go_wp2_with fail
     refine HS.out.mono ?_
     rintro e w4 ⟨rfl, y, hy⟩
     have Y := Lib.hid hy
     clear hy
     go_wp2_with fail
     refine (lineStart_any Y.out.cz).mono ?_
     rintro e w5 ⟨rfl, z, hz⟩
     have Z := Lib.hid hz
     clear hz
     go_wp2_with fail
     go_end0
     exact ⟨rfl, z, (Y.out.trans Z.out).as (by rw [Y.out.t])⟩
   · rw [if_neg (fun e => h2 e.2)]
     have h3 : x.t.bot < x.t.now.y := by omega
     have d1 : decide (x.t.now.y ≤ x.t.bot) = false := decide_eq_false h2
     clear h hT
     go_enter Tryz.func226, Tryz.ntmps226
     go_wp2_with fail
     go_quiet (fail)
     go_wp2_with fail
     generalize hw2 : w.drewN nq = w2
     have hb2 : Below w.heap.size w w2 := by rw [← hw2]; exact belowN (Below.refl _ _) _
     clear hw2
     go_end0
     exact ⟨rfl, x, (CzTo.refl HZ.out).below hb2⟩
 · rw [if_neg (fun e => h1 e.1)]
   have h3 : x.t.now.y < x.t.top := by omega
   have d1 : decide (x.t.top ≤ x.t.now.y) = false := decide_eq_false h1
   clear h hT
   go_enter Tryz.func226, Tryz.ntmps226
   go_wp2_with fail
   go_quiet (fail)
   go_wp2_with fail
   generalize hw2 : w.drewN nq = w2
   have hb2 : Below w.heap.size w w2 := by rw [← hw2]; exact belowN (Below.refl _ _) _
   clear hw2
   go_end0
   exact ⟨rfl, x, (CzTo.refl HZ.out).below hb2⟩
set_option maxRecDepth 100000 in
set_option maxHeartbeats 1600000 in
theorem takeOutRows_any (hT : Tabs w) (h : Cz B w g x) (hN : Nm w (CB g x) A n c ps) : Calls Tryz.prog 178 #[.pointer (some ⟨g, 0, none⟩), .slice A n c] w (CzP B g x (Dd.takeOutRows.run ps x.t) w) := by
 have HC := Lib.hid (count_any hN 0 (by omega))
 have n1 := hN.one 0
 show Calls _ _ _ _ (CzP B g x (if x.t.top ≤ x.t.now.y ∧ x.t.now.y ≤ x.t.bot then (x.t.scrolled x.t.now.y x.t.bot (numP ps 0 1)).atX 0 else x.t) w)
 generalize numP ps 0 1 = N at HC n1 ⊢
 have HS := Lib.hid (moveRows_any hT h N)
 generalize (if x.t.top ≤ x.t.now.y ∧ x.t.now.y ≤ x.t.bot then (x.t.scrolled x.t.now.y x.t.bot N).atX 0 else x.t) = T' at HS ⊢
 clear h hN hT
 go_enter Tryz.func178, Tryz.ntmps178
 go_wp2_with fail
 refine HC.out.mono ?_
 rintro e w1 ⟨rfl, hw1⟩
 obtain rfl := hw1.symm
 clear hw1
 go_wp2_with fail
 refine HS.out.mono ?_
 rintro e w3 ⟨rfl, y, hy⟩
 have Y := Lib.hid hy
 clear hy
 go_wp2_with fail
 go_end0
 exact ⟨rfl, y, Y.out⟩
set_option maxRecDepth 100000 in
set_option maxHeartbeats 1600000 in
theorem insertRows_any (hT : Tabs w) (h : Cz B w g x) (hN : Nm w (CB g x) A n c ps) : Calls Tryz.prog 177 #[.pointer (some ⟨g, 0, none⟩), .slice A n c] w (CzP B g x (Dd.insertRows.run ps x.t) w) := by
 have HC := Lib.hid (count_any hN 0 (by omega))
 have n1 := hN.one 0
 show Calls _ _ _ _ (CzP B g x (if x.t.top ≤ x.t.now.y ∧ x.t.now.y ≤ x.t.bot then (x.t.scrolled x.t.now.y x.t.bot (-(numP ps 0 1))).atX 0 else x.t) w)
 generalize numP ps 0 1 = N at HC n1 ⊢
 have HS := Lib.hid (moveRows_any hT h (-N))
 generalize (if x.t.top ≤ x.t.now.y ∧ x.t.now.y ≤ x.t.bot then (x.t.scrolled x.t.now.y x.t.bot (-N)).atX 0 else x.t) = T' at HS ⊢
 have k0 : wrap64 (-N) = -N := by unfold wrap64; omega
 have j0 : IntKind.i64.wrap (-N) = -N := by rw [IntKind.wrap_i64]; omega
 clear h hN hT
 go_enter Tryz.func177, Tryz.ntmps177
 go_wp2_with fail
 refine HC.out.mono ?_
 rintro e w1 ⟨rfl, hw1⟩
 obtain rfl := hw1.symm
 clear hw1
 go_wp2_with fail
 refine HS.out.mono ?_
 rintro e w3 ⟨rfl, y, hy⟩
 have Y := Lib.hid hy
 clear hy
 go_wp2_with fail
 go_end0
 exact ⟨rfl, y, Y.out⟩
set_option maxRecDepth 100000 in
set_option maxHeartbeats 1600000 in
theorem lineDown_any (hT : Tabs w) (h : Cz B w g x) : Calls Tryz.prog 106 #[.pointer (some ⟨g, 0, none⟩), .slice A n c] w (CzP B g x (x.t.down) w) := by
 have HZ := Lib.hid h
 have HT := Lib.hid hT
 have zr := h.ok.r1
 have zy0 := h.ok.y0
 have zy1 := h.ok.y1
 have c2 : w.cell? ⟨g, 2, none⟩ = some (.int .i64 x.t.now.y) := h.cell rfl
 have c23 : w.cell? ⟨g, 23, none⟩ = some (.int .i64 x.t.top) := h.cell rfl
 have c24 : w.cell? ⟨g, 24, none⟩ = some (.int .i64 x.t.bot) := h.cell rfl
 have HR := Lib.hid (lastRow_any h)
 by_cases h1 : x.t.now.y = x.t.bot
 · have e : x.t.down = x.t.scrolled x.t.top x.t.bot 1 := by unfold Tm.down; rw [if_pos h1]
   rw [e]
   rw [h1] at c2
   clear e h1
   have HS := Lib.hid (show Calls Tryz.prog 161 #[.pointer (some ⟨g, 0, none⟩), .int .i64 x.t.top, .int .i64 x.t.bot, .int .i64 1] w.drew (CzP B g x (x.t.scrolled x.t.top x.t.bot 1) w) from (scroll_any (HT.out.below (Below.refl _ _).drew (Nat.le_refl _)) (HZ.out.below (Below.refl _ _).drew) _ _ _).mono fun _ _ hX => hX.drew HZ.out (Below.refl _ _).drew)
   clear h hT zr zy0 zy1
   go_enter Tryz.func106, Tryz.ntmps106
   go_wp2_with fail
   go_still_tail 11, (by kernel_rfl)
   change wpList _ _ _ _ _ w.drew
   generalize w.drew = w3 at HS ⊢
   go_wp2_with fail
   refine HS.out.mono ?_
   rintro e w4 ⟨rfl, y, hy⟩
   have Y := Lib.hid hy
   clear hy
   go_wp2_with fail
   go_end0
   exact ⟨rfl, y, Y.out⟩
 · by_cases h2 : x.t.now.y ≠ x.t.r - 1
   · have e : x.t.down = x.t.atY (x.t.now.y + 1) := by unfold Tm.down; rw [if_neg h1, if_pos h2]
     rw [e]
     have X := Lib.hid (h.atY (z := x.t.now.y + 1) (by omega) (by omega))
     have f2 : w.frozen? ⟨g, 2, none⟩ = false := h.fr 2
     have h4 : ¬ x.t.now.y = x.t.r - 1 := h2
     have k0 : wrap64 (x.t.now.y + 1) = x.t.now.y + 1 := by unfold wrap64; omega
     clear h hT zr zy0 zy1 e
     go_enter Tryz.func106, Tryz.ntmps106
     go_wp2_with fail
     refine HR.out.mono ?_
     rintro e w1 ⟨rfl, hw1⟩
     obtain rfl := hw1.symm
     clear hw1
     go_wp2_with fail
     go_end0
     exact X.out _ (Below.refl _ _)
   · have h2 := Classical.not_not.1 h2
     have e : x.t.down = x.t := by unfold Tm.down; rw [if_neg h1, if_neg (fun e => e h2)]
     rw [e]
     rw [h2] at c2
     have h3 : ¬ (x.t.r : Int) - 1 = x.t.bot := by omega
     clear h hT zr zy0 zy1 e h1
     go_enter Tryz.func106, Tryz.ntmps106
     go_wp2_with fail
     refine HR.out.mono ?_
     rintro e w1 ⟨rfl, hw1⟩
     obtain rfl := hw1.symm
     clear hw1
     go_wp2_with fail
     go_end0
     exact ⟨rfl, x, CzTo.refl HZ.out⟩
set_option maxRecDepth 100000 in
set_option maxHeartbeats 1600000 in
theorem lineUp_any (hT : Tabs w) (h : Cz B w g x) : Calls Tryz.prog 110 #[.pointer (some ⟨g, 0, none⟩), .slice A n c] w (CzP B g x (x.t.up) w) := by
 have HZ := Lib.hid h
 have HT := Lib.hid hT
 have zr := h.ok.r1
 have zy0 := h.ok.y0
 have zy1 := h.ok.y1
 have c2 : w.cell? ⟨g, 2, none⟩ = some (.int .i64 x.t.now.y) := h.cell rfl
 have c23 : w.cell? ⟨g, 23, none⟩ = some (.int .i64 x.t.top) := h.cell rfl
 have c24 : w.cell? ⟨g, 24, none⟩ = some (.int .i64 x.t.bot) := h.cell rfl
 by_cases h1 : x.t.now.y = x.t.top
 · have e : x.t.up = x.t.scrolled x.t.top x.t.bot (-1) := by unfold Tm.up; rw [if_pos h1]
   rw [e]
   rw [h1] at c2
   clear e h1
   have HS := Lib.hid (show Calls Tryz.prog 161 #[.pointer (some ⟨g, 0, none⟩), .int .i64 x.t.top, .int .i64 x.t.bot, .int .i64 (-1)] w.drew (CzP B g x (x.t.scrolled x.t.top x.t.bot (-1)) w) from (scroll_any (HT.out.below (Below.refl _ _).drew (Nat.le_refl _)) (HZ.out.below (Below.refl _ _).drew) _ _ _).mono fun _ _ hX => hX.drew HZ.out (Below.refl _ _).drew)
   clear h hT zr zy0 zy1
   go_enter Tryz.func110, Tryz.ntmps110
   go_wp2_with fail
   go_still_tail 11, (by kernel_rfl)
   change wpList _ _ _ _ _ w.drew
   generalize w.drew = w3 at HS ⊢
   go_wp2_with fail
   refine HS.out.mono ?_
   rintro e w4 ⟨rfl, y, hy⟩
   have Y := Lib.hid hy
   clear hy
   go_wp2_with fail
   go_end0
   exact ⟨rfl, y, Y.out⟩
 · by_cases h2 : x.t.now.y ≠ 0
   · have e : x.t.up = x.t.atY (x.t.now.y - 1) := by unfold Tm.up; rw [if_neg h1, if_pos h2]
     rw [e]
     have X := Lib.hid (h.atY (z := x.t.now.y - 1) (by omega) (by omega))
     have f2 : w.frozen? ⟨g, 2, none⟩ = false := h.fr 2
     have h4 : ¬ x.t.now.y = 0 := h2
     have k0 : wrap64 (x.t.now.y - 1) = x.t.now.y - 1 := by unfold wrap64; omega
     clear h hT zr zy0 zy1 e
     go_enter Tryz.func110, Tryz.ntmps110
     go_wp2_with fail
     go_end0
     exact X.out _ (Below.refl _ _)
   · have h2 := Classical.not_not.1 h2
     have e : x.t.up = x.t := by unfold Tm.up; rw [if_neg h1, if_neg (fun e => e h2)]
     rw [e]
     rw [h2] at c2
     have h3 : ¬ (0 : Int) = x.t.top := by omega
     clear h hT zr zy0 zy1 e h1
     go_enter Tryz.func110, Tryz.ntmps110
     go_wp2_with fail
     go_end0
     exact ⟨rfl, x, CzTo.refl HZ.out⟩
set_option maxRecDepth 100000 in
set_option maxHeartbeats 1600000 in
theorem nextLine_any (hT : Tabs w) (h : Cz B w g x) : Calls Tryz.prog 100 #[.pointer (some ⟨g, 0, none⟩), .slice A n c] w (CzP B g x ((x.t.atX 0).down) w) := by
 have HT := Lib.hid hT
 have HZ := Lib.hid h
 clear h hT
 go_enter Tryz.func100, Tryz.ntmps100
 go_wp2_with fail
 refine (lineStart_any HZ.out).mono ?_
 rintro e w1 ⟨rfl, y, hy⟩
 have Y := Lib.hid hy
 clear hy
 go_wp2_with fail
 refine (lineDown_any (HT.out.out Y.out.cz.tab Y.out.out.bel) Y.out.cz).mono ?_
 rintro e w2 ⟨rfl, z, hz⟩
 have Z := Lib.hid hz
 clear hz
 go_wp2_with fail
 go_end0
 exact ⟨rfl, z, (Y.out.trans Z.out).as (by rw [Y.out.t])⟩
end
end Go.Proofs.YtlcipgdnpilkfaaGreatDoor
