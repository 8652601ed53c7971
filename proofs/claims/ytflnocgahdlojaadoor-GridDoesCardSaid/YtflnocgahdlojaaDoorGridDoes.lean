/-
  Proved: GridDoes answers true for every grid and every call, over the table that the program lays (a tied card).
-/
import Derived.Test.YtflnocgahdlojaaDoorOpen
import Derived.Test.YtflnocgahdlojaaDoorCards
import Derived.Test.YtflnocgahdlojaaDoorTie
import Derived.SevenTiedAt
import Derived.Test.YtflnocgahdlojaaDoorCellTab
import Derived.Test.YtflnocgahdlojaaDoorGridOpen
import Derived.Test.YtflnocgahdlojaaDoorGridFx
import Derived.WalkKit
import Derived.Deep.RegionHeld3
import Derived.StillTailTactics
namespace Go.Proofs.YtflnocgahdlojaaDoor.gridDoes
open Go.ChangeShapes Go.WideShapes Go.ChangeAt Go.RowKit

/-- A rune stored into a row. -/
theorem rw_setR {w : World} {t : TypeId} {g : Nat} {M : List Ce} (h : Rw ceV t w g M) {k : Nat} (hk : k < M.length) (z : Int) : Rw ceV t (w.setCell ⟨g, k * 6, none⟩ (.int .i32 z)) g (M.set k ⟨z, (cAt M k).wd, (cAt M k).p⟩) := by
  obtain ⟨rest, h⟩ := h
  refine ⟨rest, ?_⟩
  rw [heap_setCell_same w _ _ _ _ _ h]
  congr 1
  rw [List.setIfInBounds_toArray]
  congr 1
  have hl := rowV_len ceV_len M
  rw [List.set_append_left _ _ (by omega)]
  congr 1
  have e1 : M = M.take k ++ (cAt M k :: M.drop (k + 1)) := by rw [cAt_lt hk, ← List.drop_eq_getElem_cons hk, List.take_append_drop]
  have e2 : M.set k ⟨z, (cAt M k).wd, (cAt M k).p⟩ = M.take k ++ (⟨z, (cAt M k).wd, (cAt M k).p⟩ :: M.drop (k + 1)) := by rw [List.set_eq_take_append_cons_drop, if_pos hk]
  rw [e2]
  conv => lhs; rw [e1]
  rw [rowV_append, rowV_append, List.set_append_right _ _ (by rw [rowV_len ceV_len, List.length_take]; have : min k M.length = k := Nat.min_eq_left (by omega); omega)]
  congr 1
  rw [rowV_len ceV_len, List.length_take, Nat.min_eq_left (by omega), Nat.sub_self]
  simp [rowV, ceV]
theorem grown_setC {a w : World} {g : Nat} (h : a.grownBy w (some g)) (k : Nat) (u : Value) : a.grownBy (w.setCell ⟨g, k, none⟩ u) (some g) :=
  ⟨h.os, h.tape, h.output, by simpa [World.setCell] using h.size, fun i hi hne => (heap_setCell_other w _ i u (fun e => hne (by rw [e]))).trans (h.block i hi hne)⟩
theorem rs_shape {ok : Bool} {LL : Rws} {w : World} {e : Ending} {w' : World} (h : RsPost ok LL w e w') : ∃ A n k, e = .returned (.tuple #[.slice A n k, .bool ok]) ∧ Below w.heap.size w w' := by
  cases ok
  · obtain ⟨h1, h2⟩ := h.2 rfl
    exact ⟨_, _, _, h1, h2⟩
  · obtain ⟨h1, g, k, S, h2, _⟩ := h.1 rfl
    exact ⟨_, _, _, h2, h1⟩
theorem grown_drew {a w : World} {row : Option Nat} (h : a.grownBy w row) : a.grownBy w.drew row := ⟨h.os, h.tape, h.output, h.size, h.block⟩
structure St (w w0 : World) (b : Nat) (c r : Int) (A : Option Addr) (n k : Nat) (o : Op9) (L : List Ce) : Prop where
  bel : Below w.heap.size w w0
  tabs : Tabs w0
  vs : Vs ceV w0 A n L
  gb : Gb w0 b ⟨c, r, A, n, k⟩
  op : Op9c w0 (b + 1) o

set_option maxHeartbeats 12800000 in
set_option maxRecDepth 100000 in
/-- The walk. -/
theorem walk {gc gr : Int} {A : Option Addr} {n k : Nat} {L : List Ce} {o : Op9} (w : World) (hT : Tabs w) (hs : Vs ceV w A n L ∧ n ≤ k ∧ k ≤ maxLen) (_ : True) :
    Calls Tryd.prog 3 #[.agg (gV gc gr A n k), .agg (opA9 o)] w fun e w' => e = .returned (.bool true) ∧ Below w.heap.size w w' := by
  obtain ⟨hv, hk, hm⟩ := hs
  unfold maxLen at hm
  obtain ⟨w0, hw0⟩ : ∃ w0, w0 = (w.alloc (.cells (gV gc gr A n k) 24)).alloc (.cells (opA9 o) 31) := ⟨_, rfl⟩
  obtain ⟨b, hbe⟩ : ∃ b, b = w.heap.size := ⟨_, rfl⟩
  have H := Lib.hid (show St w w0 b gc gr A n k o L from by
    have h0 := below1 w (.cells (gV gc gr A n k) 24)
    have h1 := h0.alloc h0.size (.cells (opA9 o) 31)
    have h2 := op9_new (w.alloc (.cells (gV gc gr A n k) 24)) o 31
    rw [alloc_size] at h2
    rw [hw0, hbe]
    exact ⟨h1, hT.below h1 (Nat.le_refl _), hv.below h1, (gb_new w ⟨gc, gr, A, n, k⟩).below (below1 _ _), h2⟩)
  have HL := Lib.hid hv.len
  clear hv hT
  obtain ⟨m, hm2⟩ : ∃ m, gridMay gc gr L = m := ⟨_, rfl⟩
  have HM := Lib.hid hm2
  clear hm2
  obtain ⟨c0, c1, c2, _⟩ := H.out.gb.g3
  dsimp only at c0 c1 c2
  obtain ⟨d0, d1, d2, d3, d4, d5, d6, d7, d8, _⟩ := H.out.op
  unfold gV opA9 at hw0
  go_enter Tryd.func3, Tryd.ntmps3
  unfold gV opA9
  go_upto_region 1 with fail
  rw [← hw0, ← hbe]
  clear hw0 hbe
  by_cases h4 : (4000 : Int) < (n : Int)
  ·
    go_wp2_with fail
    refine (fixedG_any H.out.tabs).mono ?_
    rintro e w9 ⟨rfl, hb⟩
    have X9 := Lib.hid (H.out.bel.trans (hb.mono H.out.bel.size))
    clear hb
    go_wp2_with fail
    go_ret
    exact ⟨rfl, X9.out⟩
  · have h4' : (n : Int) ≤ 4000 := by omega
    by_cases e1 : o.k < 0
    ·
      go_wp2_with fail
      refine (fixedG_any H.out.tabs).mono ?_
      rintro e w9 ⟨rfl, hb⟩
      have X9 := Lib.hid (H.out.bel.trans (hb.mono H.out.bel.size))
      clear hb
      go_wp2_with fail
      go_ret
      exact ⟨rfl, X9.out⟩
    · have hk0 : 0 ≤ o.k := by omega
      by_cases e2 : 5 < o.k
      ·
        go_wp2_with fail
        refine (fixedG_any H.out.tabs).mono ?_
        rintro e w9 ⟨rfl, hb⟩
        have X9 := Lib.hid (H.out.bel.trans (hb.mono H.out.bel.size))
        clear hb
        go_wp2_with fail
        go_ret
        exact ⟨rfl, X9.out⟩
      · have hk5 : o.k ≤ 5 := by omega
        clear h4 e1 e2
        go_wp2_with fail
        refine (copyG_any (c := gc) (r := gr) (k := k) H.out.vs (by omega)).mono ?_
        rintro e w1 ⟨hb, gO, kO, rfl, hgO, hkO, hmO, hR⟩
        rw [HL.out] at hkO ⊢
        obtain ⟨wc, hwc⟩ : ∃ wc, wc = w1.alloc (.cells (gV gc gr (some ⟨gO, 0, none⟩) n kO) 24) := ⟨_, rfl⟩
        obtain ⟨b5, hb5⟩ : ∃ b5, b5 = w1.heap.size := ⟨_, rfl⟩
        have X := Lib.hid (show Below w0.heap.size w0 wc ∧ Gb wc b5 ⟨gc, gr, some ⟨gO, 0, none⟩, n, kO⟩ ∧ Gb wc b ⟨gc, gr, A, n, k⟩ ∧ Op9c wc (b + 1) o ∧ Rw ceV 41 wc gO L from by
          have h2 := below1 w1 (.cells (gV gc gr (some ⟨gO, 0, none⟩) n kO) 24)
          rw [hwc, hb5]
          exact ⟨hb.alloc hb.size _, gb_new w1 ⟨gc, gr, some ⟨gO, 0, none⟩, n, kO⟩, (H.out.gb.below hb).below h2, (H.out.op.below hb).below h2, hR.below h2⟩)
        clear hb hgO hR c0 c1 c2 d0 d1 d2 d3 d4 d5 d6 d7 d8
        unfold gV at hwc ⊢
        go_upto_region 4 with fail
        rw [← hwc, ← hb5]
        clear hwc hb5
        obtain ⟨c0, c1, c2, _⟩ := X.out.2.1.g3
        dsimp only at c0 c1 c2
        obtain ⟨d0, d1, d2, d3, d4, d5, d6, d7, d8, _⟩ := X.out.2.2.2.1
        obtain ⟨G, hG⟩ : ∃ G, doG gc gr L o = G := ⟨_, rfl⟩
        have HG := Lib.hid hG
        have HVO := Lib.hid (show Vs ceV wc (some ⟨gO, 0, none⟩) n L from by
          have e1 := X.out.2.2.2.2.vs
          rw [HL.out] at e1
          exact e1)
        have HDO := do9_any (c := gc) (r := gr) (k := kO) o HVO.out (H.out.tabs.below X.out.1 (Nat.le_refl _)) hkO (by omega) hk0 hk5
        rw [hG] at HDO
        unfold gV opA9 at HDO
        have HDO := Lib.hid HDO
        clear hG
        go_wp2_with fail
        refine HDO.out.mono ?_
        intro e w2 hp
        clear c0 c1 c2 d0 d1 d2 d3 d4 d5 d6 d7 d8 HDO HVO
        cases G with
        | none =>
          obtain ⟨rfl, hb⟩ := hp.2 rfl
          obtain ⟨wa, hwa⟩ : ∃ wa, wa = w2.alloc (.cells (gV 0 0 none 0 0) 24) := ⟨_, rfl⟩
          obtain ⟨b6, hb6⟩ : ∃ b6, b6 = w2.heap.size := ⟨_, rfl⟩
          have Y := Lib.hid (show Below w0.heap.size w0 wa ∧ Gb wa b5 ⟨gc, gr, some ⟨gO, 0, none⟩, n, kO⟩ ∧ Gb wa b6 gr0 ∧ Gb wa b ⟨gc, gr, A, n, k⟩ ∧ Op9c wa (b + 1) o ∧ Rw ceV 41 wa gO L ∧ True from by
            have h1 := X.out.1.trans (hb.mono X.out.1.size)
            have h2 := below1 w2 (.cells (gV 0 0 none 0 0) 24)
            rw [hwa, hb6]
            exact ⟨h1.alloc h1.size _, (X.out.2.1.below hb).below h2, gb_new w2 gr0, (X.out.2.2.1.below hb).below h2, (X.out.2.2.2.1.below hb).below h2, (X.out.2.2.2.2.below hb).below h2, trivial⟩)
          clear hp hb X
          unfold gV at hwa ⊢
          go_upto_region 5 with fail
          rw [← hwa, ← hb6]
          clear hwa hb6
          obtain ⟨c0, c1, c2, _⟩ := Y.out.2.2.2.1.g3
          dsimp only at c0 c1 c2
          go_wp2_with fail
          refine (refRows_any (H.out.vs.below Y.out.1) hk (by omega) HM.out rfl).mono ?_
          intro e w5 hp
          obtain ⟨Al, nl, kl, rfl, hb⟩ := rs_shape hp
          have Y5 := Lib.hid (show Below w0.heap.size w0 w5 ∧ Gb w5 b5 ⟨gc, gr, some ⟨gO, 0, none⟩, n, kO⟩ ∧ Gb w5 b6 gr0 ∧ Gb w5 b ⟨gc, gr, A, n, k⟩ ∧ Op9c w5 (b + 1) o ∧ Rw ceV 41 w5 gO L ∧ True from ⟨Y.out.1.trans (hb.mono Y.out.1.size), Y.out.2.1.below hb, Y.out.2.2.1.below hb, Y.out.2.2.2.1.below hb, Y.out.2.2.2.2.1.below hb, Y.out.2.2.2.2.2.1.below hb, trivial⟩)
          clear hp hb c0 c1 c2
          go_upto_region 6 with fail
          have hb1 : Below w5.heap.size w5 w5.drew := belowN (Below.refl _ _) 1
          have SX := Lib.hid (show ∀ w', Below w5.heap.size w5 w' → (fun w' => Below w5.heap.size w5 w' ∧ (w'.cell? ⟨b5, 0, none⟩ = some (.int .i64 gc) ∧ w'.cell? ⟨b5, 1, none⟩ = some (.int .i64 gr) ∧ w'.cell? ⟨b5, 2, none⟩ = some (.slice (some ⟨gO, 0, none⟩) n kO) ∧ w'.cell? ⟨b6, 0, none⟩ = some (.int .i64 0) ∧ w'.cell? ⟨b6, 1, none⟩ = some (.int .i64 0) ∧ w'.cell? ⟨b6, 2, none⟩ = some (.slice none 0 0) ∧ w'.cell? ⟨b, 0, none⟩ = some (.int .i64 gc) ∧ w'.cell? ⟨b, 1, none⟩ = some (.int .i64 gr) ∧ w'.cell? ⟨b, 2, none⟩ = some (.slice A n k) ∧ w'.cell? ⟨b + 1, 0, none⟩ = some (.int .i64 o.k) ∧ w'.cell? ⟨b + 1, 1, none⟩ = some (.int .i64 o.x) ∧ w'.cell? ⟨b + 1, 2, none⟩ = some (.int .i64 o.y) ∧ w'.cell? ⟨b + 1, 3, none⟩ = some (.int .i64 o.n) ∧ w'.cell? ⟨b + 1, 4, none⟩ = some (.int .i32 o.r) ∧ w'.cell? ⟨b + 1, 5, none⟩ = some (.int .u32 o.p.fg) ∧ w'.cell? ⟨b + 1, 6, none⟩ = some (.int .u32 o.p.bg) ∧ w'.cell? ⟨b + 1, 7, none⟩ = some (.int .u8 o.p.st) ∧ w'.cell? ⟨b + 1, 8, none⟩ = some (.int .u16 o.p.lk))) w' from fun w' hb => by
            obtain ⟨f0, f1, f2, _⟩ := (Y5.out.2.1.below hb).g3
            obtain ⟨g0, g1, g2, _⟩ := (Y5.out.2.2.1.below hb).g3
            obtain ⟨h0, h1, h2, _⟩ := (Y5.out.2.2.2.1.below hb).g3
            obtain ⟨i0, i1, i2, i3, i4, i5, i6, i7, i8, _⟩ := Y5.out.2.2.2.2.1.below hb
            exact ⟨hb, f0, f1, f2, g0, g1, g2, h0, h1, h2, i0, i1, i2, i3, i4, i5, i6, i7, i8⟩)
          have HFX := Lib.hid (show ∀ w', Below w5.heap.size w5 w' → Calls Tryd.prog 9 #[] w' fun e w'' => e = .returned (.bool true) ∧ Below w'.heap.size w' w'' from fun w' hb => fixedG_any (H.out.tabs.below (Y5.out.1.trans (hb.mono Y5.out.1.size)) (Nat.le_refl _)))
          have HMY := Lib.hid (show ∀ w', Below w5.heap.size w5 w' → Calls Tryd.prog 13 #[.agg #[.int .i64 gc, .int .i64 gr, .slice (some ⟨gO, 0, none⟩) n kO]] w' fun e w'' => e = .returned (.bool m) ∧ Below w'.heap.size w' w'' from fun w' hb => by
            have e1 := (Y5.out.2.2.2.2.2.1.below hb).vs
            rw [HL.out] at e1
            refine (gMay_any (c := gc) (r := gr) e1 (H.out.tabs.below (Y5.out.1.trans (hb.mono Y5.out.1.size)) (Nat.le_refl _)) hkO (by omega)).mono fun e w'' h => ?_
            rw [HM.out] at h
            exact h)
          have HWT := Lib.hid (show ∀ w', Below w5.heap.size w5 w' → Calls Tryd.prog 15 #[.agg #[.int .i64 gc, .int .i64 gr, .slice A n k], .agg #[.int .i64 o.k, .int .i64 o.x, .int .i64 o.y, .int .i64 o.n, .int .i32 o.r, .int .u32 o.p.fg, .int .u32 o.p.bg, .int .u8 o.p.st, .int .u16 o.p.lk]] w' fun e w'' => e = .returned (.agg #[.int .i64 0, .int .i64 0, .slice none 0 0]) ∧ Below w'.heap.size w' w'' from fun w' hb => by
            refine (want9_any (c := gc) (r := gr) o (H.out.vs.below (Y5.out.1.trans (hb.mono Y5.out.1.size))) hk (by omega) hk0 hk5).mono fun e w'' h => ?_
            rw [HG.out] at h
            exact h.2 rfl)
          have HSM := Lib.hid (show ∀ w' , Below w5.heap.size w5 w' → Calls Tryd.prog 14 #[.agg #[.int .i64 0, .int .i64 0, .slice none 0 0], .agg #[.int .i64 0, .int .i64 0, .slice none 0 0]] w' fun e w'' => e = .returned (.bool true) ∧ Below w'.heap.size w' w'' from fun w'  hb => by
            exact sameG_any (c := 0) (r := 0) (c' := 0) (r' := 0) (L := []) (L' := []) (Vs.nil w' none) (Vs.nil w' none) (by omega) (by omega) (by simp))
          go_region_held3 (fun w' => Below w5.heap.size w5 w' ∧ (w'.cell? ⟨b5, 0, none⟩ = some (.int .i64 gc) ∧ w'.cell? ⟨b5, 1, none⟩ = some (.int .i64 gr) ∧ w'.cell? ⟨b5, 2, none⟩ = some (.slice (some ⟨gO, 0, none⟩) n kO) ∧ w'.cell? ⟨b6, 0, none⟩ = some (.int .i64 0) ∧ w'.cell? ⟨b6, 1, none⟩ = some (.int .i64 0) ∧ w'.cell? ⟨b6, 2, none⟩ = some (.slice none 0 0) ∧ w'.cell? ⟨b, 0, none⟩ = some (.int .i64 gc) ∧ w'.cell? ⟨b, 1, none⟩ = some (.int .i64 gr) ∧ w'.cell? ⟨b, 2, none⟩ = some (.slice A n k) ∧ w'.cell? ⟨b + 1, 0, none⟩ = some (.int .i64 o.k) ∧ w'.cell? ⟨b + 1, 1, none⟩ = some (.int .i64 o.x) ∧ w'.cell? ⟨b + 1, 2, none⟩ = some (.int .i64 o.y) ∧ w'.cell? ⟨b + 1, 3, none⟩ = some (.int .i64 o.n) ∧ w'.cell? ⟨b + 1, 4, none⟩ = some (.int .i32 o.r) ∧ w'.cell? ⟨b + 1, 5, none⟩ = some (.int .u32 o.p.fg) ∧ w'.cell? ⟨b + 1, 6, none⟩ = some (.int .u32 o.p.bg) ∧ w'.cell? ⟨b + 1, 7, none⟩ = some (.int .u8 o.p.st) ∧ w'.cell? ⟨b + 1, 8, none⟩ = some (.int .u16 o.p.lk)))
            ((refine SX.out _ ?_; assumption))
            ((first
              | (go_at_call 9; refine (HFX.out _ (by assumption)).mono ?_; rintro e w4 ⟨rfl, hb4⟩; have hb5 := Below.trans (B := w5.heap.size) (by assumption) (hb4.mono (below_sz (a := w5) (B := w5.heap.size) (by assumption))))
              | (go_at_call 13; (try go_split_ands); refine (HMY.out _ (by assumption)).mono ?_; rintro e w4 ⟨rfl, hb4⟩; have hb5 := Below.trans (B := w5.heap.size) (by assumption) (hb4.mono (below_sz (a := w5) (B := w5.heap.size) (by assumption))))
              | (go_at_call 15; (try go_split_ands); refine (HWT.out _ (by assumption)).mono ?_; rintro e w4 ⟨rfl, hb4⟩; have hb5 := Below.trans (B := w5.heap.size) (by assumption) (hb4.mono (below_sz (a := w5) (B := w5.heap.size) (by assumption))))
              | (go_at_call 14; (try go_split_ands); refine (HSM.out _ (by assumption)).mono ?_; rintro e w4 ⟨rfl, hb4⟩; have hb5 := Below.trans (B := w5.heap.size) (by assumption) (hb4.mono (below_sz (a := w5) (B := w5.heap.size) (by assumption))))))
          have Z := Lib.hid (show Below w0.heap.size w0 w4 ∧ Gb w4 b5 ⟨gc, gr, some ⟨gO, 0, none⟩, n, kO⟩ ∧ Gb w4 b6 gr0 ∧ Gb w4 b ⟨gc, gr, A, n, k⟩ ∧ Rw ceV 41 w4 gO L ∧ True from ⟨Y5.out.1.trans (hb5.mono Y5.out.1.size), Y5.out.2.1.below hb5, Y5.out.2.2.1.below hb5, Y5.out.2.2.2.1.below hb5, Y5.out.2.2.2.2.2.1.below hb5, trivial⟩)
          clear hb4 hb5 HFX HMY HWT HSM
          obtain ⟨c0, c1, c2, _⟩ := Z.out.2.2.1.g3
          unfold gr0 at c0 c1 c2
          dsimp only at c0 c1 c2
          go_wp2_with fail
          clear c0 c1 c2
          go_loopw [54] (fun i wr => i = .int .i64 0 ∧ wr = w4) (fun _ _ => 0)
          case atStart => exact ⟨rfl, rfl⟩
          case round =>
            obtain ⟨rfl, hwr⟩ := hrel
            subst hwr
            have V1 := Lib.hid (show Vs ceV wr (some ⟨gO, 0, none⟩) n L ∧ Vs ceV wr A n L ∧ Below w0.heap.size w0 wr ∧ Gb wr b5 ⟨gc, gr, some ⟨gO, 0, none⟩, n, kO⟩ ∧ Gb wr b ⟨gc, gr, A, n, k⟩ from by
              have e1 := Z.out.2.2.2.2.1.vs
              rw [HL.out] at e1
              exact ⟨e1, H.out.vs.below Z.out.1, Z.out.1, Z.out.2.1, Z.out.2.2.2.1⟩)
            obtain ⟨c0, c1, c2, _⟩ := V1.out.2.2.2.1.g3
            obtain ⟨d0, d1, d2, _⟩ := V1.out.2.2.2.2.g3
            dsimp only at c0 c1 c2 d0 d1 d2
            go_wp2_with fail
            refine (sameG_any (c := gc) (r := gr) (c' := gc) (r' := gr) (B := true) V1.out.1 V1.out.2.1 (by omega) (by omega) (by simp)).mono ?_
            rintro e w9 ⟨rfl, hb⟩
            have X9 := Lib.hid (H.out.bel.trans ((V1.out.2.2.1.trans (hb.mono V1.out.2.2.1.size)).mono H.out.bel.size))
            clear hb c0 c1 c2 d0 d1 d2
            go_wp2_with fail
            go_ret
            exact ⟨rfl, X9.out⟩
        | some gg =>
          obtain ⟨c, r, M⟩ := gg
          obtain ⟨hb, g2, k2, rfl, hg2, hk2, hm2, hR⟩ := hp.1 c r M rfl
          obtain ⟨m6, hm6⟩ : ∃ m6, m6 = M.flatten.length := ⟨_, rfl⟩
          have HM6 := Lib.hid (show M.flatten.length = m6 ∧ m6 ≤ 1920 from by
            have h8 := doG_ok HG.out
            have h9 := h8.box.flen
            have h7 := h8.small
            omega)
          rw [← hm6] at hk2 ⊢
          clear hm6
          obtain ⟨wa, hwa⟩ : ∃ wa, wa = w2.alloc (.cells (gV (c : Int) (r : Int) (some ⟨g2, 0, none⟩) m6 k2) 24) := ⟨_, rfl⟩
          obtain ⟨b6, hb6⟩ : ∃ b6, b6 = w2.heap.size := ⟨_, rfl⟩
          have Y := Lib.hid (show Below w0.heap.size w0 wa ∧ Gb wa b5 ⟨gc, gr, some ⟨gO, 0, none⟩, n, kO⟩ ∧ Gb wa b6 ⟨c, r, some ⟨g2, 0, none⟩, m6, k2⟩ ∧ Gb wa b ⟨gc, gr, A, n, k⟩ ∧ Op9c wa (b + 1) o ∧ Rw ceV 41 wa gO L ∧ Rw ceV 41 wa g2 M.flatten from by
            have h1 := X.out.1.trans (hb.mono X.out.1.size)
            have h2 := below1 w2 (.cells (gV (c : Int) (r : Int) (some ⟨g2, 0, none⟩) m6 k2) 24)
            rw [hwa, hb6]
            exact ⟨h1.alloc h1.size _, (X.out.2.1.below hb).below h2, gb_new w2 ⟨c, r, some ⟨g2, 0, none⟩, m6, k2⟩, (X.out.2.2.1.below hb).below h2, (X.out.2.2.2.1.below hb).below h2, (X.out.2.2.2.2.below hb).below h2, hR.below h2⟩)
          have HNE := Lib.hid (show gO < g2 ∧ w0.heap.size ≤ g2 ∧ ¬ g2 = b6 ∧ ¬ g2 = b5 from by
            have h7 := X.out.2.2.2.2.lt
            have h8 := X.out.1.size
            have h9 := X.out.2.1.lt
            have h6 := hR.lt
            omega)
          clear hp hb hg2 hR X
          unfold gV at hwa ⊢
          go_upto_region 5 with fail
          rw [← hwa, ← hb6]
          clear hwa hb6
          obtain ⟨c0, c1, c2, _⟩ := Y.out.2.2.2.1.g3
          dsimp only at c0 c1 c2
          go_wp2_with fail
          refine (refRows_any (H.out.vs.below Y.out.1) hk (by omega) HM.out rfl).mono ?_
          intro e w5 hp
          obtain ⟨Al, nl, kl, rfl, hb⟩ := rs_shape hp
          have Y5 := Lib.hid (show Below w0.heap.size w0 w5 ∧ Gb w5 b5 ⟨gc, gr, some ⟨gO, 0, none⟩, n, kO⟩ ∧ Gb w5 b6 ⟨c, r, some ⟨g2, 0, none⟩, m6, k2⟩ ∧ Gb w5 b ⟨gc, gr, A, n, k⟩ ∧ Op9c w5 (b + 1) o ∧ Rw ceV 41 w5 gO L ∧ Rw ceV 41 w5 g2 M.flatten from ⟨Y.out.1.trans (hb.mono Y.out.1.size), Y.out.2.1.below hb, Y.out.2.2.1.below hb, Y.out.2.2.2.1.below hb, Y.out.2.2.2.2.1.below hb, Y.out.2.2.2.2.2.1.below hb, Y.out.2.2.2.2.2.2.below hb⟩)
          clear hp hb c0 c1 c2
          go_upto_region 6 with fail
          have hb1 : Below w5.heap.size w5 w5.drew := belowN (Below.refl _ _) 1
          have SX := Lib.hid (show ∀ w', Below w5.heap.size w5 w' → (fun w' => Below w5.heap.size w5 w' ∧ (w'.cell? ⟨b5, 0, none⟩ = some (.int .i64 gc) ∧ w'.cell? ⟨b5, 1, none⟩ = some (.int .i64 gr) ∧ w'.cell? ⟨b5, 2, none⟩ = some (.slice (some ⟨gO, 0, none⟩) n kO) ∧ w'.cell? ⟨b6, 0, none⟩ = some (.int .i64 (c : Int)) ∧ w'.cell? ⟨b6, 1, none⟩ = some (.int .i64 (r : Int)) ∧ w'.cell? ⟨b6, 2, none⟩ = some (.slice (some ⟨g2, 0, none⟩) m6 k2) ∧ w'.cell? ⟨b, 0, none⟩ = some (.int .i64 gc) ∧ w'.cell? ⟨b, 1, none⟩ = some (.int .i64 gr) ∧ w'.cell? ⟨b, 2, none⟩ = some (.slice A n k) ∧ w'.cell? ⟨b + 1, 0, none⟩ = some (.int .i64 o.k) ∧ w'.cell? ⟨b + 1, 1, none⟩ = some (.int .i64 o.x) ∧ w'.cell? ⟨b + 1, 2, none⟩ = some (.int .i64 o.y) ∧ w'.cell? ⟨b + 1, 3, none⟩ = some (.int .i64 o.n) ∧ w'.cell? ⟨b + 1, 4, none⟩ = some (.int .i32 o.r) ∧ w'.cell? ⟨b + 1, 5, none⟩ = some (.int .u32 o.p.fg) ∧ w'.cell? ⟨b + 1, 6, none⟩ = some (.int .u32 o.p.bg) ∧ w'.cell? ⟨b + 1, 7, none⟩ = some (.int .u8 o.p.st) ∧ w'.cell? ⟨b + 1, 8, none⟩ = some (.int .u16 o.p.lk))) w' from fun w' hb => by
            obtain ⟨f0, f1, f2, _⟩ := (Y5.out.2.1.below hb).g3
            obtain ⟨g0, g1, g2, _⟩ := (Y5.out.2.2.1.below hb).g3
            obtain ⟨h0, h1, h2, _⟩ := (Y5.out.2.2.2.1.below hb).g3
            obtain ⟨i0, i1, i2, i3, i4, i5, i6, i7, i8, _⟩ := Y5.out.2.2.2.2.1.below hb
            exact ⟨hb, f0, f1, f2, g0, g1, g2, h0, h1, h2, i0, i1, i2, i3, i4, i5, i6, i7, i8⟩)
          have HFX := Lib.hid (show ∀ w', Below w5.heap.size w5 w' → Calls Tryd.prog 9 #[] w' fun e w'' => e = .returned (.bool true) ∧ Below w'.heap.size w' w'' from fun w' hb => fixedG_any (H.out.tabs.below (Y5.out.1.trans (hb.mono Y5.out.1.size)) (Nat.le_refl _)))
          have HMY := Lib.hid (show ∀ w', Below w5.heap.size w5 w' → Calls Tryd.prog 13 #[.agg #[.int .i64 gc, .int .i64 gr, .slice (some ⟨gO, 0, none⟩) n kO]] w' fun e w'' => e = .returned (.bool m) ∧ Below w'.heap.size w' w'' from fun w' hb => by
            have e1 := (Y5.out.2.2.2.2.2.1.below hb).vs
            rw [HL.out] at e1
            refine (gMay_any (c := gc) (r := gr) e1 (H.out.tabs.below (Y5.out.1.trans (hb.mono Y5.out.1.size)) (Nat.le_refl _)) hkO (by omega)).mono fun e w'' h => ?_
            rw [HM.out] at h
            exact h)
          have HWT := Lib.hid (show ∀ w', Below w5.heap.size w5 w' → Calls Tryd.prog 15 #[.agg #[.int .i64 gc, .int .i64 gr, .slice A n k], .agg #[.int .i64 o.k, .int .i64 o.x, .int .i64 o.y, .int .i64 o.n, .int .i32 o.r, .int .u32 o.p.fg, .int .u32 o.p.bg, .int .u8 o.p.st, .int .u16 o.p.lk]] w' fun e w'' => ∃ g7 k7, e = .returned (.agg #[.int .i64 (c : Int), .int .i64 (r : Int), .slice (some ⟨g7, 0, none⟩) m6 k7]) ∧ Below w'.heap.size w' w'' ∧ Rw ceV 41 w'' g7 M.flatten from fun w' hb => by
            refine (want9_any (c := gc) (r := gr) o (H.out.vs.below (Y5.out.1.trans (hb.mono Y5.out.1.size))) hk (by omega) hk0 hk5).mono fun e w'' h => ?_
            rw [HG.out] at h
            obtain ⟨h1, g7, k7, he, h2, h3, h4, h5⟩ := h.1 c r M rfl
            rw [HM6.out.1] at he
            exact ⟨g7, k7, he, h1, h5⟩)
          have HSM := Lib.hid (show ∀ w' g7 k7, Below w5.heap.size w5 w' → Rw ceV 41 w' g7 M.flatten → Calls Tryd.prog 14 #[.agg #[.int .i64 (c : Int), .int .i64 (r : Int), .slice (some ⟨g2, 0, none⟩) m6 k2], .agg #[.int .i64 (c : Int), .int .i64 (r : Int), .slice (some ⟨g7, 0, none⟩) m6 k7]] w' fun e w'' => e = .returned (.bool true) ∧ Below w'.heap.size w' w'' from fun w' g7 k7 hb hR => by
            have e1 := (Y5.out.2.2.2.2.2.2.below hb).vs
            have e2 := hR.vs
            rw [HM6.out.1] at e1 e2
            exact sameG_any e1 e2 (by have := HM6.out.2; omega) (by have := HM6.out.2; omega) (by simp))
          go_region_held3 (fun w' => Below w5.heap.size w5 w' ∧ (w'.cell? ⟨b5, 0, none⟩ = some (.int .i64 gc) ∧ w'.cell? ⟨b5, 1, none⟩ = some (.int .i64 gr) ∧ w'.cell? ⟨b5, 2, none⟩ = some (.slice (some ⟨gO, 0, none⟩) n kO) ∧ w'.cell? ⟨b6, 0, none⟩ = some (.int .i64 (c : Int)) ∧ w'.cell? ⟨b6, 1, none⟩ = some (.int .i64 (r : Int)) ∧ w'.cell? ⟨b6, 2, none⟩ = some (.slice (some ⟨g2, 0, none⟩) m6 k2) ∧ w'.cell? ⟨b, 0, none⟩ = some (.int .i64 gc) ∧ w'.cell? ⟨b, 1, none⟩ = some (.int .i64 gr) ∧ w'.cell? ⟨b, 2, none⟩ = some (.slice A n k) ∧ w'.cell? ⟨b + 1, 0, none⟩ = some (.int .i64 o.k) ∧ w'.cell? ⟨b + 1, 1, none⟩ = some (.int .i64 o.x) ∧ w'.cell? ⟨b + 1, 2, none⟩ = some (.int .i64 o.y) ∧ w'.cell? ⟨b + 1, 3, none⟩ = some (.int .i64 o.n) ∧ w'.cell? ⟨b + 1, 4, none⟩ = some (.int .i32 o.r) ∧ w'.cell? ⟨b + 1, 5, none⟩ = some (.int .u32 o.p.fg) ∧ w'.cell? ⟨b + 1, 6, none⟩ = some (.int .u32 o.p.bg) ∧ w'.cell? ⟨b + 1, 7, none⟩ = some (.int .u8 o.p.st) ∧ w'.cell? ⟨b + 1, 8, none⟩ = some (.int .u16 o.p.lk)))
            ((refine SX.out _ ?_; assumption))
            ((first
              | (go_at_call 9; refine (HFX.out _ (by assumption)).mono ?_; rintro e w4 ⟨rfl, hb4⟩; have hb5 := Below.trans (B := w5.heap.size) (by assumption) (hb4.mono (below_sz (a := w5) (B := w5.heap.size) (by assumption))))
              | (go_at_call 13; (try go_split_ands); refine (HMY.out _ (by assumption)).mono ?_; rintro e w4 ⟨rfl, hb4⟩; have hb5 := Below.trans (B := w5.heap.size) (by assumption) (hb4.mono (below_sz (a := w5) (B := w5.heap.size) (by assumption))))
              | (go_at_call 15; (try go_split_ands); refine (HWT.out _ (by assumption)).mono ?_; rintro e w4 ⟨g7, k7, rfl, hb4, hR4⟩; have hb5 := Below.trans (B := w5.heap.size) (by assumption) (hb4.mono (below_sz (a := w5) (B := w5.heap.size) (by assumption))))
              | (go_at_call 14; (try go_split_ands); refine (HSM.out _ _ _ (by assumption) hR4).mono ?_; rintro e w4 ⟨rfl, hb4⟩; have hb5 := Below.trans (B := w5.heap.size) (by assumption) (hb4.mono (below_sz (a := w5) (B := w5.heap.size) (by assumption))))))
          have Z := Lib.hid (show Below w0.heap.size w0 w4 ∧ Gb w4 b5 ⟨gc, gr, some ⟨gO, 0, none⟩, n, kO⟩ ∧ Gb w4 b6 ⟨c, r, some ⟨g2, 0, none⟩, m6, k2⟩ ∧ Gb w4 b ⟨gc, gr, A, n, k⟩ ∧ Rw ceV 41 w4 gO L ∧ Rw ceV 41 w4 g2 M.flatten from ⟨Y5.out.1.trans (hb5.mono Y5.out.1.size), Y5.out.2.1.below hb5, Y5.out.2.2.1.below hb5, Y5.out.2.2.2.1.below hb5, Y5.out.2.2.2.2.2.1.below hb5, Y5.out.2.2.2.2.2.2.below hb5⟩)
          clear hb4 hR4 hb5 HFX HMY HWT HSM
          obtain ⟨c0, c1, c2, _⟩ := Z.out.2.2.1.g3
          dsimp only at c0 c1 c2
          go_wp2_with fail
          clear c0 c1 c2
          go_loopw [54] (fun i wr => ∃ (j : Nat) (M' : List Ce), j ≤ m6 ∧ i = .int .i64 j ∧ M'.length = m6 ∧ Rw ceV 41 wr g2 M' ∧ w4.grownBy wr (some g2)) (fun i _ => m6 - (intOf i).toNat)
          case atStart => exact ⟨0, M.flatten, Nat.zero_le _, rfl, HM6.out.1, Z.out.2.2.2.2.2, World.grownBy.refl _ _⟩
          case round =>
            obtain ⟨j, M', hj, rfl, hl, hR, hgr⟩ := hrel
            have Q := Lib.hid (show M'.length = m6 ∧ Rw ceV 41 wr g2 M' ∧ w4.grownBy wr (some g2) from ⟨hl, hR, hgr⟩)
            clear hl hR hgr
            by_cases hlt : j < m6
            · have hkl : (j : Int) < (m6 : Int) := by omega
              have HB6 := Lib.hid (show Gb wr b6 ⟨c, r, some ⟨g2, 0, none⟩, m6, k2⟩ from Z.out.2.2.1.grown Q.out.2.2 (fun e => rw_apart Q.out.2.1 (show Rw gRV 24 wr g2 [] from by
                have e2 : g2 = b6 := by injection e
                have h7 := HNE.out.2.2
                omega) (by decide) rfl))
              obtain ⟨c0, c1, c2, _⟩ := HB6.out.g3
              dsimp only at c0 c1 c2
              have h0 := (Q.out.2.1.vs.six (k := j) (by rw [Q.out.1]; exact hlt)).c0
              rw [addH] at h0
              have hfz := Q.out.2.1.free (j * 6)
              have HS := Lib.hid (fun z : Int => rw_setR Q.out.2.1 (k := j) (by rw [Q.out.1]; exact hlt) z)
              have HG2 := Lib.hid (fun z : Int => grown_setC (grown_drew Q.out.2.2) (j * 6) (.int .i32 z))
              have hm1920 := HM6.out.2
              generalize cAt M' j = x at h0 HS
              obtain ⟨z, hz⟩ : ∃ z, IntKind.i32.wrap (x.r + 1) = z := ⟨_, rfl⟩
              go_upto_region 11 with fail
              have gh : wr.drew.cell? ⟨g2, j * 6, none⟩ = some (.int .i32 x.r) := h0
              have gz : wr.drew.frozen? ⟨g2, j * 6, none⟩ = false := hfz
              have HS3 := Lib.hid (show ∀ z : Int, Rw ceV 41 (wr.drew.setCell ⟨g2, j * 6, none⟩ (.int .i32 z)) g2 (M'.set j ⟨z, x.wd, x.p⟩) ∧ w4.grownBy (wr.drew.setCell ⟨g2, j * 6, none⟩ (.int .i32 z)) (some g2) from fun z => ⟨HS.out z, HG2.out z⟩)
              go_still_tail 12, (by kernel_rfl)
              change wpList _ _ _ _ _ wr.drew
              clear h0 hfz c0 c1 c2
              generalize wr.drew = w6 at gh gz HS3 ⊢
              go_wp2_with fail
              go_roundw
              case rel => exact ⟨j + 1, _, by omega, by go_num, by rw [List.length_set]; exact Q.out.1, (HS3.out _).1, (HS3.out _).2⟩
              case measure => simp [intOf]; omega
            · have hkm : j = m6 := by omega
              subst hkm
              have V1 := Lib.hid (show Vs ceV wr (some ⟨gO, 0, none⟩) n L ∧ Vs ceV wr A n L ∧ Below w0.heap.size w0 wr ∧ Gb wr b5 ⟨gc, gr, some ⟨gO, 0, none⟩, n, kO⟩ ∧ Gb wr b ⟨gc, gr, A, n, k⟩ from by
                have e1 := (Z.out.2.2.2.2.1.grown Q.out.2.2 (by have := HNE.out.1; simp; omega)).vs
                rw [HL.out] at e1
                have hbb : Below w0.heap.size w0 wr := Z.out.1.grown Q.out.2.2 Z.out.1.size (by intro k hk; injection hk with hk; have := HNE.out.2.1; omega)
                exact ⟨e1, H.out.vs.below hbb, hbb, Z.out.2.1.grown Q.out.2.2 (by have := HNE.out.2.2; simp; omega), H.out.gb.below hbb⟩)
              obtain ⟨c0, c1, c2, _⟩ := V1.out.2.2.2.1.g3
              obtain ⟨d0, d1, d2, _⟩ := V1.out.2.2.2.2.g3
              dsimp only at c0 c1 c2 d0 d1 d2
              go_wp2_with fail
              refine (sameG_any (c := gc) (r := gr) (c' := gc) (r' := gr) (B := true) V1.out.1 V1.out.2.1 (by omega) (by omega) (by simp)).mono ?_
              rintro e w9 ⟨rfl, hb⟩
              have X9 := Lib.hid (H.out.bel.trans ((V1.out.2.2.1.trans (hb.mono V1.out.2.2.1.size)).mono H.out.bel.size))
              clear hb c0 c1 c2 d0 d1 d2
              go_wp2_with fail
              go_ret
              exact ⟨rfl, X9.out⟩

set_option maxRecDepth 100000 in
theorem lifted (os : Os) (started : os.Started) (H : Type) (enc : TypeId × Value → H) :
    ReturnsInHanded {} Tryd.checked os 3 .any (fun w args => (Rows.gridDoesSpec.pre enc Tryd.prog Tryd.f3 [] false w args ∧ laidMetH Tryd.prog laidL w) ∧ sizedMet enc Tryd.prog Tryd.f3 (OpenSpec.ofChange Rows.gridDoesSpec) false w args)
      (Rows.gridDoesSpec.post enc Tryd.prog Tryd.f3 false true false false) := by
  refine returnsInHanded_of_change_and (C := Tryd.checked) (X := fun w _ => laidMetH Tryd.prog laidL w) (fun _ _ _ hh h => h.of_heap hh) own started (by kernel_rfl) Tryd.func3
    (ChangeSpec.witness_shaped (enc := enc) (C := Tryd.checked) (os := os) (X := fun w _ => laidMetH Tryd.prog laidL w) false (World.laidAll Tryd.prog os laidL) #[.agg #[.int .i64 0, .int .i64 0, .slice none 0 0], .agg #[.int .i64 0, .int .i64 0, .int .i64 0, .int .i64 0, .int .i32 0, .int .u32 0, .int .u32 0, .int .u8 0, .int .u16 0]] 8 (World.laidAll_os _ _ _) (start_shaped os) (by kernel_rfl) (by kernel_rfl) (by kernel_rfl) (start_met os _)) ?_
  intro W base args ds gs before hval0 hW _ hsz0 hL _
  have hsz : (DataW.weightsEach Tryd.prog (Tryd.f3.params.toList ++ Rows.gridDoesSpec.plain.varTypes Tryd.prog) (ds ++ gs)).all (· ≤ reachBytes) = true := hsz0
  clear hsz0
  have hval : ∀ (j : Nat) t v, Tryd.f3.params[j]? = some t → args[j]? = some v → Value.okWide Tryd.prog W .any base t v := hval0
  have hW' := hW
  obtain ⟨p, q, hA0, hV, rfl, _, _⟩ := hW
  have hA : DataW.TrodAll enc Tryd.prog W 0 (fun _ => true) true Tryd.f3.params.toList args.toList ds p := hA0
  rw [Tryd.params3] at hA hval hsz
  obtain ⟨v0, vs0, d0, ds0, p0, q0, hargs, rfl, rfl, h0, r0⟩ := trodAll_cons hA
  obtain ⟨v1, vs1, d1, ds1, p1, q1, rfl, rfl, rfl, h1, r1⟩ := trodAll_cons r0
  obtain ⟨rfl, rfl, rfl⟩ := trodAll_nil r1
  obtain rfl : args = #[v0, v1] := by cases args; simp_all
  obtain ⟨rfl, rfl⟩ := trodVars_none hV
  have lt0 : ∀ x ∈ p0, x.block < W.heap.size := by obtain ⟨m, hm⟩ := h0; exact DataW.trod_lt m _ _ _ hm
  obtain ⟨gc0, gr0, A0, n0, k0, L0, rfl, s0⟩ := open_grid (hval 0 24 v0 rfl rfl) h0
  have lt1 : ∀ x ∈ p1, x.block < W.heap.size := by obtain ⟨m, hm⟩ := h1; exact DataW.trod_lt m _ _ _ hm
  obtain ⟨o1, rfl, s1⟩ := open_op9 (hval 1 31 v1 rfl rfl) h1
  clear hA0 hval0
  refine (walk W (tabs_of_laid hL) s0 s1).mono fun e W' ⟨he, bel⟩ => ?_
  subst he
  exact ⟨_, rfl, _, _, _, [], _, [], hW', trodAll_mk1 (shut_bool Tryd.underlying4 _), (trodAll_cons_mk (Below.trod laidOut (by kernel_rfl) (of_decide_eq_true (by kernel_rfl)) h0 bel lt0) (trodAll_cons_mk (Below.trod laidOut (by kernel_rfl) (of_decide_eq_true (by kernel_rfl)) h1 bel lt1) trodAll_mk0)), rfl, bel.frame _, fun h => by cases h⟩

theorem over : Rows.gridDoesRow.holds Tryd.pinned (OpenSpec.ofChange Rows.gridDoesSpec) :=
  OpenClaim.holds_of_wide 3 Tryd.f3 rfl rfl rfl rfl rfl rfl rfl ⟨rfl, rfl, rfl, rfl, rfl⟩ rfl rfl rfl rfl rfl (by kernel_rfl) Tryd.func3 (by kernel_rfl)
    (of_decide_eq_true (by kernel_rfl)) (by unfold Func.isWrapper; first | (rw [if_pos (by decide +kernel)]; kernel_rfl) | (rw [if_neg (by decide +kernel)]; exact ⟨rfl, rfl⟩))
    (fun os started H enc _ => lifted os started H enc)

theorem proved : Rows.GridDoesCardSaid :=
  Claim7.holds_tied_plain_at .later [] [.data] true Rows.gridDoesCard.stood.harness false
    over (fun _ h => by cases h) (by kernel_rfl) (fun _ h => by cases h) gridDoes_row_tie rfl ⟨rfl, rfl⟩ (by kernel_rfl) rfl
    (fun f fn hf hfn => by
      obtain rfl : f = 3 := Option.some.inj ((show Tryd.prog.funcNamed "spyglass/spyglasslaw09.GridDoes" = some 3 by kernel_rfl).symm.trans hf) |>.symm
      obtain rfl : fn = Tryd.f3 := (Option.some.inj (Tryd.func3.symm.trans hfn)).symm
      exact ⟨by kernel_rfl, fun j t ht => by
        rw [Tryd.params3] at ht
        have hm : t ∈ [24, 31] := by simpa using Array.mem_of_getElem? ht
        have hall : ([24, 31].all fun u => !Tryd.prog.wantsStandIn u) = true := by kernel_rfl
        exact (show Tryd.prog.wantsStandIn t = false by simpa using List.all_eq_true.1 hall t hm)⟩)
    (by kernel_rfl)
end Go.Proofs.YtflnocgahdlojaaDoor.gridDoes
