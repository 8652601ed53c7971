/-
  Proved: CellPlays answers true for every number of columns and every row of calls, over the table that the program lays (a tied card).
-/
import Derived.Test.YtaofkipamliijaaDoorOpen
import Derived.Test.YtaofkipamliijaaDoorCards
import Derived.Test.YtaofkipamliijaaDoorTie
import Derived.SevenTiedAt
import Derived.Test.YtaofkipamliijaaDoorCellTab
import Derived.Test.YtaofkipamliijaaDoorCellIn
import Derived.Test.YtaofkipamliijaaDoorCellFixed
import Derived.Test.YtaofkipamliijaaDoorCellWant
import Derived.WalkKit
import Derived.Deep.RegionHeld3
namespace Go.Proofs.YtaofkipamliijaaDoor.cellPlays
open Go.ChangeShapes Go.WideShapes Go.ChangeAt Go.RowKit

theorem eight_at {w : World} {ad : Addr} {n : Nat} {P : List Op8} (h : Vs opV w (some ad) n P) {k : Nat} {o : Op8} (ho : P[k]? = some o) : w.cell? (ad.add (k * 8)) = some (.int .i64 o.k) ∧ w.cell? ⟨(ad.add (k * 8)).block, (ad.add (k * 8)).off + 1, none⟩ = some (.int .i64 o.x) ∧
    w.cell? ⟨(ad.add (k * 8)).block, (ad.add (k * 8)).off + 2, none⟩ = some (.int .i64 o.n) ∧ w.cell? ⟨(ad.add (k * 8)).block, (ad.add (k * 8)).off + 3, none⟩ = some (.int .i32 o.r) ∧ w.cell? ⟨(ad.add (k * 8)).block, (ad.add (k * 8)).off + 4, none⟩ = some (.int .u32 o.p.fg) ∧
    w.cell? ⟨(ad.add (k * 8)).block, (ad.add (k * 8)).off + 5, none⟩ = some (.int .u32 o.p.bg) ∧ w.cell? ⟨(ad.add (k * 8)).block, (ad.add (k * 8)).off + 6, none⟩ = some (.int .u8 o.p.st) ∧ w.cell? ⟨(ad.add (k * 8)).block, (ad.add (k * 8)).off + 7, none⟩ = some (.int .u16 o.p.lk) := by
  have h1 := h.get opV_len ho
  exact ⟨by simpa [addZero] using h1 0 _ rfl, by simpa [addStep] using h1 1 _ rfl, by simpa [addStep] using h1 2 _ rfl, by simpa [addStep] using h1 3 _ rfl, by simpa [addStep] using h1 4 _ rfl, by simpa [addStep] using h1 5 _ rfl, by simpa [addStep] using h1 6 _ rfl, by simpa [addStep] using h1 7 _ rfl⟩
theorem do_len {L : List Ce} (h : RowOk L) (o : Op8) : (doS L o).length = L.length := by
  unfold doS
  split
  · rw [put_eq h, mendS_length, putR_len]
  · split
    · rw [erase_eq h, mendS_length, eraseR_length]
    · split
      · by_cases hc : 0 ≤ o.x ∧ o.x < L.length ∧ 1 ≤ o.n
        · rw [insert_eq h o.p hc.1 hc.2.1 hc.2.2, mendS_length, insR_len o.p (by omega)]
        · unfold insertS; simp only []; rw [if_neg hc]
      · split
        · by_cases hc : 0 ≤ o.x ∧ o.x < L.length ∧ 1 ≤ o.n
          · rw [delete_eq h o.p hc.1 hc.2.1 hc.2.2, mendS_length, delR_len o.p (by omega)]
          · unfold deleteS; simp only []; rw [if_neg hc]
        · rfl
theorem blanks_ok {N : Nat} (h1 : 1 ≤ N) (h2 : N ≤ 80) : RowOk (List.replicate N (blankS pn0)) := by
  refine ⟨by simpa using h1, by simpa using h2, fun i hi => ?_⟩
  rw [List.length_replicate] at hi
  unfold OkAt
  rw [cAt_replicate, if_pos hi]
  exact ⟨blank_may (by decide), fun e => (by rw [blank_wd] at e; cases e), fun e => (by rw [blank_wd] at e; cases e)⟩
theorem over_all {N : Nat} {b : Ce} : overS (List.replicate N ce0) 0 (List.replicate N b) = List.replicate N b := by simp [overS]

set_option maxHeartbeats 1600000 in
theorem do_other {w : World} {A : Option Addr} {n c : Nat} (o : Op8) (h0 : o.k ≠ 0) (h1 : o.k ≠ 1) (h2 : o.k ≠ 2) (h3 : o.k ≠ 3) :
    Calls Tryd.prog 19 #[.slice A n c, .agg (opA o)] w fun e w' => e = .returned (.slice A n c) ∧ Below w.heap.size w w' := by
  have t0 : decide (o.k = 0) = false := by simpa using h0
  have t1 : decide (o.k = 1) = false := by simpa using h1
  have t2 : decide (o.k = 2) = false := by simpa using h2
  have t3 : decide (o.k = 3) = false := by simpa using h3
  unfold opA
  go_enter Tryd.func19, Tryd.ntmps19
  go_wp2_with fail
  go_ret
  exact ⟨rfl, (Below.refl _ _).alloc (Nat.le_refl _) _⟩
set_option maxHeartbeats 1600000 in
theorem want_other {w : World} {A : Option Addr} {n c : Nat} (o : Op8) (h0 : o.k ≠ 0) (h1 : o.k ≠ 1) (h2 : o.k ≠ 2) (h3 : o.k ≠ 3) :
    Calls Tryd.prog 20 #[.slice A n c, .agg (opA o)] w fun e w' => e = .returned (.slice A n c) ∧ Below w.heap.size w w' := by
  have t0 : decide (o.k = 0) = false := by simpa using h0
  have t1 : decide (o.k = 1) = false := by simpa using h1
  have t2 : decide (o.k = 2) = false := by simpa using h2
  have t3 : decide (o.k = 3) = false := by simpa using h3
  unfold opA
  go_enter Tryd.func20, Tryd.ntmps20
  go_wp2_with fail
  go_ret
  exact ⟨rfl, (Below.refl _ _).alloc (Nat.le_refl _) _⟩
/-- Of a row and a pen that may be: the call's row. -/
theorem do_all {w : World} {A : Option Addr} {n c : Nat} {L : List Ce} (o : Op8) (h : Vs ceV w A n L) (hT : Tabs w) (hn : n ≤ 80) (hL : RowOk L) (hp : penMayS o.p = true) :
    Calls Tryd.prog 19 #[.slice A n c, .agg (opA o)] w fun e w' => (∃ A' c', e = .returned (.slice A' n c') ∧ Vs ceV w' A' n (doS L o)) ∧ Below w.heap.size w w' := by
  by_cases hk : o.k = 0 ∨ o.k = 1 ∨ o.k = 2 ∨ o.k = 3
  · refine (do_any o h hT (by omega) hk).mono fun e w' hpst => ?_
    obtain ⟨hb, g, c2, he, _, _, _, hR⟩ := hpst.1 (by rw [(rowMay_iff L).2 hL, hp]; rfl)
    have hl : (doS L o).length = n := by rw [do_len hL, h.len]
    rw [hl] at he
    refine ⟨⟨_, _, he, ?_⟩, hb⟩
    have h5 := hR.vs
    rw [hl] at h5
    exact h5
  · refine (do_other o (fun e => hk (.inl e)) (fun e => hk (.inr (.inl e))) (fun e => hk (.inr (.inr (.inl e)))) (fun e => hk (.inr (.inr (.inr e))))).mono fun e w' ⟨he, hb⟩ => ?_
    have e1 : doS L o = L := by unfold doS; rw [if_neg (fun e => hk (.inl e)), if_neg (fun e => hk (.inr (.inl e))), if_neg (fun e => hk (.inr (.inr (.inl e)))), if_neg (fun e => hk (.inr (.inr (.inr e))))]
    rw [e1]
    exact ⟨⟨_, _, he, h.below hb⟩, hb⟩
theorem want_all {w : World} {A : Option Addr} {n c : Nat} {L : List Ce} (o : Op8) (h : Vs ceV w A n L) (hn : n ≤ 80) (hL : RowOk L) (hp : penMayS o.p = true) :
    Calls Tryd.prog 20 #[.slice A n c, .agg (opA o)] w fun e w' => (∃ A' c', e = .returned (.slice A' n c') ∧ Vs ceV w' A' n (doS L o)) ∧ Below w.heap.size w w' := by
  by_cases hk : o.k = 0 ∨ o.k = 1 ∨ o.k = 2 ∨ o.k = 3
  · refine (want_any o h (by omega) hk).mono fun e w' hpst => ?_
    obtain ⟨hb, g, c2, he, _, _, _, hR⟩ := hpst.1 (by rw [(rowMay_iff L).2 hL, hp]; rfl)
    have hl : (doS L o).length = n := by rw [do_len hL, h.len]
    rw [hl] at he
    refine ⟨⟨_, _, he, ?_⟩, hb⟩
    have h5 := hR.vs
    rw [hl] at h5
    exact h5
  · refine (want_other o (fun e => hk (.inl e)) (fun e => hk (.inr (.inl e))) (fun e => hk (.inr (.inr (.inl e)))) (fun e => hk (.inr (.inr (.inr e))))).mono fun e w' ⟨he, hb⟩ => ?_
    have e1 : doS L o = L := by unfold doS; rw [if_neg (fun e => hk (.inl e)), if_neg (fun e => hk (.inr (.inl e))), if_neg (fun e => hk (.inr (.inr (.inl e)))), if_neg (fun e => hk (.inr (.inr (.inr e))))]
    rw [e1]
    exact ⟨⟨_, _, he, h.below hb⟩, hb⟩

/-- What the loop over the calls keeps. -/
structure Pl (w : World) (N : Nat) (L : List Ce) (A5 A7 : Option Addr) (wx : World) : Prop where
  bel : Below w.heap.size w wx
  ok : RowOk L
  v5 : Vs ceV wx A5 N L
  v7 : Vs ceV wx A7 N L
theorem Pl.below {w wx w' : World} {N : Nat} {L : List Ce} {A5 A7 : Option Addr} (h : Pl w N L A5 A7 wx) (hb : Below wx.heap.size wx w') : Pl w N L A5 A7 w' := ⟨h.bel.trans (hb.mono h.bel.size), h.ok, h.v5.below hb, h.v7.below hb⟩

set_option maxHeartbeats 3200000 in
set_option maxRecDepth 100000 in
/-- The walk. -/
theorem walk {n0 : Int} {A : Option Addr} {n c : Nat} {P : List Op8} (w : World) (hT : Tabs w) (hw : (Lit.int .u8 n0).wf = true) (hs : Vs opV w A n P ∧ (∀ a ∈ P, OpOk a) ∧ n ≤ c ∧ c ≤ maxLen) :
    Calls Tryd.prog 5 #[.int .u8 n0, .slice A n c] w fun e w' => e = .returned (.bool true) ∧ Below w.heap.size w w' := by
  obtain ⟨hv, _, hc1, hc2⟩ := hs
  unfold maxLen at hc2
  obtain ⟨hn0, hn1⟩ := bounds_u8 hw
  obtain ⟨r, hr⟩ : ∃ r : Nat, n0.tmod 80 = (r : Int) := ⟨(n0 % 80).toNat, by rw [Int.tmod_eq_emod_of_nonneg hn0]; omega⟩
  have hr79 : r ≤ 79 := by rw [Int.tmod_eq_emod_of_nonneg hn0] at hr; omega
  obtain ⟨N, hN⟩ : ∃ N : Nat, (1 : Int) + (r : Int) = (N : Int) := ⟨1 + r, by omega⟩
  have hN1 : 1 ≤ N := by omega
  have hN2 : N ≤ 80 := by omega
  have hmk := make_any (P := Tryd.prog) 29 Tryd.underlying29 ce0 ceV_len (by omega) (b8 := 20) (by omega) infoCe3 N (by omega)
  obtain ⟨w0, hw0⟩ : ∃ w0, w0 = w.alloc (.cells (rowV ceV (List.replicate N ce0)).toArray 28) := ⟨_, rfl⟩
  obtain ⟨g, hge⟩ : ∃ g, g = w.heap.size := ⟨_, rfl⟩
  have H := Lib.hid (show Vs opV w A n P ∧ Tabs w ∧ Below w.heap.size w w0 ∧ Rw ceV 28 w0 g (List.replicate N ce0) ∧ w.heap.size = g from by
    rw [hw0, hge]
    exact ⟨hv, hT, (Below.refl _ _).alloc (Nat.le_refl _) _, made_rw w _ _, rfl⟩)
  clear hv hT hw
  have hrw : (0 : Int) ≤ (r : Int) := by omega
  go_enter Tryd.func5, Tryd.ntmps5
  go_upto_region 2 with fail
  rw [← hw0, ← hge]
  clear hw0 hge hmk hr hN hr79 hrw
  go_wp2_with fail
  go_loopw [17] (fun i wr => ∃ k : Nat, k ≤ N ∧ i = .int .i64 k ∧ Below w.heap.size w wr ∧ Rw ceV 28 wr g (overS (List.replicate N ce0) 0 (List.replicate k (blankS pn0)))) (fun i _ => N - (intOf i).toNat)
  case atStart => exact ⟨0, Nat.zero_le _, rfl, H.out.2.2.1, by rw [over_none]; exact H.out.2.2.2.1⟩
  case round =>
    obtain ⟨k, hk, rfl, hbw, hR⟩ := hrel
    by_cases hlt : k < N
    · have hkl : (k : Int) < (N : Int) := by omega
      have HB := Lib.hid hbw
      clear hbw
      go_wp2_with (refine wpList_store_V rfl 28 (.tmp 23) (.tmp 22) rfl ceV_len one_ce infoCe g _ k (blankS pn0) _ rfl rfl rfl rfl 28 _ hR (by rw [overS_length (by rw [List.length_replicate, List.length_replicate]; omega), List.length_replicate]; exact hlt) ?_; intro w2 hR2 hg2; have hb2 := Below.grown HB.out hg2 HB.out.size (fun k hk => by injection hk with hk; have := H.out.2.2.2.2; omega))
      have h3 := over_next (L := List.replicate N ce0) (o := 0) (i := k) (m := N) (b := blankS pn0) (by rw [List.length_replicate]; omega) hlt
      rw [Nat.zero_add] at h3
      rw [h3] at hR2
      have Z := Lib.hid (And.intro hb2 hR2)
      clear hR2 hg2 hb2 h3 hR
      go_wp2_with fail
      go_roundw
      case rel => exact ⟨k + 1, by omega, by go_num, Z.out⟩
      case measure => simp [intOf]; omega
    · obtain rfl : k = N := by omega
      rw [over_all] at hR
      have hvr := hR.vs
      rw [List.length_replicate] at hvr
      have X := Lib.hid (And.intro hbw hvr)
      clear hbw hR hvr
      go_wp2_with fail
      refine (copyC_any X.out.2 (by omega)).mono ?_
      rintro e w3 ⟨hb, g7, c7, rfl, hg7, hk7, hm7, hR7⟩
      rw [List.length_replicate]
      have hv7 := hR7.vs
      rw [List.length_replicate] at hv7
      have X2 := Lib.hid (show Pl w k (List.replicate k (blankS pn0)) (some ⟨g, 0, none⟩) (some ⟨g7, 0, none⟩) w3 from ⟨X.out.1.trans (hb.mono X.out.1.size), blanks_ok hN1 hN2, X.out.2.below hb, hv7⟩)
      clear hb hg7 hk7 hm7 hR7 hv7 X
      go_wp2_with fail
      refine (fixedC_any (H.out.2.1.below X2.out.bel (Nat.le_refl _))).mono ?_
      rintro e w4 ⟨rfl, hb⟩
      have X3 := Lib.hid (X2.out.below hb)
      clear hb X2
      go_wp2_with fail
      go_loopw [5, 7, 31] (fun s5 s7 i wr => ∃ (j : Nat) (L : List Ce) (A5 A7 : Option Addr) (c5 c7 : Nat), j ≤ n ∧ i = .int .i64 j ∧ s5 = .slice A5 k c5 ∧ s7 = .slice A7 k c7 ∧ Pl w k L A5 A7 wr) (fun _ _ i _ => n - (intOf i).toNat)
      case atStart => exact ⟨0, _, _, _, _, _, Nat.zero_le _, rfl, rfl, rfl, X3.out⟩
      case round =>
        obtain ⟨j, L, A5, A7, c5, c7, hj, rfl, rfl, rfl, hP⟩ := hrel
        have Z := Lib.hid hP
        clear hP X3
        by_cases hlt : j < n
        · have hkl : (j : Int) < (n : Int) := by omega
          obtain ⟨ad, rfl⟩ := H.out.1.addr (by omega)
          have hadl : ad.block < wr.heap.size := (H.out.1.below Z.out.bel).lt (by omega)
          obtain ⟨o, ho⟩ : ∃ o, P[j]? = some o := ⟨_, List.getElem?_eq_getElem (by rw [H.out.1.len]; exact hlt)⟩
          obtain ⟨z0, z1, z2, z3, z4, z5, z6, z7⟩ := eight_at (H.out.1.below Z.out.bel) ho
          clear ho
          by_cases hbig : (200 : Int) < (j : Int)
          · go_wp2_with fail
            go_ret
            exact ⟨rfl, Z.out.bel.alloc Z.out.bel.size _⟩
          · have hbig2 : (j : Int) ≤ 200 := by omega
            go_wp2_with fail
            refine (refPenMay_any o.p _).mono ?_
            rintro e w6 ⟨rfl, hb⟩
            have hz2 := Z.out.below ((Below.refl wr.heap.size wr).alloc (Nat.le_refl _) (.cells (opA o) 39))
            have Z6 := Lib.hid (show Pl w k L A5 A7 w6 ∧ Op8c w6 wr.heap.size o ∧ wr.heap.size < w6.heap.size from ⟨hz2.below hb, (op8_new wr o 39).below hb (by simp), by have := hb.size; simp at this; omega⟩)
            obtain ⟨b, hbe⟩ : ∃ b, b = wr.heap.size := ⟨_, rfl⟩
            rw [← hbe] at Z6 ⊢
            clear hz2 hb z0 z1 z2 z3 z4 z5 z6 z7 hadl hbe Z
            obtain ⟨c0, c1, c2, c3, c4, c5', c6, c7'⟩ := Z6.out.2.1
            obtain ⟨B, hB⟩ : ∃ B, penMayS o.p = B := ⟨_, rfl⟩
            rw [hB]
            have HB := Lib.hid hB
            clear hB
            cases B
            · by_cases hk0 : 0 ≤ o.k
              · by_cases hk3 : o.k ≤ 3
                · have HDO := Lib.hid (show Calls Tryd.prog 19 #[.slice A5 k c5, .agg #[.int .i64 o.k, .int .i64 o.x, .int .i64 o.n, .int .i32 o.r, .int .u32 o.p.fg, .int .u32 o.p.bg, .int .u8 o.p.st, .int .u16 o.p.lk]] w6 fun e w' => e = .returned (.slice none 0 0) ∧ Below w6.heap.size w6 w' from (do_any o Z6.out.1.v5 (H.out.2.1.below Z6.out.1.bel (Nat.le_refl _)) (by omega) (by omega)).mono fun e w' h => h.2 (by rw [HB.out]; simp))
                  go_wp2_with fail
                  refine HDO.out.mono ?_
                  rintro e w7 ⟨rfl, hb⟩
                  have Z7 := Lib.hid (Z6.out.1.below hb)
                  clear hb c0 c1 c2 c3 c4 c5' c6 c7' HDO
                  go_wp2_with fail
                  go_roundw
                  case rel => exact ⟨j + 1, _, _, _, _, _, by omega, by go_num, rfl, rfl, Z7.out⟩
                  case measure => simp [intOf]; omega
                · have hk4 : 3 < o.k := by omega
                  clear c1 c2 c3 c4 c5' c6 c7'
                  go_wp2_with fail
                  go_roundw
                  case rel => exact ⟨j + 1, _, _, _, _, _, by omega, by go_num, rfl, rfl, Z6.out.1⟩
                  case measure => simp [intOf]; omega
              · have hk4 : o.k < 0 := by omega
                clear c1 c2 c3 c4 c5' c6 c7'
                go_wp2_with fail
                go_roundw
                case rel => exact ⟨j + 1, _, _, _, _, _, by omega, by go_num, rfl, rfl, Z6.out.1⟩
                case measure => simp [intOf]; omega
            · have SX := Lib.hid (show ∀ w', Below w6.heap.size w6 w' → (Below w6.heap.size w6 w' ∧ (w'.cell? ⟨b, 0, none⟩ = some (.int .i64 o.k) ∧ w'.cell? ⟨b, 1, none⟩ = some (.int .i64 o.x) ∧ w'.cell? ⟨b, 2, none⟩ = some (.int .i64 o.n) ∧ w'.cell? ⟨b, 3, none⟩ = some (.int .i32 o.r) ∧ w'.cell? ⟨b, 4, none⟩ = some (.int .u32 o.p.fg) ∧ w'.cell? ⟨b, 5, none⟩ = some (.int .u32 o.p.bg) ∧ w'.cell? ⟨b, 6, none⟩ = some (.int .u8 o.p.st) ∧ w'.cell? ⟨b, 7, none⟩ = some (.int .u16 o.p.lk))) from fun w' hb => by
                have h := Z6.out.2.1.below hb Z6.out.2.2
                exact ⟨hb, h.c0, h.c1, h.c2, h.c3, h.c4, h.c5, h.c6, h.c7⟩)
              obtain ⟨M, hM⟩ : ∃ M, doS L o = M := ⟨_, rfl⟩
              have HMO := Lib.hid (show RowOk M from by rw [← hM]; exact do_ok Z6.out.1.ok o HB.out)
              have HDO := Lib.hid (show ∀ w', Below w6.heap.size w6 w' → Calls Tryd.prog 19 #[.slice A5 k c5, .agg #[.int .i64 o.k, .int .i64 o.x, .int .i64 o.n, .int .i32 o.r, .int .u32 o.p.fg, .int .u32 o.p.bg, .int .u8 o.p.st, .int .u16 o.p.lk]] w' fun e w'' => (∃ A' c', e = .returned (.slice A' k c') ∧ Vs ceV w'' A' k M) ∧ Below w6.heap.size w6 w'' from fun w' hb => (do_all o (Z6.out.1.v5.below hb) (H.out.2.1.below (Z6.out.1.bel.trans (hb.mono Z6.out.1.bel.size)) (Nat.le_refl _)) (by omega) Z6.out.1.ok HB.out).mono fun e w'' h => ⟨by rw [← hM]; exact h.1, hb.trans (h.2.mono hb.size)⟩)
              have HWO := Lib.hid (show ∀ w', Below w6.heap.size w6 w' → Calls Tryd.prog 20 #[.slice A7 k c7, .agg #[.int .i64 o.k, .int .i64 o.x, .int .i64 o.n, .int .i32 o.r, .int .u32 o.p.fg, .int .u32 o.p.bg, .int .u8 o.p.st, .int .u16 o.p.lk]] w' fun e w'' => (∃ A' c', e = .returned (.slice A' k c') ∧ Vs ceV w'' A' k M) ∧ Below w6.heap.size w6 w'' ∧ Below w'.heap.size w' w'' from fun w' hb => (want_all o (Z6.out.1.v7.below hb) (by omega) Z6.out.1.ok HB.out).mono fun e w'' h => ⟨by rw [← hM]; exact h.1, hb.trans (h.2.mono hb.size), h.2⟩)
              clear hM c0 c1 c2 c3 c4 c5' c6 c7'
              obtain ⟨c0, c1, c2, c3, c4, c5', c6, c7'⟩ := Z6.out.2.1
              have hb0 : Below w6.heap.size w6 w6 := Below.refl _ _
              go_wp2_with fail
              go_region_held3 (fun w' => Below w6.heap.size w6 w' ∧ (w'.cell? ⟨b, 0, none⟩ = some (.int .i64 o.k) ∧ w'.cell? ⟨b, 1, none⟩ = some (.int .i64 o.x) ∧ w'.cell? ⟨b, 2, none⟩ = some (.int .i64 o.n) ∧ w'.cell? ⟨b, 3, none⟩ = some (.int .i32 o.r) ∧ w'.cell? ⟨b, 4, none⟩ = some (.int .u32 o.p.fg) ∧ w'.cell? ⟨b, 5, none⟩ = some (.int .u32 o.p.bg) ∧ w'.cell? ⟨b, 6, none⟩ = some (.int .u8 o.p.st) ∧ w'.cell? ⟨b, 7, none⟩ = some (.int .u16 o.p.lk)))
                ((refine SX.out _ ?_; (try go_split_ands); first | assumption | exact belowN (by assumption) 1))
                ((first
                  | (go_at_call 19; (try go_split_ands); refine (HDO.out _ (by assumption)).mono ?_; rintro e w8 ⟨⟨A8, c8, rfl, hv8⟩, hb8⟩)
                  | (go_at_call 20; (try go_split_ands); refine (HWO.out _ (by assumption)).mono ?_; rintro e w9 ⟨⟨A9, c9, rfl, hv9⟩, hb9, hb89⟩; have hv89 := hv8.below hb89)))
              have Z9 := Lib.hid (show Pl w k M A8 A9 w9 from ⟨Z6.out.1.bel.trans (hb9.mono Z6.out.1.bel.size), HMO.out, hv89, hv9⟩)
              clear hv8 hv9 hb8 hb9 hb89 hv89 HDO HWO SX c0 c1 c2 c3 c4 c5' c6 c7' hb0
              go_wp2_with fail
              refine (sameC_any Z9.out.v5 Z9.out.v7 (by omega) (by omega)).mono ?_
              rintro e w10 ⟨rfl, q10, rfl⟩
              rw [show decide (M = M) = true from by simp]
              have ZA := Lib.hid (Z9.out.below (belowN (Below.refl w9.heap.size w9) q10))
              generalize w9.drewN q10 = wa at ZA ⊢
              go_wp2_with fail
              refine (rowMay_any ZA.out.v5 (H.out.2.1.below ZA.out.bel (Nat.le_refl _)) (by omega)).mono ?_
              rintro e wb ⟨rfl, hb⟩
              rw [(rowMay_iff M).2 HMO.out]
              have ZB := Lib.hid (ZA.out.below hb)
              clear hb
              go_wp2_with fail
              go_roundw
              case rel => exact ⟨j + 1, M, _, _, _, _, by omega, by go_num, rfl, rfl, ZB.out⟩
              case measure => simp [intOf]; omega
        · go_wp2_with fail
          go_ret
          exact ⟨rfl, Z.out.bel⟩

set_option maxRecDepth 100000 in
theorem lifted (os : Os) (started : os.Started) (H : Type) (enc : TypeId × Value → H) :
    ReturnsInHanded {} Tryd.checked os 5 .any (fun w args => (Rows.cellPlaysSpec.pre enc Tryd.prog Tryd.f5 [] false w args ∧ laidMetH Tryd.prog laidL w) ∧ sizedMet enc Tryd.prog Tryd.f5 (OpenSpec.ofChange Rows.cellPlaysSpec) false w args)
      (Rows.cellPlaysSpec.post enc Tryd.prog Tryd.f5 false true false false) := by
  refine returnsInHanded_of_change_and (C := Tryd.checked) (X := fun w _ => laidMetH Tryd.prog laidL w) (fun _ _ _ hh h => h.of_heap hh) own started (by kernel_rfl) Tryd.func5
    (ChangeSpec.witness_shaped (enc := enc) (C := Tryd.checked) (os := os) (X := fun w _ => laidMetH Tryd.prog laidL w) false (World.laidAll Tryd.prog os laidL) #[.int .u8 0, .slice none 0 0] 8 (World.laidAll_os _ _ _) (start_shaped os) (by kernel_rfl) (by kernel_rfl) (by kernel_rfl) (start_met os _)) ?_
  intro W base args ds gs before hval0 hW _ hsz0 hL _
  have hsz : (DataW.weightsEach Tryd.prog (Tryd.f5.params.toList ++ Rows.cellPlaysSpec.plain.varTypes Tryd.prog) (ds ++ gs)).all (· ≤ reachBytes) = true := hsz0
  clear hsz0
  have hval : ∀ (j : Nat) t v, Tryd.f5.params[j]? = some t → args[j]? = some v → Value.okWide Tryd.prog W .any base t v := hval0
  have hW' := hW
  obtain ⟨p, q, hA0, hV, rfl, _, _⟩ := hW
  have hA : DataW.TrodAll enc Tryd.prog W 0 (fun _ => true) true Tryd.f5.params.toList args.toList ds p := hA0
  rw [Tryd.params5] at hA hval hsz
  obtain ⟨v0, vs0, d0, ds0, p0, q0, hargs, rfl, rfl, h0, r0⟩ := trodAll_cons hA
  obtain ⟨v1, vs1, d1, ds1, p1, q1, rfl, rfl, rfl, h1, r1⟩ := trodAll_cons r0
  obtain ⟨rfl, rfl, rfl⟩ := trodAll_nil r1
  obtain rfl : args = #[v0, v1] := by cases args; simp_all
  obtain ⟨rfl, rfl⟩ := trodVars_none hV
  obtain ⟨a0, rfl, rfl, rfl, w0⟩ := open_int Tryd.underlying5 (hval 0 5 v0 rfl rfl) h0
  have lt1 : ∀ x ∈ p1, x.block < W.heap.size := by obtain ⟨m, hm⟩ := h1; exact DataW.trod_lt m _ _ _ hm
  obtain ⟨A1, n1, c1, L1, rfl, s1⟩ := open_ops (hval 1 42 v1 rfl rfl) h1
  clear hA0 hval0
  refine (walk W (tabs_of_laid hL) w0 s1).mono fun e W' ⟨he, bel⟩ => ?_
  subst he
  exact ⟨_, rfl, _, _, _, [], _, [], hW', trodAll_mk1 (shut_bool Tryd.underlying4 _), (trodAll_cons_mk (shut_int Tryd.underlying5 w0) (trodAll_cons_mk (Below.trod laidOut (by kernel_rfl) (of_decide_eq_true (by kernel_rfl)) h1 bel lt1) trodAll_mk0)), rfl, bel.frame _, fun h => by cases h⟩

theorem over : Rows.cellPlaysRow.holds Tryd.pinned (OpenSpec.ofChange Rows.cellPlaysSpec) :=
  OpenClaim.holds_of_wide 5 Tryd.f5 rfl rfl rfl rfl rfl rfl rfl ⟨rfl, rfl, rfl, rfl, rfl⟩ rfl rfl rfl rfl rfl (by kernel_rfl) Tryd.func5 (by kernel_rfl)
    (of_decide_eq_true (by kernel_rfl)) (by unfold Func.isWrapper; first | (rw [if_pos (by decide +kernel)]; kernel_rfl) | (rw [if_neg (by decide +kernel)]; exact ⟨rfl, rfl⟩))
    (fun os started H enc _ => lifted os started H enc)

theorem proved : Rows.CellPlaysCardSaid :=
  Claim7.holds_tied_plain_at .later [] [.data] true Rows.cellPlaysCard.stood.harness false
    over (fun _ h => by cases h) (by kernel_rfl) (fun _ h => by cases h) cellPlays_row_tie rfl ⟨rfl, rfl⟩ (by kernel_rfl) rfl
    (fun f fn hf hfn => by
      obtain rfl : f = 5 := Option.some.inj ((show Tryd.prog.funcNamed "spyglass/spyglasslaw08.CellPlays" = some 5 by kernel_rfl).symm.trans hf) |>.symm
      obtain rfl : fn = Tryd.f5 := (Option.some.inj (Tryd.func5.symm.trans hfn)).symm
      exact ⟨by kernel_rfl, fun j t ht => by
        rw [Tryd.params5] at ht
        have hm : t ∈ [5, 42] := by simpa using Array.mem_of_getElem? ht
        have hall : ([5, 42].all fun u => !Tryd.prog.wantsStandIn u) = true := by kernel_rfl
        exact (show Tryd.prog.wantsStandIn t = false by simpa using List.all_eq_true.1 hall t hm)⟩)
    (by kernel_rfl)
end Go.Proofs.YtaofkipamliijaaDoor.cellPlays
