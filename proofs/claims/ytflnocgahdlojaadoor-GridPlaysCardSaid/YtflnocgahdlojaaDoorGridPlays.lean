/-
  Proved: GridPlays answers true for every size and every row of calls, over the table that the program lays (a tied card).
-/
import Derived.Test.YtflnocgahdlojaaDoorOpen
import Derived.Test.YtflnocgahdlojaaDoorCards
import Derived.Test.YtflnocgahdlojaaDoorTie
import Derived.SevenTiedAt
import Derived.Test.YtflnocgahdlojaaDoorCellTab
import Derived.Test.YtflnocgahdlojaaDoorGridOpen
import Derived.Test.YtflnocgahdlojaaDoorGridFx
import Derived.WalkKit
import Derived.Deep.RegionHeld3
namespace Go.Proofs.YtflnocgahdlojaaDoor.gridPlays
open Go.ChangeShapes Go.WideShapes Go.ChangeAt Go.RowKit

set_option maxHeartbeats 1600000 in
theorem do_else {w : World} {A : Option Addr} {n k : Nat} {c r : Int} (o : Op9) (h : o.k < 0 ∨ 5 < o.k) :
    Calls Tryd.prog 11 #[.agg (gV c r A n k), .agg (opA9 o)] w fun e w' => e = .returned (.agg (gV c r A n k)) ∧ Below w.heap.size w w' := by
  have t0 : (o.k == 0) = false := by simp; omega
  have t1 : (o.k == 1) = false := by simp; omega
  have t2 : (o.k == 2) = false := by simp; omega
  have t3 : (o.k == 3) = false := by simp; omega
  have t4 : (o.k == 4) = false := by simp; omega
  have t5 : (o.k == 5) = false := by simp; omega
  obtain ⟨w0, hw0⟩ : ∃ w0, w0 = ((w.alloc (.cells (gV c r A n k) 24)).alloc (.cells (opA9 o) 31)).alloc (.cells (gV 0 0 none 0 0) 24) := ⟨_, rfl⟩
  obtain ⟨b, hbe⟩ : ∃ b, b = w.heap.size := ⟨_, rfl⟩
  have H := Lib.hid (show G3 w0 b c r A n k ∧ Op9c w0 (b + 1) o ∧ Gb w0 (b + 1 + 1) gr0 ∧ Below w.heap.size w w0 ∧ b = w.heap.size from by
    have b1 : Below w.heap.size w (w.alloc (.cells (gV c r A n k) 24)) := (Below.refl _ _).alloc (Nat.le_refl _) _
    have h1 := g3_new w c r A n k 24
    have h2 := op9_new (w.alloc (.cells (gV c r A n k) 24)) o 31
    have h3 := gb_new ((w.alloc (.cells (gV c r A n k) 24)).alloc (.cells (opA9 o) 31)) gr0
    rw [alloc_size, alloc_size] at h3
    rw [alloc_size] at h2
    have b3 := (b1.alloc b1.size (.cells (opA9 o) 31)).alloc (b1.alloc b1.size _).size (.cells (gV 0 0 none 0 0) 24)
    rw [hw0, hbe]
    exact ⟨(h1.below ((Below.refl _ _).alloc (Nat.le_refl _) _)).below ((Below.refl _ _).alloc (Nat.le_refl _) _), h2.below ((Below.refl _ _).alloc (Nat.le_refl _) _), h3, b3, rfl⟩)
  clear h
  obtain ⟨g0, g1, g2, _⟩ := H.out.1
  obtain ⟨c0, c1, c2, c3, c4, c5, c6, c7, c8, _⟩ := H.out.2.1
  unfold gV opA9 at hw0
  go_enter Tryd.func11, Tryd.ntmps11
  unfold gV opA9
  go_upto_region 1 with fail
  rw [← hw0, ← hbe]
  clear hw0 hbe
  go_wp2_with (refine wpList_store_G rfl (.tmp 4) (.tmp 73) rfl (b + 1 + 1) gr0 ⟨c, r, A, n, k⟩ rfl rfl H.out.2.2.1 ?_; intro w5 hG5 hg5)
  refine bodyPost_ret (retG Tryd.results11 hG5 rfl) rfl ?_
  exact ⟨rfl, H.out.2.2.2.1.grown hg5 H.out.2.2.2.1.size (by intro j hj; injection hj with hj; have := H.out.2.2.2.2; omega)⟩

set_option maxHeartbeats 1600000 in
theorem want_else {w : World} {A : Option Addr} {n k : Nat} {c r : Int} (o : Op9) (h : o.k < 0 ∨ 5 < o.k) :
    Calls Tryd.prog 15 #[.agg (gV c r A n k), .agg (opA9 o)] w fun e w' => e = .returned (.agg (gV c r A n k)) ∧ Below w.heap.size w w' := by
  have t0 : (o.k == 0) = false := by simp; omega
  have t1 : (o.k == 1) = false := by simp; omega
  have t2 : (o.k == 2) = false := by simp; omega
  have t3 : (o.k == 3) = false := by simp; omega
  have t4 : (o.k == 4) = false := by simp; omega
  have t5 : (o.k == 5) = false := by simp; omega
  obtain ⟨w0, hw0⟩ : ∃ w0, w0 = ((w.alloc (.cells (gV c r A n k) 24)).alloc (.cells (opA9 o) 31)).alloc (.cells (gV 0 0 none 0 0) 24) := ⟨_, rfl⟩
  obtain ⟨b, hbe⟩ : ∃ b, b = w.heap.size := ⟨_, rfl⟩
  have H := Lib.hid (show G3 w0 b c r A n k ∧ Op9c w0 (b + 1) o ∧ Gb w0 (b + 1 + 1) gr0 ∧ Below w.heap.size w w0 ∧ b = w.heap.size from by
    have b1 : Below w.heap.size w (w.alloc (.cells (gV c r A n k) 24)) := (Below.refl _ _).alloc (Nat.le_refl _) _
    have h1 := g3_new w c r A n k 24
    have h2 := op9_new (w.alloc (.cells (gV c r A n k) 24)) o 31
    have h3 := gb_new ((w.alloc (.cells (gV c r A n k) 24)).alloc (.cells (opA9 o) 31)) gr0
    rw [alloc_size, alloc_size] at h3
    rw [alloc_size] at h2
    have b3 := (b1.alloc b1.size (.cells (opA9 o) 31)).alloc (b1.alloc b1.size _).size (.cells (gV 0 0 none 0 0) 24)
    rw [hw0, hbe]
    exact ⟨(h1.below ((Below.refl _ _).alloc (Nat.le_refl _) _)).below ((Below.refl _ _).alloc (Nat.le_refl _) _), h2.below ((Below.refl _ _).alloc (Nat.le_refl _) _), h3, b3, rfl⟩)
  clear h
  obtain ⟨g0, g1, g2, _⟩ := H.out.1
  obtain ⟨c0, c1, c2, c3, c4, c5, c6, c7, c8, _⟩ := H.out.2.1
  unfold gV opA9 at hw0
  go_enter Tryd.func15, Tryd.ntmps15
  unfold gV opA9
  go_upto_region 1 with fail
  rw [← hw0, ← hbe]
  clear hw0 hbe
  go_wp2_with (refine wpList_store_G rfl (.tmp 4) (.tmp 55) rfl (b + 1 + 1) gr0 ⟨c, r, A, n, k⟩ rfl rfl H.out.2.2.1 ?_; intro w5 hG5 hg5)
  refine bodyPost_ret (retG Tryd.results15 hG5 rfl) rfl ?_
  exact ⟨rfl, H.out.2.2.2.1.grown hg5 H.out.2.2.2.1.size (by intro j hj; injection hj with hj; have := H.out.2.2.2.2; omega)⟩

/-- What a call answers, of any kind, of a grid that may be. -/
noncomputable def dAll (c r : Nat) (LL : Rws) (o : Op9) : GA := if o.k < 0 ∨ 5 < o.k then some (c, r, LL) else doG (c : Int) (r : Int) LL.flatten o
theorem dAll_ok {c r : Nat} {LL : Rws} (h : Gk c r LL) {o : Op9} {c2 r2 : Nat} {X : Rws} (he : dAll c r LL o = some (c2, r2, X)) : Gk c2 r2 X := by
  unfold dAll at he
  split at he
  · injection he with he
    injection he with e1 he
    injection he with e2 e3
    subst e1 e2 e3
    exact h
  · exact doG_ok he
/-- A grid in memory of the law's own, or the zero one. -/
def GP (a : GA) (w : World) (e : Ending) (w' : World) : Prop :=
  (∀ c r X, a = some (c, r, X) → ∃ g k, e = .returned (.agg (gV (c : Nat) (r : Nat) (some ⟨g, 0, none⟩) X.flatten.length k)) ∧ X.flatten.length ≤ k ∧ Rw ceV 41 w' g X.flatten) ∧
  (a = none → e = .returned (.agg (gV 0 0 none 0 0))) ∧ Below w.heap.size w w'
theorem GP.of {a : GA} {w : World} {e : Ending} {w' : World} (h : GPost a w e w') : GP a w e w' :=
  ⟨fun c r X he => by
    obtain ⟨_, g, k, h2, _, h4, _, h6⟩ := h.1 c r X he
    exact ⟨g, k, h2, h4, h6⟩, fun he => (h.2 he).1, h.bel⟩
theorem do_all {w : World} {g k m c r : Nat} {LL : Rws} (o : Op9) (hR : Rw ceV 41 w g LL.flatten) (hT : Tabs w) (hG : Gk c r LL) (hm : LL.flatten.length = m) (hk : m ≤ k) :
    Calls Tryd.prog 11 #[.agg (gV (c : Int) (r : Int) (some ⟨g, 0, none⟩) m k), .agg (opA9 o)] w (GP (dAll c r LL o) w) := by
  subst hm
  unfold dAll
  split
  · rename_i h
    refine (do_else o h).mono fun e w' h2 => ?_
    refine ⟨fun c2 r2 X he => ?_, fun he => (by cases he), h2.2⟩
    injection he with he
    injection he with e1 he
    injection he with e2 e3
    subst e1 e2 e3
    exact ⟨g, k, h2.1, hk, hR.below h2.2⟩
  · have hs := hG.small
    have hl := hG.box.flen
    exact (do9_any o hR.vs hT hk (by omega) (by omega) (by omega)).mono fun e w' h2 => GP.of h2
theorem want_all {w : World} {g k m c r : Nat} {LL : Rws} (o : Op9) (hR : Rw ceV 41 w g LL.flatten) (hG : Gk c r LL) (hm : LL.flatten.length = m) (hk : m ≤ k) :
    Calls Tryd.prog 15 #[.agg (gV (c : Int) (r : Int) (some ⟨g, 0, none⟩) m k), .agg (opA9 o)] w (GP (dAll c r LL o) w) := by
  subst hm
  unfold dAll
  split
  · rename_i h
    refine (want_else o h).mono fun e w' h2 => ?_
    refine ⟨fun c2 r2 X he => ?_, fun he => (by cases he), h2.2⟩
    injection he with he
    injection he with e1 he
    injection he with e2 e3
    subst e1 e2 e3
    exact ⟨g, k, h2.1, hk, hR.below h2.2⟩
  · have hs := hG.small
    have hl := hG.box.flen
    exact (want9_any o hR.vs hk (by omega) (by omega) (by omega)).mono fun e w' h2 => GP.of h2
/-- What the loop over the calls keeps. -/
structure Pl (w : World) (b7 b9 c r : Nat) (LL : Rws) (m g7 k7 g9 k9 : Nat) (wx : World) : Prop where
  bel : Below w.heap.size w wx
  gk : Gk c r LL
  ln : LL.flatten.length = m
  v7 : Rw ceV 41 wx g7 LL.flatten
  v9 : Rw ceV 41 wx g9 LL.flatten
  g7 : Gb wx b7 ⟨c, r, some ⟨g7, 0, none⟩, m, k7⟩
  g9 : Gb wx b9 ⟨c, r, some ⟨g9, 0, none⟩, m, k9⟩
  h7 : m ≤ k7
  h9 : m ≤ k9
  ne : w.heap.size ≤ b7 ∧ w.heap.size ≤ b9 ∧ b7 ≠ b9
theorem Pl.below {w wx wy : World} {b7 b9 c r : Nat} {LL : Rws} {m g7 k7 g9 k9 : Nat} (h : Pl w b7 b9 c r LL m g7 k7 g9 k9 wx) (hb : Below wx.heap.size wx wy) : Pl w b7 b9 c r LL m g7 k7 g9 k9 wy :=
  ⟨h.bel.trans (hb.mono h.bel.size), h.gk, h.ln, h.v7.below hb, h.v9.below hb, h.g7.below hb, h.g9.below hb, h.h7, h.h9, h.ne⟩
theorem Vs.nine {w : World} {ad : Addr} {n : Nat} {P : List Op9} (h : Vs op9V w (some ad) n P) {k : Nat} {o : Op9} (ho : P[k]? = some o) :
    w.cell? (ad.add (k * 9)) = some (.int .i64 o.k) ∧ w.cell? ⟨(ad.add (k * 9)).block, (ad.add (k * 9)).off + 1, none⟩ = some (.int .i64 o.x) ∧
    w.cell? ⟨(ad.add (k * 9)).block, (ad.add (k * 9)).off + 2, none⟩ = some (.int .i64 o.y) ∧ w.cell? ⟨(ad.add (k * 9)).block, (ad.add (k * 9)).off + 3, none⟩ = some (.int .i64 o.n) ∧ w.cell? ⟨(ad.add (k * 9)).block, (ad.add (k * 9)).off + 4, none⟩ = some (.int .i32 o.r) ∧
    w.cell? ⟨(ad.add (k * 9)).block, (ad.add (k * 9)).off + 5, none⟩ = some (.int .u32 o.p.fg) ∧ w.cell? ⟨(ad.add (k * 9)).block, (ad.add (k * 9)).off + 6, none⟩ = some (.int .u32 o.p.bg) ∧ w.cell? ⟨(ad.add (k * 9)).block, (ad.add (k * 9)).off + 7, none⟩ = some (.int .u8 o.p.st) ∧ w.cell? ⟨(ad.add (k * 9)).block, (ad.add (k * 9)).off + 8, none⟩ = some (.int .u16 o.p.lk) := by
  have h1 := h.get op9V_len ho
  exact ⟨by simpa [addZero] using h1 0 _ rfl, by simpa [addStep] using h1 1 _ rfl, by simpa [addStep] using h1 2 _ rfl, by simpa [addStep] using h1 3 _ rfl, by simpa [addStep] using h1 4 _ rfl, by simpa [addStep] using h1 5 _ rfl, by simpa [addStep] using h1 6 _ rfl, by simpa [addStep] using h1 7 _ rfl, by simpa [addStep] using h1 8 _ rfl⟩

set_option maxHeartbeats 12800000 in
set_option maxRecDepth 100000 in
/-- The walk. -/
theorem walk {n0 n1 : Int} {A : Option Addr} {n c : Nat} {P : List Op9} (w : World) (hT : Tabs w) (hu0 : (Lit.int .u8 n0).wf = true) (hu1 : (Lit.int .u8 n1).wf = true) (hs : Vs op9V w A n P ∧ n ≤ c ∧ c ≤ maxLen) :
    Calls Tryd.prog 5 #[.int .u8 n0, .int .u8 n1, .slice A n c] w fun e w' => e = .returned (.bool true) ∧ Below w.heap.size w w' := by
  obtain ⟨hv, hc1, hc2⟩ := hs
  unfold maxLen at hc2
  have HV := Lib.hid (And.intro hv hv.len)
  have HTW := Lib.hid hT
  clear hv hT
  obtain ⟨ha0, ha1⟩ := bounds_u8 hu0
  obtain ⟨hb0, hb1⟩ := bounds_u8 hu1
  clear hu0 hu1
  obtain ⟨r0, hr0⟩ : ∃ r0 : Nat, n0.tmod 80 = (r0 : Int) := ⟨(n0 % 80).toNat, by rw [Int.tmod_eq_emod_of_nonneg ha0]; omega⟩
  obtain ⟨r1, hr1⟩ : ∃ r1 : Nat, n1.tmod 24 = (r1 : Int) := ⟨(n1 % 24).toNat, by rw [Int.tmod_eq_emod_of_nonneg hb0]; omega⟩
  have hr79 : r0 ≤ 79 := by rw [Int.tmod_eq_emod_of_nonneg ha0] at hr0; omega
  have hr23 : r1 ≤ 23 := by rw [Int.tmod_eq_emod_of_nonneg hb0] at hr1; omega
  obtain ⟨N, hN⟩ : ∃ N : Nat, (1 : Int) + (r0 : Int) = (N : Int) := ⟨1 + r0, by omega⟩
  obtain ⟨M, hM⟩ : ∃ M : Nat, (1 : Int) + (r1 : Int) = (M : Int) := ⟨1 + r1, by omega⟩
  have hN1 : 1 ≤ N := by omega
  have hN2 : N ≤ 80 := by omega
  have hM1 : 1 ≤ M := by omega
  have hM2 : M ≤ 24 := by omega
  go_enter Tryd.func5, Tryd.ntmps5
  go_wp2_with fail
  refine (gNew_any (c := N) (r := M) w).mono ?_
  intro e w1 hp
  obtain ⟨LL0, hLL0⟩ : ∃ LL0, LL0 = List.replicate M (blanksS N pn0) := ⟨_, rfl⟩
  obtain ⟨m0, hm0⟩ : ∃ m0, m0 = LL0.flatten.length := ⟨_, rfl⟩
  have HG0 := Lib.hid (show Gk N M LL0 ∧ LL0.flatten.length = m0 ∧ m0 ≤ 1920 from by
    have h1 : Gk N M LL0 := by rw [hLL0]; exact gk_blank hN1 hN2 hM1 hM2
    have h2 := h1.box.flen
    have h3 := h1.small
    exact ⟨h1, hm0.symm, by omega⟩)
  obtain ⟨v, rfl, hb, g1, k1, hv, hg1, hk1, hm1, hR⟩ := hp.1 N M LL0 (by rw [hLL0]; exact new_yes (by unfold sizeOk; simp; omega))
  rw [← hm0] at hv hk1
  injection hv with hv
  subst hv
  clear hm0 hLL0 hp
  obtain ⟨w2, hw2⟩ : ∃ w2, w2 = w1.alloc (.cells (gV (N : Int) (M : Int) (some ⟨g1, 0, none⟩) m0 k1) 24) := ⟨_, rfl⟩
  obtain ⟨b7, hb7⟩ : ∃ b7, b7 = w1.heap.size := ⟨_, rfl⟩
  have X := Lib.hid (show Below w.heap.size w w2 ∧ Gb w2 b7 ⟨N, M, some ⟨g1, 0, none⟩, m0, k1⟩ ∧ Rw ceV 41 w2 g1 LL0.flatten ∧ w.heap.size ≤ b7 from by
    rw [hw2, hb7]
    exact ⟨hb.alloc hb.size _, gb_new w1 ⟨N, M, some ⟨g1, 0, none⟩, m0, k1⟩, hR.below (below1 _ _), hb.size⟩)
  clear hb hg1 hR hr0 hr1 hN hM
  unfold gV at hw2 ⊢
  go_upto_region 2 with fail
  rw [← hw2, ← hb7]
  clear hw2 hb7
  go_wp2_with fail
  refine (fixedG_any (HTW.out.below X.out.1 (Nat.le_refl _))).mono ?_
  rintro e w3 ⟨rfl, hb⟩
  have X3 := Lib.hid (show Below w.heap.size w w3 ∧ Gb w3 b7 ⟨N, M, some ⟨g1, 0, none⟩, m0, k1⟩ ∧ Rw ceV 41 w3 g1 LL0.flatten from ⟨X.out.1.trans (hb.mono X.out.1.size), X.out.2.1.below hb, X.out.2.2.1.below hb⟩)
  clear hb
  obtain ⟨c0, c1, c2, _⟩ := X3.out.2.1.g3
  dsimp only at c0 c1 c2
  have HVG := Lib.hid (show Vs ceV w3 (some ⟨g1, 0, none⟩) m0 LL0.flatten from by
    have e1 := X3.out.2.2.vs
    rw [HG0.out.2.1] at e1
    exact e1)
  go_wp2_with fail
  refine (copyG_any (c := N) (r := M) (k := k1) HVG.out (by have := HG0.out.2.2; omega)).mono ?_
  rintro e w4 ⟨hb, gC, kC, rfl, hgC, hkC, hmC, hR⟩
  rw [HG0.out.2.1] at hkC ⊢
  obtain ⟨w5, hw5⟩ : ∃ w5, w5 = w4.alloc (.cells (gV (N : Int) (M : Int) (some ⟨gC, 0, none⟩) m0 kC) 24) := ⟨_, rfl⟩
  obtain ⟨b9, hb9⟩ : ∃ b9, b9 = w4.heap.size := ⟨_, rfl⟩
  have P5 := Lib.hid (show Pl w b7 b9 N M LL0 m0 g1 k1 gC kC w5 from by
    have h1 := X3.out.1.trans (hb.mono X3.out.1.size)
    have h2 := below1 w4 (.cells (gV (N : Int) (M : Int) (some ⟨gC, 0, none⟩) m0 kC) 24)
    have h3 := (X3.out.2.1.below hb).lt
    have h4 := X.out.2.2.2
    rw [hw5, hb9]
    exact ⟨h1.alloc h1.size _, HG0.out.1, HG0.out.2.1, (X3.out.2.2.below hb).below h2, hR.below h2, (X3.out.2.1.below hb).below h2, gb_new w4 ⟨N, M, some ⟨gC, 0, none⟩, m0, kC⟩, hk1, hkC, h4, h1.size, by omega⟩)
  clear hb hgC hR c0 c1 c2
  unfold gV at hw5 ⊢
  go_upto_region 5 with fail
  rw [← hw5, ← hb9]
  clear hw5 hb9 X3 X
  go_wp2_with fail
  go_loopw [35] (fun i wr => ∃ (q c' r' : Nat) (LL : Rws) (m g7 k7 g9 k9 : Nat), q ≤ n ∧ i = .int .i64 q ∧ Pl w b7 b9 c' r' LL m g7 k7 g9 k9 wr) (fun i _ => n - (intOf i).toNat)
  case atStart => exact ⟨0, N, M, LL0, m0, g1, k1, gC, kC, Nat.zero_le _, rfl, P5.out⟩
  case round =>
    obtain ⟨q, c', r', LL, m, g7, k7, g9, k9, hq, rfl, hpl⟩ := hrel
    have W := Lib.hid hpl
    clear hpl
    by_cases hlt : q < n
    · have hqi : (q : Int) < (n : Int) := by omega
      obtain ⟨o, ho⟩ : ∃ o, P[q]? = some o := ⟨P[q]'(by rw [HV.out.2]; exact hlt), List.getElem?_eq_getElem _⟩
      obtain ⟨ad, rfl⟩ := HV.out.1.addr (by omega)
      have hadl : ad.block < wr.heap.size := Nat.lt_of_lt_of_le (HV.out.1.lt (by omega)) W.out.bel.size
      obtain ⟨a0, a1, a2, a3, a4, a5, a6, a7, a8⟩ := Vs.nine (HV.out.1.below W.out.bel) ho
      clear ho
      obtain ⟨wo, hwo⟩ : ∃ wo, wo = wr.alloc (.cells (opA9 o) 31) := ⟨_, rfl⟩
      obtain ⟨b11, hb11⟩ : ∃ b11, b11 = wr.heap.size := ⟨_, rfl⟩
      have U := Lib.hid (show Pl w b7 b9 c' r' LL m g7 k7 g9 k9 wo ∧ Op9c wo b11 o from by
        rw [hwo, hb11]
        exact ⟨W.out.below (below1 _ _), op9_new wr o _⟩)
      unfold opA9 at hwo
      go_upto_region 8 with fail
      rw [← hwo, ← hb11]
      clear hwo hb11 a0 a1 a2 a3 a4 a5 a6 a7 a8 W
      by_cases h60 : (60 : Int) < (q : Int)
      · go_wp2_with fail
        go_ret
        exact ⟨rfl, U.out.1.bel⟩
      · have h60' : (q : Int) ≤ 60 := by omega
        clear h60
        obtain ⟨G, hG⟩ : ∃ G, dAll c' r' LL o = G := ⟨_, rfl⟩
        have HG := Lib.hid hG
        have HDO := do_all (k := k7) o U.out.1.v7 (HTW.out.below U.out.1.bel (Nat.le_refl _)) U.out.1.gk U.out.1.ln U.out.1.h7
        rw [hG] at HDO
        unfold gV opA9 at HDO
        have HDO := Lib.hid HDO
        clear hG
        obtain ⟨c0, c1, c2, _⟩ := U.out.1.g7.g3
        dsimp only at c0 c1 c2
        obtain ⟨d0, d1, d2, d3, d4, d5, d6, d7, d8, _⟩ := U.out.2
        go_wp2_with fail
        refine HDO.out.mono ?_
        intro e w4 hp
        clear c0 c1 c2 d0 d1 d2 d3 d4 d5 d6 d7 d8 HDO
        have hb := hp.2.2
        cases G with
        | none =>
          obtain rfl := hp.2.1 rfl
          obtain ⟨w5, hw5⟩ : ∃ w5, w5 = w4.alloc (.cells (gV 0 0 none 0 0) 24) := ⟨_, rfl⟩
          obtain ⟨b12, hb12⟩ : ∃ b12, b12 = w4.heap.size := ⟨_, rfl⟩
          have V := Lib.hid (show Pl w b7 b9 c' r' LL m g7 k7 g9 k9 w5 ∧ Op9c w5 b11 o ∧ Gb w5 b12 gr0 ∧ b7 < b12 ∧ b9 < b12 ∧ True from by
            have h2 := below1 w4 (.cells (gV 0 0 none 0 0) 24)
            have h7 := (U.out.1.below hb).g7.lt
            have h9 := (U.out.1.below hb).g9.lt
            rw [hw5, hb12]
            exact ⟨(U.out.1.below hb).below h2, (U.out.2.below hb).below h2, gb_new w4 gr0, h7, h9, trivial⟩)
          clear hp hb
          unfold gV at hw5 ⊢
          go_upto_region 10 with fail
          rw [← hw5, ← hb12]
          clear hw5 hb12 U
          have hb1 : Below w5.heap.size w5 w5.drew := belowN (Below.refl _ _) 1
          have SX := Lib.hid (show ∀ w', Below w5.heap.size w5 w' → (fun w' => Below w5.heap.size w5 w' ∧ (w'.cell? ⟨b12, 0, none⟩ = some (.int .i64 0) ∧ w'.cell? ⟨b12, 1, none⟩ = some (.int .i64 0) ∧ w'.cell? ⟨b12, 2, none⟩ = some (.slice none 0 0) ∧ w'.cell? ⟨b9, 0, none⟩ = some (.int .i64 (c' : Int)) ∧ w'.cell? ⟨b9, 1, none⟩ = some (.int .i64 (r' : Int)) ∧ w'.cell? ⟨b9, 2, none⟩ = some (.slice (some ⟨g9, 0, none⟩) m k9) ∧ w'.cell? ⟨b11, 0, none⟩ = some (.int .i64 o.k) ∧ w'.cell? ⟨b11, 1, none⟩ = some (.int .i64 o.x) ∧ w'.cell? ⟨b11, 2, none⟩ = some (.int .i64 o.y) ∧ w'.cell? ⟨b11, 3, none⟩ = some (.int .i64 o.n) ∧ w'.cell? ⟨b11, 4, none⟩ = some (.int .i32 o.r) ∧ w'.cell? ⟨b11, 5, none⟩ = some (.int .u32 o.p.fg) ∧ w'.cell? ⟨b11, 6, none⟩ = some (.int .u32 o.p.bg) ∧ w'.cell? ⟨b11, 7, none⟩ = some (.int .u8 o.p.st) ∧ w'.cell? ⟨b11, 8, none⟩ = some (.int .u16 o.p.lk))) w' from fun w' hb => by
            obtain ⟨f0, f1, f2, _⟩ := (V.out.2.2.1.below hb).g3
            obtain ⟨h0, h1, h2, _⟩ := (V.out.1.below hb).g9.g3
            obtain ⟨i0, i1, i2, i3, i4, i5, i6, i7, i8, _⟩ := V.out.2.1.below hb
            exact ⟨hb, f0, f1, f2, h0, h1, h2, i0, i1, i2, i3, i4, i5, i6, i7, i8⟩)
          have HWT := Lib.hid (show ∀ w', Below w5.heap.size w5 w' → Calls Tryd.prog 15 #[.agg #[.int .i64 (c' : Int), .int .i64 (r' : Int), .slice (some ⟨g9, 0, none⟩) m k9], .agg #[.int .i64 o.k, .int .i64 o.x, .int .i64 o.y, .int .i64 o.n, .int .i32 o.r, .int .u32 o.p.fg, .int .u32 o.p.bg, .int .u8 o.p.st, .int .u16 o.p.lk]] w' fun e w'' => e = .returned (.agg #[.int .i64 0, .int .i64 0, .slice none 0 0]) ∧ Below w'.heap.size w' w'' from fun w' hb => by
            have hq := V.out.1.below hb
            refine (want_all o hq.v9 hq.gk hq.ln hq.h9).mono fun e w'' h => ?_
            rw [HG.out] at h
            exact ⟨h.2.1 rfl, h.2.2⟩)
          have HSM := Lib.hid (show ∀ w' , Below w5.heap.size w5 w' → Calls Tryd.prog 14 #[.agg #[.int .i64 0, .int .i64 0, .slice none 0 0], .agg #[.int .i64 0, .int .i64 0, .slice none 0 0]] w' fun e w'' => e = .returned (.bool true) ∧ Below w'.heap.size w' w'' from fun w'  hb => by
            exact sameG_any (c := 0) (r := 0) (c' := 0) (r' := 0) (L := []) (L' := []) (Vs.nil w' none) (Vs.nil w' none) (by omega) (by omega) (by simp))
          go_region_held3 (fun w' => Below w5.heap.size w5 w' ∧ (w'.cell? ⟨b12, 0, none⟩ = some (.int .i64 0) ∧ w'.cell? ⟨b12, 1, none⟩ = some (.int .i64 0) ∧ w'.cell? ⟨b12, 2, none⟩ = some (.slice none 0 0) ∧ w'.cell? ⟨b9, 0, none⟩ = some (.int .i64 (c' : Int)) ∧ w'.cell? ⟨b9, 1, none⟩ = some (.int .i64 (r' : Int)) ∧ w'.cell? ⟨b9, 2, none⟩ = some (.slice (some ⟨g9, 0, none⟩) m k9) ∧ w'.cell? ⟨b11, 0, none⟩ = some (.int .i64 o.k) ∧ w'.cell? ⟨b11, 1, none⟩ = some (.int .i64 o.x) ∧ w'.cell? ⟨b11, 2, none⟩ = some (.int .i64 o.y) ∧ w'.cell? ⟨b11, 3, none⟩ = some (.int .i64 o.n) ∧ w'.cell? ⟨b11, 4, none⟩ = some (.int .i32 o.r) ∧ w'.cell? ⟨b11, 5, none⟩ = some (.int .u32 o.p.fg) ∧ w'.cell? ⟨b11, 6, none⟩ = some (.int .u32 o.p.bg) ∧ w'.cell? ⟨b11, 7, none⟩ = some (.int .u8 o.p.st) ∧ w'.cell? ⟨b11, 8, none⟩ = some (.int .u16 o.p.lk)))
            ((refine SX.out _ ?_; assumption))
            ((first
              | (go_at_call 15; (try go_split_ands); refine (HWT.out _ (by assumption)).mono ?_; rintro e w4 ⟨rfl, hb4⟩; have hb5 := Below.trans (B := w5.heap.size) (by assumption) (hb4.mono (below_sz (a := w5) (B := w5.heap.size) (by assumption))))
              | (go_at_call 14; (try go_split_ands); refine (HSM.out _ (by assumption)).mono ?_; rintro e w6 ⟨rfl, hb6⟩; have hb7 := Below.trans (B := w5.heap.size) (by assumption) (hb6.mono (below_sz (a := w5) (B := w5.heap.size) (by assumption))))))
          have Y := Lib.hid (show Pl w b7 b9 c' r' LL m g7 k7 g9 k9 w6 ∧ Gb w6 b12 gr0 ∧ True from ⟨V.out.1.below hb7, V.out.2.2.1.below hb7, trivial⟩)
          clear hb1 hb4 hb5 hb6 hb7  SX HWT HSM
          obtain ⟨c0, c1, c2', _⟩ := Y.out.2.1.g3
          unfold gr0 at c0 c1 c2'
          dsimp only at c0 c1 c2'
          go_wp2_with fail
          go_roundw
          case rel => exact ⟨q + 1, c', r', LL, m, g7, k7, g9, k9, by omega, by go_num, Y.out.1⟩
          case measure => simp [intOf]; omega
        | some gg =>
          obtain ⟨c2, r2, X⟩ := gg
          obtain ⟨g2, k2, rfl, hk2, hR⟩ := hp.1 c2 r2 X rfl
          obtain ⟨m2, hm2⟩ : ∃ m2, m2 = X.flatten.length := ⟨_, rfl⟩
          have HX := Lib.hid (show Gk c2 r2 X ∧ X.flatten.length = m2 ∧ m2 ≤ 1920 from by
            have h8 := dAll_ok U.out.1.gk HG.out
            have h9 := h8.box.flen
            have h7 := h8.small
            exact ⟨h8, hm2.symm, by omega⟩)
          rw [← hm2] at hk2 ⊢
          clear hm2
          obtain ⟨w5, hw5⟩ : ∃ w5, w5 = w4.alloc (.cells (gV (c2 : Int) (r2 : Int) (some ⟨g2, 0, none⟩) m2 k2) 24) := ⟨_, rfl⟩
          obtain ⟨b12, hb12⟩ : ∃ b12, b12 = w4.heap.size := ⟨_, rfl⟩
          have V := Lib.hid (show Pl w b7 b9 c' r' LL m g7 k7 g9 k9 w5 ∧ Op9c w5 b11 o ∧ Gb w5 b12 ⟨c2, r2, some ⟨g2, 0, none⟩, m2, k2⟩ ∧ b7 < b12 ∧ b9 < b12 ∧ Rw ceV 41 w5 g2 X.flatten from by
            have h2 := below1 w4 (.cells (gV (c2 : Int) (r2 : Int) (some ⟨g2, 0, none⟩) m2 k2) 24)
            have h7 := (U.out.1.below hb).g7.lt
            have h9 := (U.out.1.below hb).g9.lt
            rw [hw5, hb12]
            exact ⟨(U.out.1.below hb).below h2, (U.out.2.below hb).below h2, gb_new w4 ⟨c2, r2, some ⟨g2, 0, none⟩, m2, k2⟩, h7, h9, hR.below h2⟩)
          clear hp hb hR
          unfold gV at hw5 ⊢
          go_upto_region 10 with fail
          rw [← hw5, ← hb12]
          clear hw5 hb12 U
          have hb1 : Below w5.heap.size w5 w5.drew := belowN (Below.refl _ _) 1
          have SX := Lib.hid (show ∀ w', Below w5.heap.size w5 w' → (fun w' => Below w5.heap.size w5 w' ∧ (w'.cell? ⟨b12, 0, none⟩ = some (.int .i64 (c2 : Int)) ∧ w'.cell? ⟨b12, 1, none⟩ = some (.int .i64 (r2 : Int)) ∧ w'.cell? ⟨b12, 2, none⟩ = some (.slice (some ⟨g2, 0, none⟩) m2 k2) ∧ w'.cell? ⟨b9, 0, none⟩ = some (.int .i64 (c' : Int)) ∧ w'.cell? ⟨b9, 1, none⟩ = some (.int .i64 (r' : Int)) ∧ w'.cell? ⟨b9, 2, none⟩ = some (.slice (some ⟨g9, 0, none⟩) m k9) ∧ w'.cell? ⟨b11, 0, none⟩ = some (.int .i64 o.k) ∧ w'.cell? ⟨b11, 1, none⟩ = some (.int .i64 o.x) ∧ w'.cell? ⟨b11, 2, none⟩ = some (.int .i64 o.y) ∧ w'.cell? ⟨b11, 3, none⟩ = some (.int .i64 o.n) ∧ w'.cell? ⟨b11, 4, none⟩ = some (.int .i32 o.r) ∧ w'.cell? ⟨b11, 5, none⟩ = some (.int .u32 o.p.fg) ∧ w'.cell? ⟨b11, 6, none⟩ = some (.int .u32 o.p.bg) ∧ w'.cell? ⟨b11, 7, none⟩ = some (.int .u8 o.p.st) ∧ w'.cell? ⟨b11, 8, none⟩ = some (.int .u16 o.p.lk))) w' from fun w' hb => by
            obtain ⟨f0, f1, f2, _⟩ := (V.out.2.2.1.below hb).g3
            obtain ⟨h0, h1, h2, _⟩ := (V.out.1.below hb).g9.g3
            obtain ⟨i0, i1, i2, i3, i4, i5, i6, i7, i8, _⟩ := V.out.2.1.below hb
            exact ⟨hb, f0, f1, f2, h0, h1, h2, i0, i1, i2, i3, i4, i5, i6, i7, i8⟩)
          have HWT := Lib.hid (show ∀ w', Below w5.heap.size w5 w' → Calls Tryd.prog 15 #[.agg #[.int .i64 (c' : Int), .int .i64 (r' : Int), .slice (some ⟨g9, 0, none⟩) m k9], .agg #[.int .i64 o.k, .int .i64 o.x, .int .i64 o.y, .int .i64 o.n, .int .i32 o.r, .int .u32 o.p.fg, .int .u32 o.p.bg, .int .u8 o.p.st, .int .u16 o.p.lk]] w' fun e w'' => ∃ g8 k8, e = .returned (.agg #[.int .i64 (c2 : Int), .int .i64 (r2 : Int), .slice (some ⟨g8, 0, none⟩) m2 k8]) ∧ Below w'.heap.size w' w'' ∧ Rw ceV 41 w'' g8 X.flatten from fun w' hb => by
            have hq := V.out.1.below hb
            refine (want_all o hq.v9 hq.gk hq.ln hq.h9).mono fun e w'' h => ?_
            rw [HG.out] at h
            obtain ⟨g8, k8, he, h2, h3⟩ := h.1 c2 r2 X rfl
            rw [HX.out.2.1] at he
            exact ⟨g8, k8, he, h.2.2, h3⟩)
          have HSM := Lib.hid (show ∀ w' g8 k8, Below w5.heap.size w5 w' → Rw ceV 41 w' g8 X.flatten → Calls Tryd.prog 14 #[.agg #[.int .i64 (c2 : Int), .int .i64 (r2 : Int), .slice (some ⟨g2, 0, none⟩) m2 k2], .agg #[.int .i64 (c2 : Int), .int .i64 (r2 : Int), .slice (some ⟨g8, 0, none⟩) m2 k8]] w' fun e w'' => e = .returned (.bool true) ∧ Below w'.heap.size w' w'' from fun w' g8 k8 hb hR => by
            have e1 := (V.out.2.2.2.2.2.below hb).vs
            have e2 := hR.vs
            rw [HX.out.2.1] at e1 e2
            exact sameG_any e1 e2 (by have := HX.out.2.2; omega) (by have := HX.out.2.2; omega) (by simp))
          go_region_held3 (fun w' => Below w5.heap.size w5 w' ∧ (w'.cell? ⟨b12, 0, none⟩ = some (.int .i64 (c2 : Int)) ∧ w'.cell? ⟨b12, 1, none⟩ = some (.int .i64 (r2 : Int)) ∧ w'.cell? ⟨b12, 2, none⟩ = some (.slice (some ⟨g2, 0, none⟩) m2 k2) ∧ w'.cell? ⟨b9, 0, none⟩ = some (.int .i64 (c' : Int)) ∧ w'.cell? ⟨b9, 1, none⟩ = some (.int .i64 (r' : Int)) ∧ w'.cell? ⟨b9, 2, none⟩ = some (.slice (some ⟨g9, 0, none⟩) m k9) ∧ w'.cell? ⟨b11, 0, none⟩ = some (.int .i64 o.k) ∧ w'.cell? ⟨b11, 1, none⟩ = some (.int .i64 o.x) ∧ w'.cell? ⟨b11, 2, none⟩ = some (.int .i64 o.y) ∧ w'.cell? ⟨b11, 3, none⟩ = some (.int .i64 o.n) ∧ w'.cell? ⟨b11, 4, none⟩ = some (.int .i32 o.r) ∧ w'.cell? ⟨b11, 5, none⟩ = some (.int .u32 o.p.fg) ∧ w'.cell? ⟨b11, 6, none⟩ = some (.int .u32 o.p.bg) ∧ w'.cell? ⟨b11, 7, none⟩ = some (.int .u8 o.p.st) ∧ w'.cell? ⟨b11, 8, none⟩ = some (.int .u16 o.p.lk)))
            ((refine SX.out _ ?_; assumption))
            ((first
              | (go_at_call 15; (try go_split_ands); refine (HWT.out _ (by assumption)).mono ?_; rintro e w4 ⟨g8, k8, rfl, hb4, hR4⟩; have hb5 := Below.trans (B := w5.heap.size) (by assumption) (hb4.mono (below_sz (a := w5) (B := w5.heap.size) (by assumption))))
              | (go_at_call 14; (try go_split_ands); refine (HSM.out _ _ _ (by assumption) hR4).mono ?_; rintro e w6 ⟨rfl, hb6⟩; have hb7 := Below.trans (B := w5.heap.size) (by assumption) (hb6.mono (below_sz (a := w5) (B := w5.heap.size) (by assumption))))))
          have Y := Lib.hid (show Pl w b7 b9 c' r' LL m g7 k7 g9 k9 w6 ∧ Gb w6 b12 ⟨c2, r2, some ⟨g2, 0, none⟩, m2, k2⟩ ∧ Rw ceV 41 w6 g2 X.flatten from ⟨V.out.1.below hb7, V.out.2.2.1.below hb7, V.out.2.2.2.2.2.below hb7⟩)
          clear hb1 hb4 hb5 hb6 hb7 hR4 SX HWT HSM
          obtain ⟨c0, c1, c2', _⟩ := Y.out.2.1.g3
          dsimp only at c0 c1 c2'
          have HCP := Lib.hid (show ∀ w', Rw ceV 41 w' g2 X.flatten → Calls Tryd.prog 10 #[.agg #[.int .i64 (c2 : Int), .int .i64 (r2 : Int), .slice (some ⟨g2, 0, none⟩) m2 k2]] w' fun e w'' => ∃ g k, e = .returned (.agg #[.int .i64 (c2 : Int), .int .i64 (r2 : Int), .slice (some ⟨g, 0, none⟩) m2 k]) ∧ Below w'.heap.size w' w'' ∧ m2 ≤ k ∧ Rw ceV 41 w'' g X.flatten from fun w' hR => by
            have e1 := hR.vs
            rw [HX.out.2.1] at e1
            refine (copyG_any (c := c2) (r := r2) (k := k2) e1 (by have := HX.out.2.2; omega)).mono fun e w'' h => ?_
            obtain ⟨h1, g, k, he, h2, h3, h4, h5⟩ := h
            rw [HX.out.2.1] at he h3
            exact ⟨g, k, he, h1, h3, h5⟩)
          have HLT := Lib.hid (And.intro V.out.2.2.2.1 V.out.2.2.2.2.1)
          have hmne : ((m2 : Int) == 0) = false := by
            have h2 := HX.out.1.c1
            have h3 := HX.out.1.r1
            have h0 : m2 = r2 * c2 := by rw [← HX.out.2.1]; exact HX.out.1.box.flen
            have h1 : 0 < r2 * c2 := Nat.mul_pos (by omega) (by omega)
            simp
            omega
          have hmnd : decide ((m2 : Int) = 0) = false := by simpa using hmne
          go_upto_region 13 with fail
          refine wp_region_noPanic ?_
          refine wp_region_held_drew (S := fun w' => Below w.heap.size w w' ∧ (w'.cell? ⟨b12, 0, none⟩ = some (.int .i64 (c2 : Int)) ∧ w'.cell? ⟨b12, 1, none⟩ = some (.int .i64 (r2 : Int)) ∧ w'.cell? ⟨b12, 2, none⟩ = some (.slice (some ⟨g2, 0, none⟩) m2 k2))) (by kernel_rfl) (⟨belowN Y.out.1.bel 1, c0, c1, c2'⟩) (fun hHeld => ?_)
          have YD := Lib.hid (show Pl w b7 b9 c' r' LL m g7 k7 g9 k9 w6.drew ∧ Gb w6.drew b12 ⟨c2, r2, some ⟨g2, 0, none⟩, m2, k2⟩ ∧ Rw ceV 41 w6.drew g2 X.flatten from ⟨Y.out.1.below (belowN (Below.refl _ _) 1), Y.out.2.1, Y.out.2.2⟩)
          clear c0 c1 c2'
          generalize w6.drew = wd at hHeld YD ⊢
          refine wpAnyH_take (i := 0) (v := .agg #[.int .i64 (c2 : Int), .int .i64 (r2 : Int), .slice (some ⟨g2, 0, none⟩) m2 k2]) rfl (by kernel_rfl) (by kernel_rfl) (by kernel_rfl) (fun _ _ _ h => h) (Or.inl ⟨by rfl, fun wz hSz => ?_⟩) hHeld ?_
          · obtain ⟨_, y0, y1, y2⟩ := hSz; go_simp
          simp only [Act.put]
          try simp only [List.setIfInBounds_toArray]
          try simp only [List.set_cons_succ]
          try simp only [List.set_cons_zero]
          refine wpAnyH_take (i := 1) (v := .agg #[.int .i64 (c2 : Int), .int .i64 (r2 : Int), .slice (some ⟨g2, 0, none⟩) m2 k2]) rfl (by kernel_rfl) (by kernel_rfl) (by kernel_rfl) (fun _ _ _ h => h) (Or.inl ⟨by rfl, fun wz hSz => ?_⟩) hHeld ?_
          · obtain ⟨_, y0, y1, y2⟩ := hSz; go_simp
          simp only [Act.put]
          try simp only [List.setIfInBounds_toArray]
          try simp only [List.set_cons_succ]
          try simp only [List.set_cons_zero]
          refine wpAnyH_ready (rs := [2]) (by kernel_rfl) (by simp) (AllReadyH.cons rfl (fun K hK => ?_) AllReadyH.nil)
          rw [if_pos (by rfl)]
          go_simp
          refine (HCP.out _ YD.out.2.2).mono ?_
          rintro e w7 ⟨gC, kC, rfl, hb, hkC, hRC⟩
          have Z7 := Lib.hid (show Gb w7 b7 ⟨c', r', some ⟨g7, 0, none⟩, m, k7⟩ ∧ Gb w7 b12 ⟨c2, r2, some ⟨g2, 0, none⟩, m2, k2⟩ ∧ Below w.heap.size w w7 ∧ Rw ceV 41 w7 g2 X.flatten ∧ Rw ceV 41 w7 gC X.flatten ∧ Gb w7 b9 ⟨c', r', some ⟨g9, 0, none⟩, m, k9⟩ from ⟨(YD.out.1.below hb).g7, YD.out.2.1.below hb, (YD.out.1.below hb).bel, YD.out.2.2.below hb, hRC, (YD.out.1.below hb).g9⟩)
          refine hK.out _ _ (by obtain ⟨e0, e1, e2, _⟩ := Z7.out.2.1.g3; exact ⟨Z7.out.2.2.1, e0, e1, e2⟩) (fun hHeld => ?_)
          clear hK K hb hRC
          try simp only [Act.put]
          try simp only [List.setIfInBounds_toArray]
          try simp only [List.set_cons_succ]
          try simp only [List.set_cons_zero]
          obtain ⟨z0, z1, z2, _⟩ := Z7.out.1.g3
          dsimp only at z0 z1 z2
          have f0 := Z7.out.1.rw.free 0
          have f1 := Z7.out.1.rw.free 1
          have f2 := Z7.out.1.rw.free 2
          refine wpAnyH_ready (rs := [3]) (by kernel_rfl) (by simp) (AllReadyH.cons rfl (fun K hK => ?_) AllReadyH.nil)
          rw [if_pos (by rfl)]
          go_simp
          have Z8 := Lib.hid (show Gb (set3 w7 b7 ⟨c2, r2, some ⟨g2, 0, none⟩, m2, k2⟩) b9 ⟨c', r', some ⟨g9, 0, none⟩, m, k9⟩ ∧ Gb (set3 w7 b7 ⟨c2, r2, some ⟨g2, 0, none⟩, m2, k2⟩) b12 ⟨c2, r2, some ⟨g2, 0, none⟩, m2, k2⟩ ∧ Below w.heap.size w (set3 w7 b7 ⟨c2, r2, some ⟨g2, 0, none⟩, m2, k2⟩) ∧ Rw ceV 41 (set3 w7 b7 ⟨c2, r2, some ⟨g2, 0, none⟩, m2, k2⟩) g2 X.flatten ∧ Rw ceV 41 (set3 w7 b7 ⟨c2, r2, some ⟨g2, 0, none⟩, m2, k2⟩) gC X.flatten ∧ Gb (set3 w7 b7 ⟨c2, r2, some ⟨g2, 0, none⟩, m2, k2⟩) b7 ⟨c2, r2, some ⟨g2, 0, none⟩, m2, k2⟩ from by
            have h9 := gb_set3 ⟨c2, r2, some ⟨g2, 0, none⟩, m2, k2⟩ Z7.out.1
            have hn := YD.out.1.ne
            exact ⟨Z7.out.2.2.2.2.2.grown h9.2 (by intro e; injection e with e; exact hn.2.2 e), Z7.out.2.1.grown h9.2 (by have := HLT.out.1; simp; omega), Z7.out.2.2.1.grown h9.2 Z7.out.2.2.1.size (by intro k hk; injection hk with hk; have := hn.1; omega), Z7.out.2.2.2.1.grown h9.2 (fun e => rw_apart Z7.out.2.2.2.1 Z7.out.1.rw (by decide) (by injection e with e; exact e.symm)), Z7.out.2.2.2.2.1.grown h9.2 (fun e => rw_apart Z7.out.2.2.2.2.1 Z7.out.1.rw (by decide) (by injection e with e; exact e.symm)), h9.1⟩)
          unfold set3 at Z8
          dsimp only at Z8
          refine hK.out _ _ (by obtain ⟨e0, e1, e2, _⟩ := Z8.out.2.1.g3; exact ⟨Z8.out.2.2.1, e0, e1, e2⟩) (fun hHeld => ?_)
          clear hK K z0 z1 z2 f0 f1 f2
          generalize ((w7.setCell ⟨b7, 0, none⟩ (.int .i64 (c2 : Int))).setCell ⟨b7, 1, none⟩ (.int .i64 (r2 : Int))).setCell ⟨b7, 2, none⟩ (.slice (some ⟨g2, 0, none⟩) m2 k2) = w8 at hHeld Z8 ⊢
          try simp only [Act.put]
          try simp only [List.setIfInBounds_toArray]
          try simp only [List.set_cons_succ]
          try simp only [List.set_cons_zero]
          obtain ⟨z0, z1, z2, _⟩ := Z8.out.1.g3
          dsimp only at z0 z1 z2
          have f0 := Z8.out.1.rw.free 0
          have f1 := Z8.out.1.rw.free 1
          have f2 := Z8.out.1.rw.free 2
          refine wpAnyH_ready (rs := [4]) (by kernel_rfl) (by simp) (AllReadyH.cons rfl (fun K hK => ?_) AllReadyH.nil)
          rw [if_pos (by rfl)]
          go_simp
          have Z9 := Lib.hid (show Gb (set3 w8 b9 ⟨c2, r2, some ⟨gC, 0, none⟩, m2, kC⟩) b9 ⟨c2, r2, some ⟨gC, 0, none⟩, m2, kC⟩ ∧ Gb (set3 w8 b9 ⟨c2, r2, some ⟨gC, 0, none⟩, m2, kC⟩) b12 ⟨c2, r2, some ⟨g2, 0, none⟩, m2, k2⟩ ∧ Below w.heap.size w (set3 w8 b9 ⟨c2, r2, some ⟨gC, 0, none⟩, m2, kC⟩) ∧ Rw ceV 41 (set3 w8 b9 ⟨c2, r2, some ⟨gC, 0, none⟩, m2, kC⟩) g2 X.flatten ∧ Rw ceV 41 (set3 w8 b9 ⟨c2, r2, some ⟨gC, 0, none⟩, m2, kC⟩) gC X.flatten ∧ Gb (set3 w8 b9 ⟨c2, r2, some ⟨gC, 0, none⟩, m2, kC⟩) b7 ⟨c2, r2, some ⟨g2, 0, none⟩, m2, k2⟩ from by
            have h9 := gb_set3 ⟨c2, r2, some ⟨gC, 0, none⟩, m2, kC⟩ Z8.out.1
            have hn := YD.out.1.ne
            exact ⟨h9.1, Z8.out.2.1.grown h9.2 (by have := HLT.out.2; simp; omega), Z8.out.2.2.1.grown h9.2 Z8.out.2.2.1.size (by intro k hk; injection hk with hk; have := hn.2.1; omega), Z8.out.2.2.2.1.grown h9.2 (fun e => rw_apart Z8.out.2.2.2.1 Z8.out.1.rw (by decide) (by injection e with e; exact e.symm)), Z8.out.2.2.2.2.1.grown h9.2 (fun e => rw_apart Z8.out.2.2.2.2.1 Z8.out.1.rw (by decide) (by injection e with e; exact e.symm)), Z8.out.2.2.2.2.2.grown h9.2 (by intro e; injection e with e; exact hn.2.2 e.symm)⟩)
          unfold set3 at Z9
          dsimp only at Z9
          refine hK.out _ _ (by obtain ⟨e0, e1, e2, _⟩ := Z9.out.2.1.g3; exact ⟨Z9.out.2.2.1, e0, e1, e2⟩) (fun hHeld => ?_)
          clear hK K z0 z1 z2 f0 f1 f2 hHeld
          refine wpAnyH_done (by kernel_rfl) ?_ _
          refine NoPanic.normal ?_
          generalize ((w8.setCell ⟨b9, 0, none⟩ (.int .i64 (c2 : Int))).setCell ⟨b9, 1, none⟩ (.int .i64 (r2 : Int))).setCell ⟨b9, 2, none⟩ (.slice (some ⟨gC, 0, none⟩) m2 kC) = w9 at Z9 ⊢
          have P9 := Lib.hid (show Pl w b7 b9 c2 r2 X m2 g2 k2 gC kC w9 from ⟨Z9.out.2.2.1, HX.out.1, HX.out.2.1, Z9.out.2.2.2.1, Z9.out.2.2.2.2.1, Z9.out.2.2.2.2.2, Z9.out.1, hk2, hkC, YD.out.1.ne⟩)
          clear Z7 Z8 Z9
          obtain ⟨c0, c1, c2', _⟩ := P9.out.g7.g3
          dsimp only at c0 c1 c2'
          have HVX := Lib.hid (show Vs ceV w9 (some ⟨g2, 0, none⟩) m2 X.flatten from by
            have e1 := P9.out.v7.vs
            rw [HX.out.2.1] at e1
            exact e1)
          go_wp2_with fail
          refine (gMay_any (c := c2) (r := r2) HVX.out (HTW.out.below P9.out.bel (Nat.le_refl _)) hk2 (by have := HX.out.2.2; omega)).mono ?_
          rintro e wz ⟨rfl, hb⟩
          rw [HX.out.1.may]
          have PZ := Lib.hid (P9.out.below hb)
          clear hb c0 c1 c2'
          go_wp2_with fail
          go_roundw
          case rel => exact ⟨q + 1, c2, r2, X, m2, g2, k2, gC, kC, by omega, by go_num, PZ.out⟩
          case measure => simp [intOf]; omega
    · obtain rfl : q = n := by omega
      go_wp2_with fail
      go_ret
      exact ⟨rfl, W.out.bel⟩

set_option maxRecDepth 100000 in
theorem lifted (os : Os) (started : os.Started) (H : Type) (enc : TypeId × Value → H) :
    ReturnsInHanded {} Tryd.checked os 5 .any (fun w args => (Rows.gridPlaysSpec.pre enc Tryd.prog Tryd.f5 [] false w args ∧ laidMetH Tryd.prog laidL w) ∧ sizedMet enc Tryd.prog Tryd.f5 (OpenSpec.ofChange Rows.gridPlaysSpec) false w args)
      (Rows.gridPlaysSpec.post enc Tryd.prog Tryd.f5 false true false false) := by
  refine returnsInHanded_of_change_and (C := Tryd.checked) (X := fun w _ => laidMetH Tryd.prog laidL w) (fun _ _ _ hh h => h.of_heap hh) own started (by kernel_rfl) Tryd.func5
    (ChangeSpec.witness_shaped (enc := enc) (C := Tryd.checked) (os := os) (X := fun w _ => laidMetH Tryd.prog laidL w) false (World.laidAll Tryd.prog os laidL) #[.int .u8 0, .int .u8 0, .slice none 0 0] 8 (World.laidAll_os _ _ _) (start_shaped os) (by kernel_rfl) (by kernel_rfl) (by kernel_rfl) (start_met os _)) ?_
  intro W base args ds gs before hval0 hW _ hsz0 hL _
  have hsz : (DataW.weightsEach Tryd.prog (Tryd.f5.params.toList ++ Rows.gridPlaysSpec.plain.varTypes Tryd.prog) (ds ++ gs)).all (· ≤ reachBytes) = true := hsz0
  clear hsz0
  have hval : ∀ (j : Nat) t v, Tryd.f5.params[j]? = some t → args[j]? = some v → Value.okWide Tryd.prog W .any base t v := hval0
  have hW' := hW
  obtain ⟨p, q, hA0, hV, rfl, _, _⟩ := hW
  have hA : DataW.TrodAll enc Tryd.prog W 0 (fun _ => true) true Tryd.f5.params.toList args.toList ds p := hA0
  rw [Tryd.params5] at hA hval hsz
  obtain ⟨v0, vs0, d0, ds0, p0, q0, hargs, rfl, rfl, h0, r0⟩ := trodAll_cons hA
  obtain ⟨v1, vs1, d1, ds1, p1, q1, rfl, rfl, rfl, h1, r1⟩ := trodAll_cons r0
  obtain ⟨v2, vs2, d2, ds2, p2, q2, rfl, rfl, rfl, h2, r2⟩ := trodAll_cons r1
  obtain ⟨rfl, rfl, rfl⟩ := trodAll_nil r2
  obtain rfl : args = #[v0, v1, v2] := by cases args; simp_all
  obtain ⟨rfl, rfl⟩ := trodVars_none hV
  obtain ⟨a0, rfl, rfl, rfl, w0⟩ := open_int Tryd.underlying5 (hval 0 5 v0 rfl rfl) h0
  obtain ⟨a1, rfl, rfl, rfl, w1⟩ := open_int Tryd.underlying5 (hval 1 5 v1 rfl rfl) h1
  have lt2 : ∀ x ∈ p2, x.block < W.heap.size := by obtain ⟨m, hm⟩ := h2; exact DataW.trod_lt m _ _ _ hm
  obtain ⟨A2, n2, c2, P2, rfl, s2⟩ := open_ops9 (hval 2 52 v2 rfl rfl) h2
  clear hA0 hval0
  refine (walk W (tabs_of_laid hL) w0 w1 s2).mono fun e W' ⟨he, bel⟩ => ?_
  subst he
  exact ⟨_, rfl, _, _, _, [], _, [], hW', trodAll_mk1 (shut_bool Tryd.underlying4 _), (trodAll_cons_mk (shut_int Tryd.underlying5 w0) (trodAll_cons_mk (shut_int Tryd.underlying5 w1) (trodAll_cons_mk (Below.trod laidOut (by kernel_rfl) (of_decide_eq_true (by kernel_rfl)) h2 bel lt2) trodAll_mk0))), rfl, bel.frame _, fun h => by cases h⟩

theorem over : Rows.gridPlaysRow.holds Tryd.pinned (OpenSpec.ofChange Rows.gridPlaysSpec) :=
  OpenClaim.holds_of_wide 5 Tryd.f5 rfl rfl rfl rfl rfl rfl rfl ⟨rfl, rfl, rfl, rfl, rfl⟩ rfl rfl rfl rfl rfl (by kernel_rfl) Tryd.func5 (by kernel_rfl)
    (of_decide_eq_true (by kernel_rfl)) (by unfold Func.isWrapper; first | (rw [if_pos (by decide +kernel)]; kernel_rfl) | (rw [if_neg (by decide +kernel)]; exact ⟨rfl, rfl⟩))
    (fun os started H enc _ => lifted os started H enc)

theorem proved : Rows.GridPlaysCardSaid :=
  Claim7.holds_tied_plain_at .later [] [.data] true Rows.gridPlaysCard.stood.harness false
    over (fun _ h => by cases h) (by kernel_rfl) (fun _ h => by cases h) gridPlays_row_tie rfl ⟨rfl, rfl⟩ (by kernel_rfl) rfl
    (fun f fn hf hfn => by
      obtain rfl : f = 5 := Option.some.inj ((show Tryd.prog.funcNamed "spyglass/spyglasslaw09.GridPlays" = some 5 by kernel_rfl).symm.trans hf) |>.symm
      obtain rfl : fn = Tryd.f5 := (Option.some.inj (Tryd.func5.symm.trans hfn)).symm
      exact ⟨by kernel_rfl, fun j t ht => by
        rw [Tryd.params5] at ht
        have hm : t ∈ [5, 5, 52] := by simpa using Array.mem_of_getElem? ht
        have hall : ([5, 5, 52].all fun u => !Tryd.prog.wantsStandIn u) = true := by kernel_rfl
        exact (show Tryd.prog.wantsStandIn t = false by simpa using List.all_eq_true.1 hall t hm)⟩)
    (by kernel_rfl)
end Go.Proofs.YtflnocgahdlojaaDoor.gridPlays
