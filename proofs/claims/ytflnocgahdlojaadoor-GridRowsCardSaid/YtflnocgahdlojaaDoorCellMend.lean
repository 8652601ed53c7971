/-
  The reference's Mend.
-/
import Derived.Test.YtflnocgahdlojaaDoorCellRefRow
import Derived.Test.YtflnocgahdlojaaDoorCellPure
import Derived.Maps.RangeWalk
namespace Go.Proofs.YtflnocgahdlojaaDoor
open Go.RowKit

theorem Vs.seven {w : World} {ad : Addr} {n : Nat} {P : List Pc} (h : Vs pcV w (some ad) n P) {k : Nat} (hk : k < n) : Six w (ad.add (k * 7)) (pAt P k).1 ∧ w.cell? ⟨(ad.add (k * 7)).block, (ad.add (k * 7)).off + 6, none⟩ = some (.int .i64 (pAt P k).2) := by
  have h1 := h.get pcV_len (getElem?_pAt (L := P) (k := k) (by rw [h.len]; exact hk))
  exact ⟨⟨by simpa [addZero] using h1 0 _ rfl, by simpa [addStep] using h1 1 _ rfl, by simpa [addStep] using h1 2 _ rfl, by simpa [addStep] using h1 3 _ rfl, by simpa [addStep] using h1 4 _ rfl, by simpa [addStep] using h1 5 _ rfl⟩, by simpa [addStep] using h1 6 _ rfl⟩
theorem Rw_drewN {α : Type} {f : α → List Value} {t : TypeId} {w : World} {g : Nat} {L : List α} (h : Rw f t w g L) (q : Nat) : Rw f t (w.drewN q) g L := h

/-- The row of the mended cells, after k rounds. -/
def mendK (P : List Pc) (k : Nat) : List Ce := (mendS P).take k ++ List.replicate (P.length - k) ce0
theorem mendK_len {P : List Pc} {k : Nat} (h : k ≤ P.length) : (mendK P k).length = P.length := by simp [mendK, mendS_length]; omega
theorem mendK_zero (P : List Pc) : mendK P 0 = List.replicate P.length ce0 := by simp [mendK]
theorem mendK_all (P : List Pc) : mendK P P.length = mendS P := by simp [mendK]; rw [List.take_of_length_le (by rw [mendS_length]; exact Nat.le_refl _)]
theorem mendK_set {P : List Pc} {k : Nat} {c : Ce} (hc : mendC P k = c) (h : k < P.length) : (mendK P k).set k c = mendK P (k + 1) := by
  refine row_ext (by rw [List.length_set, mendK_len (by omega), mendK_len (by omega)]) fun i hi => ?_
  rw [List.length_set, mendK_len (by omega)] at hi
  rw [cAt_set, mendK_len (by omega)]
  unfold mendK
  rw [cAt_append, cAt_append, List.length_take, List.length_take, mendS_length, Nat.min_eq_left (by omega), Nat.min_eq_left (by omega), cAt_take, cAt_take, cAt_replicate, cAt_replicate]
  by_cases e : i = k
  · subst e
    rw [if_pos ⟨rfl, hi⟩, if_pos (by omega), if_pos (by omega), cAt_mendS h, hc]
  · rw [if_neg (fun e2 => e e2.1)]
    by_cases e2 : i < k
    · rw [if_pos e2, if_pos e2, if_pos (by omega), if_pos (by omega)]
    · rw [if_neg e2, if_pos (by omega), if_neg (by omega), if_pos (by omega)]

set_option maxHeartbeats 6400000 in
set_option maxRecDepth 100000 in
theorem mend_any {w : World} {A : Option Addr} {n c : Nat} {P : List Pc} (h : Vs pcV w A n P) (hn : n ≤ 1000) (hf : ∀ i, i < n → -1000 ≤ (pAt P i).2 ∧ (pAt P i).2 ≤ 1000) :
    Calls Tryd.prog 72 #[.slice A n c] w (MadeC (mendS P) w) := by
  have hmk := make_any (P := Tryd.prog) 22 Tryd.underlying22 ce0 ceV_len (by omega) (b8 := 20) (by omega) infoCe3 n (by omega)
  obtain ⟨w0, hw0⟩ : ∃ w0, w0 = w.alloc (.cells (rowV ceV (List.replicate n ce0)).toArray 41) := ⟨_, rfl⟩
  obtain ⟨g, hge⟩ : ∃ g, g = w.heap.size := ⟨_, rfl⟩
  have H := Lib.hid (show Vs pcV w A n P ∧ Below w.heap.size w w0 ∧ Rw ceV 41 w0 g (mendK P 0) ∧ w.heap.size = g from by
    rw [mendK_zero, h.len, hw0, hge]
    exact ⟨h, (Below.refl _ _).alloc (Nat.le_refl _) _, made_rw w _ _, rfl⟩)
  have HL := Lib.hid (And.intro h.len hf)
  clear h hf
  go_enter Tryd.func72, Tryd.ntmps72
  go_upto_region 2 with fail
  rw [← hw0, ← hge]
  clear hw0 hge hmk
  go_wp2_with fail
  have HG := Lib.hid (show ∀ k, some g = some k → w.heap.size ≤ k from fun k e => by injection e with e; have := H.out.2.2.2; omega)
  go_loopw [10] (fun i wr => ∃ k : Nat, k ≤ n ∧ i = .int .i64 k ∧ Below w.heap.size w wr ∧ Rw ceV 41 wr g (mendK P k)) (fun i _ => n - (intOf i).toNat)
  case atStart => exact ⟨0, Nat.zero_le _, rfl, H.out.2.1, H.out.2.2.1⟩
  case round =>
    obtain ⟨k, hk, rfl, hbw, hRk⟩ := hrel
    by_cases hlt : k < n
    · have hkl : (k : Int) < (n : Int) := by omega
      obtain ⟨ad, rfl⟩ := H.out.1.addr (by omega)
      have HKN := Lib.hid (show k < P.length from by rw [HL.out.1]; exact hlt)
      have HKL := Lib.hid (show k < (mendK P k).length from by rw [mendK_len (by rw [HL.out.1]; exact hk), HL.out.1]; exact hlt)
      have hfx := HL.out.2 k hlt
      obtain ⟨x, hx⟩ : ∃ x, x = (pAt P k).1 := ⟨_, rfl⟩
      obtain ⟨fr, hfr⟩ : ∃ fr, fr = (pAt P k).2 := ⟨_, rfl⟩
      have HX := Lib.hid (And.intro hx hfr)
      rw [← hfr] at hfx
      obtain ⟨hf1, hf2⟩ := hfx
      have hadl : ad.block < wr.heap.size := (H.out.1.below hbw).lt (by omega)
      have hs := ((H.out.1.below hbw).seven hlt).1
      rw [← hx] at hs
      obtain ⟨z0, z1, z2, z3, z4, z5⟩ := hs
      have HA := Lib.hid (show ∀ wx, Below w.heap.size w wx → (wx.cell? ⟨(ad.add (k * 7)).block, (ad.add (k * 7)).off + 1, none⟩ = some (.int .u8 x.wd) ∧ wx.cell? ⟨(ad.add (k * 7)).block, (ad.add (k * 7)).off + 2, none⟩ = some (.int .u32 x.p.fg) ∧ wx.cell? ⟨(ad.add (k * 7)).block, (ad.add (k * 7)).off + 3, none⟩ = some (.int .u32 x.p.bg) ∧
          wx.cell? ⟨(ad.add (k * 7)).block, (ad.add (k * 7)).off + 4, none⟩ = some (.int .u8 x.p.st) ∧ wx.cell? ⟨(ad.add (k * 7)).block, (ad.add (k * 7)).off + 5, none⟩ = some (.int .u16 x.p.lk) ∧ wx.cell? ⟨(ad.add (k * 7)).block, (ad.add (k * 7)).off + 6, none⟩ = some (.int .i64 fr)) from fun wx hb => by
        obtain ⟨h1, h2⟩ := (H.out.1.below hb).seven hlt
        rw [← hx] at h1
        rw [← hfr] at h2
        exact ⟨h1.c1, h1.c2, h1.c3, h1.c4, h1.c5, h2⟩)
      have HBel := Lib.hid (show ∀ w1, wr.grownBy w1 (some g) → Below w.heap.size w w1 from fun w1 hg => Below.grown hbw hg hbw.size HG.out)
      clear hx hfr hbw
      by_cases hw1 : x.wd = 1
      · have HW := Lib.hid hw1
        rw [hw1] at z1
        have HA1 := HA
        have HA := Lib.hid (fun wx hb => by have h := HA1.out wx hb; rw [HW.out] at h; exact h)
        clear HA1
        have HV := Lib.hid (show (#[.int .i32 x.r, .int .u8 1, .int .u32 x.p.fg, .int .u32 x.p.bg, .int .u8 x.p.st, .int .u16 x.p.lk] : Array Value).toList = ceV x from by unfold ceV; rw [hw1])
        clear hw1
        by_cases hlast : k + 1 = n
        · have hl1 : ((k : Int) == (n : Int) - 1) = true := by simp; omega
          have HC := Lib.hid (show mendC P k = blankS x.p from by unfold mendC; rw [if_pos (by unfold torn; rw [← HX.out.1, HL.out.1, decide_eq_true_eq]; exact .inl ⟨HW.out, .inl hlast⟩), ← HX.out.1])
          clear hlast
          go_wp2_with (refine wpList_store_V rfl 41 (.tmp 20) (.tmp 19) rfl ceV_len one_ce infoCe g _ k x _ rfl rfl rfl HV.out 41 _ hRk HKL.out ?_; intro w1 hR1 hg1; have hb1 := HBel.out _ hg1; obtain ⟨a1, a2, a3, a4, a5, a6⟩ := HA.out _ hb1)
          clear hRk hg1
          go_quiet (fail)
          go_wp2_with fail
          refine (refBlank_any x.p _).mono ?_
          rintro e w2 ⟨rfl, hb⟩
          have hR2 := (show Rw ceV 41 (w1.drewN nq) g _ from hR1).below hb
          have hb2 := (belowN hb1 nq).trans (hb.mono (belowN hb1 nq).size)
          clear a1 a2 a3 a4 a5 a6 hb hb1 hR1
          obtain ⟨a1, a2, a3, a4, a5, a6⟩ := HA.out _ hb2
          go_wp2_with (refine wpList_store_V rfl 41 (.tmp 69) (.tmp 68) rfl ceV_len one_ce infoCe g _ k (blankS x.p) _ rfl rfl rfl rfl 41 _ hR2 (by rw [List.length_set]; exact HKL.out) ?_; intro w3 hR3 hg3; have hb3 := Below.grown hb2 hg3 hb2.size HG.out; clear hb2; obtain ⟨a1, a2, a3, a4, a5, a6⟩ := HA.out _ hb3)
          have HZ := Lib.hid (show ∀ q, Below w.heap.size w (w3.drewN q) ∧ Rw ceV 41 (w3.drewN q) g (mendK P (k + 1)) from fun q => ⟨belowN hb3 q, by rw [List.set_set, mendK_set HC.out HKN.out] at hR3; exact hR3⟩)
          clear hR3 hg3 hR2 hb3
          go_frame
          go_quiet (fail)
          go_wp2_with fail
          go_roundw
          case rel => exact ⟨k + 1, by omega, by go_num, HZ.out _⟩
          case measure => simp [intOf]; omega
        · have hl1 : ((k : Int) == (n : Int) - 1) = false := by simp; omega
          have hl3 : k + 1 < n := by omega
          have hl4 : (0 : Int) ≤ (k : Int) + 1 := by omega
          have hl2 : (k : Int) + 1 < (n : Int) := by omega
          have hl5 : ((k : Int) + 1).toNat = k + 1 := by omega
          obtain ⟨y, hy⟩ : ∃ y, y = (pAt P (k + 1)).1 := ⟨_, rfl⟩
          obtain ⟨fy, hfy⟩ : ∃ fy, fy = (pAt P (k + 1)).2 := ⟨_, rfl⟩
          have HY := Lib.hid (show y = (pAt P (k + 1)).1 ∧ fy = (pAt P (k + 1)).2 ∧ k + 1 ≠ P.length from ⟨hy, hfy, by rw [HL.out.1]; exact hlast⟩)
          have HBn := Lib.hid (show ∀ wx, Below w.heap.size w wx → (wx.cell? ⟨(ad.add ((k + 1) * 7)).block, (ad.add ((k + 1) * 7)).off + 1, none⟩ = some (.int .u8 y.wd) ∧ wx.cell? ⟨(ad.add ((k + 1) * 7)).block, (ad.add ((k + 1) * 7)).off + 6, none⟩ = some (.int .i64 fy)) from fun wx hb => by
            obtain ⟨h1, h2⟩ := (H.out.1.below hb).seven hl3
            rw [← hy] at h1
            rw [← hfy] at h2
            exact ⟨h1.c1, h2⟩)
          clear hy hfy hlast hl3
          by_cases hy2 : y.wd = 2
          · have HB2 := Lib.hid (fun wx hb => by have h := HBn.out wx hb; rw [hy2] at h; exact h)
            have HY2 := Lib.hid hy2
            clear hy2 HBn
            by_cases hfe : fy = fr + 1
            · have hne : (fy != fr + 1) = false := by simpa using hfe
              have HC := Lib.hid (show mendC P k = x from by unfold mendC; rw [if_neg (by unfold torn; rw [← HX.out.1, ← HX.out.2, ← HY.out.1, ← HY.out.2.1, decide_eq_true_eq]; rintro (⟨_, e | e | e⟩ | ⟨e, _⟩); exact HY.out.2.2 e; exact e HY2.out; exact e hfe; rw [HW.out] at e; cases e), ← HX.out.1])
              clear hfe
              go_wp2_with (refine wpList_store_V rfl 41 (.tmp 20) (.tmp 19) rfl ceV_len one_ce infoCe g _ k x _ rfl rfl rfl HV.out 41 _ hRk HKL.out ?_; intro w1 hR1 hg1; have hb1 := HBel.out _ hg1; obtain ⟨a1, a2, a3, a4, a5, a6⟩ := HA.out _ hb1; obtain ⟨b1, b6⟩ := HB2.out _ hb1)
              clear hRk hg1
              go_quiet (fail)
              have HZ := Lib.hid (show ∀ q, Below w.heap.size w (w1.drewN q) ∧ Rw ceV 41 (w1.drewN q) g (mendK P (k + 1)) from fun q => ⟨belowN hb1 q, by rw [mendK_set HC.out HKN.out] at hR1; exact hR1⟩)
              clear hR1 hb1
              go_wp2_with fail
              go_quiet (fail)
              go_wp2_with fail
              go_roundw
              case rel => exact ⟨k + 1, by omega, by go_num, HZ.out _⟩
              case measure => simp [intOf]; omega
            · have hne : (fy != fr + 1) = true := by simpa using hfe
              have HC := Lib.hid (show mendC P k = blankS x.p from by unfold mendC; rw [if_pos (by unfold torn; rw [← HX.out.1, ← HX.out.2, ← HY.out.1, ← HY.out.2.1, decide_eq_true_eq]; exact .inl ⟨HW.out, .inr (.inr hfe)⟩), ← HX.out.1])
              clear hfe
              go_wp2_with (refine wpList_store_V rfl 41 (.tmp 20) (.tmp 19) rfl ceV_len one_ce infoCe g _ k x _ rfl rfl rfl HV.out 41 _ hRk HKL.out ?_; intro w1 hR1 hg1; have hb1 := HBel.out _ hg1; obtain ⟨a1, a2, a3, a4, a5, a6⟩ := HA.out _ hb1; obtain ⟨b1, b6⟩ := HB2.out _ hb1)
              clear hRk hg1
              go_quiet (fail)
              go_wp2_with fail
              refine (refBlank_any x.p _).mono ?_
              rintro e w2 ⟨rfl, hb⟩
              have hR2 := (show Rw ceV 41 (w1.drewN nq) g _ from hR1).below hb
              have hb2 := (belowN hb1 nq).trans (hb.mono (belowN hb1 nq).size)
              clear a1 a2 a3 a4 a5 a6 hb hb1 hR1
              obtain ⟨a1, a2, a3, a4, a5, a6⟩ := HA.out _ hb2
              go_wp2_with (refine wpList_store_V rfl 41 (.tmp 69) (.tmp 68) rfl ceV_len one_ce infoCe g _ k (blankS x.p) _ rfl rfl rfl rfl 41 _ hR2 (by rw [List.length_set]; exact HKL.out) ?_; intro w3 hR3 hg3; have hb3 := Below.grown hb2 hg3 hb2.size HG.out; clear hb2; obtain ⟨a1, a2, a3, a4, a5, a6⟩ := HA.out _ hb3)
              have HZ := Lib.hid (show ∀ q, Below w.heap.size w (w3.drewN q) ∧ Rw ceV 41 (w3.drewN q) g (mendK P (k + 1)) from fun q => ⟨belowN hb3 q, by rw [List.set_set, mendK_set HC.out HKN.out] at hR3; exact hR3⟩)
              clear hR3 hg3 hR2 hb3
              go_frame
              go_quiet (fail)
              go_wp2_with fail
              go_roundw
              case rel => exact ⟨k + 1, by omega, by go_num, HZ.out _⟩
              case measure => simp [intOf]; omega
          · have hy3 : (y.wd != 2) = true := by simpa using hy2
            have HC := Lib.hid (show mendC P k = blankS x.p from by unfold mendC; rw [if_pos (by unfold torn; rw [← HX.out.1, ← HY.out.1, decide_eq_true_eq]; exact .inl ⟨HW.out, .inr (.inl hy2)⟩), ← HX.out.1])
            clear hy2
            go_wp2_with (refine wpList_store_V rfl 41 (.tmp 20) (.tmp 19) rfl ceV_len one_ce infoCe g _ k x _ rfl rfl rfl HV.out 41 _ hRk HKL.out ?_; intro w1 hR1 hg1; have hb1 := HBel.out _ hg1; obtain ⟨a1, a2, a3, a4, a5, a6⟩ := HA.out _ hb1; obtain ⟨b1, b6⟩ := HBn.out _ hb1)
            clear hRk hg1
            go_quiet (fail)
            go_wp2_with fail
            refine (refBlank_any x.p _).mono ?_
            rintro e w2 ⟨rfl, hb⟩
            have hR2 := (show Rw ceV 41 (w1.drewN nq) g _ from hR1).below hb
            have hb2 := (belowN hb1 nq).trans (hb.mono (belowN hb1 nq).size)
            clear a1 a2 a3 a4 a5 a6 hb hb1 hR1
            obtain ⟨a1, a2, a3, a4, a5, a6⟩ := HA.out _ hb2
            go_wp2_with (refine wpList_store_V rfl 41 (.tmp 69) (.tmp 68) rfl ceV_len one_ce infoCe g _ k (blankS x.p) _ rfl rfl rfl rfl 41 _ hR2 (by rw [List.length_set]; exact HKL.out) ?_; intro w3 hR3 hg3; have hb3 := Below.grown hb2 hg3 hb2.size HG.out; clear hb2; obtain ⟨a1, a2, a3, a4, a5, a6⟩ := HA.out _ hb3)
            have HZ := Lib.hid (show ∀ q, Below w.heap.size w (w3.drewN q) ∧ Rw ceV 41 (w3.drewN q) g (mendK P (k + 1)) from fun q => ⟨belowN hb3 q, by rw [List.set_set, mendK_set HC.out HKN.out] at hR3; exact hR3⟩)
            clear hR3 hg3 hR2 hb3
            go_frame
            go_quiet (fail)
            go_wp2_with fail
            go_roundw
            case rel => exact ⟨k + 1, by omega, by go_num, HZ.out _⟩
            case measure => simp [intOf]; omega
      · by_cases hw2 : x.wd = 2
        · have HW := Lib.hid hw2
          rw [hw2] at z1
          have HA1 := HA
          have HA := Lib.hid (fun wx hb => by have h := HA1.out wx hb; rw [HW.out] at h; exact h)
          clear HA1
          have HV := Lib.hid (show (#[.int .i32 x.r, .int .u8 2, .int .u32 x.p.fg, .int .u32 x.p.bg, .int .u8 x.p.st, .int .u16 x.p.lk] : Array Value).toList = ceV x from by unfold ceV; rw [hw2])
          clear hw1 hw2
          by_cases h0 : k = 0
          · have hk0 : ((k : Int) == 0) = true := by simp; omega
            have HC := Lib.hid (show mendC P k = blankS x.p from by unfold mendC; rw [if_pos (by unfold torn; rw [← HX.out.1, decide_eq_true_eq]; exact .inr ⟨HW.out, .inl h0⟩), ← HX.out.1])
            clear h0
            go_wp2_with (refine wpList_store_V rfl 41 (.tmp 20) (.tmp 19) rfl ceV_len one_ce infoCe g _ k x _ rfl rfl rfl HV.out 41 _ hRk HKL.out ?_; intro w1 hR1 hg1; have hb1 := HBel.out _ hg1; obtain ⟨a1, a2, a3, a4, a5, a6⟩ := HA.out _ hb1)
            clear hRk hg1
            go_quiet (fail)
            go_wp2_with fail
            go_quiet (fail)
            go_wp2_with fail
            refine (refBlank_any x.p _).mono ?_
            rintro e w2 ⟨rfl, hb⟩
            have hR2 := Rw.below (Rw_drewN hR1 _) hb
            have hb2 := (belowN hb1 _).trans (hb.mono (belowN hb1 _).size)
            clear a1 a2 a3 a4 a5 a6 hb hb1 hR1
            go_wp2_with (refine wpList_store_V rfl 41 (.tmp 115) (.tmp 114) rfl ceV_len one_ce infoCe g _ k (blankS x.p) _ rfl rfl rfl rfl 41 _ hR2 (by rw [List.length_set]; exact HKL.out) ?_; intro w3 hR3 hg3; have hb3 := Below.grown hb2 hg3 hb2.size HG.out)
            have HZ := Lib.hid (show Below w.heap.size w w3 ∧ Rw ceV 41 w3 g (mendK P (k + 1)) from ⟨hb3, by rw [List.set_set, mendK_set HC.out HKN.out] at hR3; exact hR3⟩)
            clear hR3 hg3 hR2 hb3 hb2
            go_wp2_with fail
            go_roundw
            case rel => exact ⟨k + 1, by omega, by go_num, HZ.out⟩
            case measure => simp [intOf]; omega
          · have hk0 : ((k : Int) == 0) = false := by simp; omega
            have hk1 : 0 ≤ (k : Int) - 1 := by omega
            have hk2 : ((k : Int) - 1).toNat = k - 1 := by omega
            have hk3 : (k : Int) - 1 < (n : Int) := by omega
            obtain ⟨y, hy⟩ : ∃ y, y = (pAt P (k - 1)).1 := ⟨_, rfl⟩
            obtain ⟨fy, hfy⟩ : ∃ fy, fy = (pAt P (k - 1)).2 := ⟨_, rfl⟩
            have HY := Lib.hid (show y = (pAt P (k - 1)).1 ∧ fy = (pAt P (k - 1)).2 ∧ k ≠ 0 from ⟨hy, hfy, h0⟩)
            have HBn := Lib.hid (show ∀ wx, Below w.heap.size w wx → (wx.cell? ⟨(ad.add ((k - 1) * 7)).block, (ad.add ((k - 1) * 7)).off + 1, none⟩ = some (.int .u8 y.wd) ∧ wx.cell? ⟨(ad.add ((k - 1) * 7)).block, (ad.add ((k - 1) * 7)).off + 6, none⟩ = some (.int .i64 fy)) from fun wx hb => by
              obtain ⟨h1, h2⟩ := (H.out.1.below hb).seven (k := k - 1) (by omega)
              rw [← hy] at h1
              rw [← hfy] at h2
              exact ⟨h1.c1, h2⟩)
            clear hy hfy h0
            by_cases hy1 : y.wd = 1
            · have HB2 := Lib.hid (fun wx hb => by have h := HBn.out wx hb; rw [hy1] at h; exact h)
              have HY2 := Lib.hid hy1
              clear hy1 HBn
              by_cases hfe : fy = fr - 1
              · have hne : (fy != fr - 1) = false := by simpa using hfe
                have HC := Lib.hid (show mendC P k = x from by unfold mendC; rw [if_neg (by unfold torn; rw [← HX.out.1, ← HX.out.2, ← HY.out.1, ← HY.out.2.1, decide_eq_true_eq]; rintro (⟨e, _⟩ | ⟨_, e | e | e⟩); rw [HW.out] at e; cases e; exact HY.out.2.2 e; exact e HY2.out; exact e hfe), ← HX.out.1])
                clear hfe
                go_wp2_with (refine wpList_store_V rfl 41 (.tmp 20) (.tmp 19) rfl ceV_len one_ce infoCe g _ k x _ rfl rfl rfl HV.out 41 _ hRk HKL.out ?_; intro w1 hR1 hg1; have hb1 := HBel.out _ hg1; obtain ⟨a1, a2, a3, a4, a5, a6⟩ := HA.out _ hb1; obtain ⟨b1, b6⟩ := HB2.out _ hb1)
                clear hRk hg1
                go_quiet (fail)
                have HZ := Lib.hid (show ∀ q, Below w.heap.size w (w1.drewN q) ∧ Rw ceV 41 (w1.drewN q) g (mendK P (k + 1)) from fun q => ⟨belowN hb1 q, by rw [mendK_set HC.out HKN.out] at hR1; exact hR1⟩)
                clear hR1 hb1
                go_wp2_with fail
                go_quiet (fail)
                go_wp2_with fail
                go_roundw
                case rel => exact ⟨k + 1, by omega, by go_num, HZ.out _⟩
                case measure => simp [intOf]; omega
              · have hne : (fy != fr - 1) = true := by simpa using hfe
                have HC := Lib.hid (show mendC P k = blankS x.p from by unfold mendC; rw [if_pos (by unfold torn; rw [← HX.out.1, ← HX.out.2, ← HY.out.1, ← HY.out.2.1, decide_eq_true_eq]; exact .inr ⟨HW.out, .inr (.inr hfe)⟩), ← HX.out.1])
                clear hfe
                go_wp2_with (refine wpList_store_V rfl 41 (.tmp 20) (.tmp 19) rfl ceV_len one_ce infoCe g _ k x _ rfl rfl rfl HV.out 41 _ hRk HKL.out ?_; intro w1 hR1 hg1; have hb1 := HBel.out _ hg1; obtain ⟨a1, a2, a3, a4, a5, a6⟩ := HA.out _ hb1; obtain ⟨b1, b6⟩ := HB2.out _ hb1)
                clear hRk hg1
                go_quiet (fail)
                go_wp2_with fail
                go_quiet (fail)
                go_wp2_with fail
                refine (refBlank_any x.p _).mono ?_
                rintro e w2 ⟨rfl, hb⟩
                have hR2 := Rw.below (Rw_drewN hR1 _) hb
                have hb2 := (belowN hb1 _).trans (hb.mono (belowN hb1 _).size)
                clear a1 a2 a3 a4 a5 a6 hb hb1 hR1
                go_wp2_with (refine wpList_store_V rfl 41 (.tmp 115) (.tmp 114) rfl ceV_len one_ce infoCe g _ k (blankS x.p) _ rfl rfl rfl rfl 41 _ hR2 (by rw [List.length_set]; exact HKL.out) ?_; intro w3 hR3 hg3; have hb3 := Below.grown hb2 hg3 hb2.size HG.out)
                have HZ := Lib.hid (show Below w.heap.size w w3 ∧ Rw ceV 41 w3 g (mendK P (k + 1)) from ⟨hb3, by rw [List.set_set, mendK_set HC.out HKN.out] at hR3; exact hR3⟩)
                clear hR3 hg3 hR2 hb3 hb2
                go_wp2_with fail
                go_roundw
                case rel => exact ⟨k + 1, by omega, by go_num, HZ.out⟩
                case measure => simp [intOf]; omega
            · have hy3 : (y.wd != 1) = true := by simpa using hy1
              have HC := Lib.hid (show mendC P k = blankS x.p from by unfold mendC; rw [if_pos (by unfold torn; rw [← HX.out.1, ← HY.out.1, decide_eq_true_eq]; exact .inr ⟨HW.out, .inr (.inl hy1)⟩), ← HX.out.1])
              clear hy1
              go_wp2_with (refine wpList_store_V rfl 41 (.tmp 20) (.tmp 19) rfl ceV_len one_ce infoCe g _ k x _ rfl rfl rfl HV.out 41 _ hRk HKL.out ?_; intro w1 hR1 hg1; have hb1 := HBel.out _ hg1; obtain ⟨a1, a2, a3, a4, a5, a6⟩ := HA.out _ hb1; obtain ⟨b1, b6⟩ := HBn.out _ hb1)
              clear hRk hg1
              go_quiet (fail)
              go_wp2_with fail
              go_quiet (fail)
              go_wp2_with fail
              refine (refBlank_any x.p _).mono ?_
              rintro e w2 ⟨rfl, hb⟩
              have hR2 := Rw.below (Rw_drewN hR1 _) hb
              have hb2 := (belowN hb1 _).trans (hb.mono (belowN hb1 _).size)
              clear a1 a2 a3 a4 a5 a6 hb hb1 hR1
              go_wp2_with (refine wpList_store_V rfl 41 (.tmp 115) (.tmp 114) rfl ceV_len one_ce infoCe g _ k (blankS x.p) _ rfl rfl rfl rfl 41 _ hR2 (by rw [List.length_set]; exact HKL.out) ?_; intro w3 hR3 hg3; have hb3 := Below.grown hb2 hg3 hb2.size HG.out)
              have HZ := Lib.hid (show Below w.heap.size w w3 ∧ Rw ceV 41 w3 g (mendK P (k + 1)) from ⟨hb3, by rw [List.set_set, mendK_set HC.out HKN.out] at hR3; exact hR3⟩)
              clear hR3 hg3 hR2 hb3 hb2
              go_wp2_with fail
              go_roundw
              case rel => exact ⟨k + 1, by omega, by go_num, HZ.out⟩
              case measure => simp [intOf]; omega
        · have HV := Lib.hid (show (#[.int .i32 x.r, .int .u8 x.wd, .int .u32 x.p.fg, .int .u32 x.p.bg, .int .u8 x.p.st, .int .u16 x.p.lk] : Array Value).toList = ceV x from rfl)
          have t1 : (x.wd == 1) = false := by simpa using hw1
          have t2 : (x.wd == 2) = false := by simpa using hw2
          have HC := Lib.hid (show mendC P k = x from by unfold mendC; rw [if_neg (by unfold torn; rw [← HX.out.1, decide_eq_true_eq]; rintro (⟨e, _⟩ | ⟨e, _⟩); exact hw1 e; exact hw2 e), ← HX.out.1])
          clear hw1 hw2
          go_wp2_with (refine wpList_store_V rfl 41 (.tmp 20) (.tmp 19) rfl ceV_len one_ce infoCe g _ k x _ rfl rfl rfl HV.out 41 _ hRk HKL.out ?_; intro w1 hR1 hg1; have hb1 := HBel.out _ hg1; obtain ⟨a1, a2, a3, a4, a5, a6⟩ := HA.out _ hb1)
          clear hRk hg1
          go_quiet (fail)
          have HZ := Lib.hid (show ∀ q, Below w.heap.size w (w1.drewN q) ∧ Rw ceV 41 (w1.drewN q) g (mendK P (k + 1)) from fun q => ⟨belowN hb1 q, by rw [mendK_set HC.out HKN.out] at hR1; exact hR1⟩)
          clear hR1 hb1
          go_wp2_with fail
          go_quiet (fail)
          go_wp2_with fail
          go_roundw
          case rel => exact ⟨k + 1, by omega, by go_num, HZ.out _⟩
          case measure => simp [intOf]; omega
    · obtain rfl : k = n := by omega
      have HP : Hid (MadeC (mendS P) w (.returned (.slice (some ⟨g, 0, none⟩) k k)) wr) := by
        rw [← HL.out.1, mendK_all] at hRk
        exact ⟨hbw, g, k, by rw [mendS_length, HL.out.1], by have := H.out.2.2.2; omega, by rw [mendS_length, HL.out.1]; exact Nat.le_refl _, by unfold maxLen; omega, hRk⟩
      clear hRk hbw
      go_wp2_with fail
      go_ret
      exact HP.out
end Go.Proofs.YtflnocgahdlojaaDoor
