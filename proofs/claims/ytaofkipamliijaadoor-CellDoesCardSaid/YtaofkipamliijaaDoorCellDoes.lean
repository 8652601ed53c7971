/-
  Proved: CellDoes answers true for every row and every call, over the table that the program lays (a tied card).
-/
import Derived.Test.YtaofkipamliijaaDoorOpen
import Derived.Test.YtaofkipamliijaaDoorCards
import Derived.Test.YtaofkipamliijaaDoorTie
import Derived.SevenTiedAt
import Derived.Test.YtaofkipamliijaaDoorCellTab
import Derived.Test.YtaofkipamliijaaDoorCellIn
import Derived.Test.YtaofkipamliijaaDoorCellFixed
import Derived.Test.YtaofkipamliijaaDoorCellWant
import Derived.WalkKit
namespace Go.Proofs.YtaofkipamliijaaDoor.cellDoes
open Go.ChangeShapes Go.WideShapes Go.ChangeAt Go.RowKit

/-- A rune stored into a row. -/
theorem rw_setR {w : World} {t : TypeId} {g : Nat} {M : List Ce} (h : Rw ceV t w g M) {k : Nat} (hk : k < M.length) (z : Int) : Rw ceV t (w.setCell ⟨g, k * 6, none⟩ (.int .i32 z)) g (M.set k ⟨z, (cAt M k).wd, (cAt M k).p⟩) := by
  obtain ⟨rest, h⟩ := h
  refine ⟨rest, ?_⟩
  rw [heap_setCell_same w _ _ _ _ _ h]
  congr 1
  rw [List.setIfInBounds_toArray]
  congr 1
  have hl := rowV_len ceV_len M
  rw [List.set_append_left _ _ (by omega)]
  congr 1
  have e1 : M = M.take k ++ (cAt M k :: M.drop (k + 1)) := by rw [cAt_lt hk, ← List.drop_eq_getElem_cons hk, List.take_append_drop]
  have e2 : M.set k ⟨z, (cAt M k).wd, (cAt M k).p⟩ = M.take k ++ (⟨z, (cAt M k).wd, (cAt M k).p⟩ :: M.drop (k + 1)) := by rw [List.set_eq_take_append_cons_drop, if_pos hk]
  rw [e2]
  conv => lhs; rw [e1]
  rw [rowV_append, rowV_append, List.set_append_right _ _ (by rw [rowV_len ceV_len, List.length_take]; have : min k M.length = k := Nat.min_eq_left (by omega); omega)]
  congr 1
  rw [rowV_len ceV_len, List.length_take, Nat.min_eq_left (by omega), Nat.sub_self]
  simp [rowV, ceV]
theorem grown_setC {a w : World} {g : Nat} (h : a.grownBy w (some g)) (k : Nat) (u : Value) : a.grownBy (w.setCell ⟨g, k, none⟩ u) (some g) :=
  ⟨h.os, h.tape, h.output, by simpa [World.setCell] using h.size, fun i hi hne => (heap_setCell_other w _ i u (fun e => hne (by rw [e]))).trans (h.block i hi hne)⟩

set_option maxHeartbeats 3200000 in
set_option maxRecDepth 100000 in
/-- The walk. -/
theorem walk {A : Option Addr} {n c : Nat} {L : List Ce} {o : Op8} (w : World) (hT : Tabs w) (hs : Vs ceV w A n L ∧ n ≤ c ∧ c ≤ maxLen) (_ : OpOk o) :
    Calls Tryd.prog 4 #[.slice A n c, .agg (opA o)] w fun e w' => e = .returned (.bool true) ∧ Below w.heap.size w w' := by
  obtain ⟨hv, hc1, hc2⟩ := hs
  unfold maxLen at hc2
  obtain ⟨w0, hw0⟩ : ∃ w0, w0 = w.alloc (.cells (opA o) 39) := ⟨_, rfl⟩
  obtain ⟨b, hbe⟩ : ∃ b, b = w.heap.size := ⟨_, rfl⟩
  have H := Lib.hid (show Below w.heap.size w w0 ∧ Tabs w0 ∧ Vs ceV w0 A n L ∧ Op8c w0 b o ∧ b < w0.heap.size from by
    have h1 : Below w.heap.size w (w.alloc (.cells (opA o) 39)) := (Below.refl _ _).alloc (Nat.le_refl _) _
    rw [hw0, hbe]
    exact ⟨h1, hT.below h1 (Nat.le_refl _), hv.alloc _, op8_new w o _, by simp⟩)
  have HL := Lib.hid hv.len
  clear hv hT
  unfold opA at hw0
  go_enter Tryd.func4, Tryd.ntmps4
  unfold opA
  go_upto_region 1 with fail
  rw [← hw0, ← hbe]
  clear hw0 hbe
  by_cases hgo : n ≤ 1000 ∧ 0 ≤ o.k ∧ o.k ≤ 3
  · obtain ⟨hn, hk0, hk3⟩ := hgo
    have hn2 : (n : Int) ≤ 1000 := by omega
    obtain ⟨c0, c1, c2, c3, c4, c5, c6, c7⟩ := H.out.2.2.2.1
    go_wp2_with fail
    refine (copyC_any H.out.2.2.1 (by omega)).mono ?_
    rintro e w1 ⟨hb, g, c', rfl, hg, hk1, hk2, hR⟩
    rw [HL.out]
    have X := Lib.hid (show Below w.heap.size w w1 ∧ Tabs w1 ∧ Vs ceV w1 A n L ∧ Op8c w1 b o ∧ b < w1.heap.size ∧ Vs ceV w1 (some ⟨g, 0, none⟩) n L from by
      have h5 := hR.vs
      rw [HL.out] at h5
      exact ⟨H.out.1.trans (hb.mono H.out.1.size), H.out.2.1.below hb (Nat.le_refl _), H.out.2.2.1.below hb, H.out.2.2.2.1.below hb H.out.2.2.2.2, by have := hb.size; have := H.out.2.2.2.2; omega, h5⟩)
    clear hb hg hk1 hk2 hR H c0 c1 c2 c3 c4 c5 c6 c7
    obtain ⟨c0, c1, c2, c3, c4, c5, c6, c7⟩ := X.out.2.2.2.1
    have hkk : o.k = 0 ∨ o.k = 1 ∨ o.k = 2 ∨ o.k = 3 := by omega
    have HDO := Lib.hid (show Calls Tryd.prog 19 #[.slice (some ⟨g, 0, none⟩) n c', .agg #[.int .i64 o.k, .int .i64 o.x, .int .i64 o.n, .int .i32 o.r, .int .u32 o.p.fg, .int .u32 o.p.bg, .int .u8 o.p.st, .int .u16 o.p.lk]] w1 (OpPost (doS L o) (rowMay L && penMayS o.p) w1) from do_any o X.out.2.2.2.2.2 X.out.2.1 (by omega) hkk)
    have HW := Lib.hid (show ∀ w' : World, Vs ceV w' A n L → Calls Tryd.prog 20 #[.slice A n c, .agg #[.int .i64 o.k, .int .i64 o.x, .int .i64 o.n, .int .i32 o.r, .int .u32 o.p.fg, .int .u32 o.p.bg, .int .u8 o.p.st, .int .u16 o.p.lk]] w' (OpPost (doS L o) (rowMay L && penMayS o.p) w') from fun w' hv => want_any o hv (by omega) hkk)
    clear hkk
    obtain ⟨ok, hok⟩ : ∃ ok, (rowMay L && penMayS o.p) = ok := ⟨_, rfl⟩
    rw [hok] at HDO HW
    have HK := Lib.hid hok
    obtain ⟨M, hM⟩ : ∃ M, doS L o = M := ⟨_, rfl⟩
    rw [hM] at HDO HW
    have HML := Lib.hid (show ok = true → M.length ≤ 80 from fun e => by rw [← hM]; exact (do_ok (ok_row (hok.trans e)) o (by have h := hok.trans e; simp at h; exact h.2)).le)
    clear hok hM
    go_wp2_with fail
    refine HDO.out.mono ?_
    intro e w2 hp
    cases ok
    · obtain ⟨rfl, hb⟩ := hp.2 rfl
      have X2 := Lib.hid (show Below w.heap.size w w2 ∧ Tabs w2 ∧ Vs ceV w2 A n L ∧ Op8c w2 b o ∧ b < w2.heap.size ∧ Vs ceV w2 (some ⟨g, 0, none⟩) n L from ⟨X.out.1.trans (hb.mono X.out.1.size), X.out.2.1.below hb (Nat.le_refl _), X.out.2.2.1.below hb, X.out.2.2.2.1.below hb X.out.2.2.2.2.1, by have := hb.size; have := X.out.2.2.2.2.1; omega, X.out.2.2.2.2.2.below hb⟩)
      clear hp hb X c0 c1 c2 c3 c4 c5 c6 c7 HDO
      go_wp2_with fail
      refine (fixedC_any X2.out.2.1).mono ?_
      rintro e w3 ⟨rfl, hb⟩
      have X3 := Lib.hid (show Below w.heap.size w w3 ∧ Vs ceV w3 A n L ∧ Op8c w3 b o ∧ Vs ceV w3 (some ⟨g, 0, none⟩) n L from ⟨X2.out.1.trans (hb.mono X2.out.1.size), X2.out.2.2.1.below hb, X2.out.2.2.2.1.below hb X2.out.2.2.2.2.1, X2.out.2.2.2.2.2.below hb⟩)
      clear hb X2
      obtain ⟨c0, c1, c2, c3, c4, c5, c6, c7⟩ := X3.out.2.2.1
      go_wp2_with fail
      refine (HW.out w3 X3.out.2.1).mono ?_
      intro e w4 hp
      obtain ⟨rfl, hb⟩ := hp.2 rfl
      have X4 := Lib.hid (show Below w.heap.size w w4 ∧ Vs ceV w4 A n L ∧ Vs ceV w4 (some ⟨g, 0, none⟩) n L from ⟨X3.out.1.trans (hb.mono X3.out.1.size), X3.out.2.1.below hb, X3.out.2.2.2.below hb⟩)
      clear hp hb X3 c0 c1 c2 c3 c4 c5 c6 c7
      go_wp2_with fail
      refine (sameC_any (xs := []) (ys := []) (Vs.nil w4 none) (Vs.nil w4 none) (by omega) (by omega)).mono ?_
      rintro e w5 ⟨rfl, q5, rfl⟩
      rw [show decide (([] : List Ce) = []) = true from by simp]
      go_wp2_with fail
      go_loopw [39] (fun i wr => i = .int .i64 0 ∧ ∃ q, wr = w4.drewN q) (fun _ _ => 0)
      case atStart => exact ⟨rfl, _, rfl⟩
      case round =>
        obtain ⟨rfl, q, rfl⟩ := hrel
        go_wp2_with fail
        refine (sameC_any (X4.out.2.2.drewN q) (X4.out.2.1.drewN q) (by omega) (by omega)).mono ?_
        rintro e w6 ⟨rfl, q6, rfl⟩
        rw [show decide (L = L) = true from by simp]
        go_wp2_with fail
        go_ret
        exact ⟨rfl, belowN X4.out.1 _⟩
    · obtain ⟨hb, g2, k2, rfl, hg2, hk2, hm2, hR2⟩ := hp.1 rfl
      have hml := HML.out rfl
      obtain ⟨m, hm⟩ : ∃ m, m = M.length := ⟨_, rfl⟩
      rw [← hm] at hml hk2 ⊢
      have HM := Lib.hid hm
      have X2 := Lib.hid (show Below w.heap.size w w2 ∧ Tabs w2 ∧ Vs ceV w2 A n L ∧ Op8c w2 b o ∧ b < w2.heap.size ∧ Vs ceV w2 (some ⟨g, 0, none⟩) n L ∧ Rw ceV 28 w2 g2 M ∧ w1.heap.size ≤ g2 from ⟨X.out.1.trans (hb.mono X.out.1.size), X.out.2.1.below hb (Nat.le_refl _), X.out.2.2.1.below hb, X.out.2.2.2.1.below hb X.out.2.2.2.2.1, by have := hb.size; have := X.out.2.2.2.2.1; omega, X.out.2.2.2.2.2.below hb, hR2, hg2⟩)
      have HA := Lib.hid (show (∀ ad, A = some ad → 0 < n → some g2 ≠ some ad.block) ∧ (0 < n → g < g2) ∧ w.heap.size ≤ g2 from by
        refine ⟨fun ad e hn0 e2 => ?_, fun hn0 => ?_, Nat.le_trans X.out.1.size hg2⟩
        · injection e2 with e2
          have h := X.out.2.2.1
          rw [e] at h
          have := h.lt hn0
          omega
        · have := X.out.2.2.2.2.2.lt hn0
          have h2 : (⟨g, 0, none⟩ : Addr).block = g := rfl
          rw [h2] at this
          omega)
      clear hp hb X c0 c1 c2 c3 c4 c5 c6 c7 HDO hg2 hR2 hm
      go_wp2_with fail
      refine (fixedC_any X2.out.2.1).mono ?_
      rintro e w3 ⟨rfl, hb⟩
      have X3 := Lib.hid (show Below w.heap.size w w3 ∧ Vs ceV w3 A n L ∧ Op8c w3 b o ∧ Vs ceV w3 (some ⟨g, 0, none⟩) n L ∧ Rw ceV 28 w3 g2 M from ⟨X2.out.1.trans (hb.mono X2.out.1.size), X2.out.2.2.1.below hb, X2.out.2.2.2.1.below hb X2.out.2.2.2.2.1, X2.out.2.2.2.2.2.1.below hb, X2.out.2.2.2.2.2.2.1.below hb⟩)
      clear hb X2
      obtain ⟨c0, c1, c2, c3, c4, c5, c6, c7⟩ := X3.out.2.2.1
      go_wp2_with fail
      refine (HW.out w3 X3.out.2.1).mono ?_
      intro e w4 hp
      obtain ⟨hb, g4, k4, rfl, hg4, hk4, hm4, hR4⟩ := hp.1 rfl
      rw [← HM.out]
      have X4 := Lib.hid (show Below w.heap.size w w4 ∧ Vs ceV w4 A n L ∧ Vs ceV w4 (some ⟨g, 0, none⟩) n L ∧ Rw ceV 28 w4 g2 M ∧ Vs ceV w4 (some ⟨g4, 0, none⟩) m M from ⟨X3.out.1.trans (hb.mono X3.out.1.size), X3.out.2.1.below hb, X3.out.2.2.2.1.below hb, X3.out.2.2.2.2.below hb, by rw [HM.out]; exact hR4.vs⟩)
      clear hp hb X3 c0 c1 c2 c3 c4 c5 c6 c7 hg4 hk4 hm4 hR4
      have HV2 := Lib.hid (show Vs ceV w4 (some ⟨g2, 0, none⟩) m M from by rw [HM.out]; exact X4.out.2.2.2.1.vs)
      go_wp2_with fail
      refine (sameC_any HV2.out X4.out.2.2.2.2 (by omega) (by omega)).mono ?_
      rintro e w5 ⟨rfl, q5, rfl⟩
      rw [show decide (M = M) = true from by simp]
      go_wp2_with fail
      go_loopw [39] (fun i wr => ∃ (k : Nat) (M' : List Ce), k ≤ m ∧ i = .int .i64 k ∧ M'.length = m ∧ Rw ceV 28 wr g2 M' ∧ w4.grownBy wr (some g2)) (fun i _ => m - (intOf i).toNat)
      case atStart => exact ⟨0, M, Nat.zero_le _, rfl, HM.out.symm, X4.out.2.2.2.1, ⟨rfl, rfl, rfl, Nat.le_refl _, fun _ _ _ => rfl⟩⟩
      case round =>
        obtain ⟨k, M', hk, rfl, hl, hR, hgr⟩ := hrel
        have Z := Lib.hid (show M'.length = m ∧ Rw ceV 28 wr g2 M' ∧ w4.grownBy wr (some g2) from ⟨hl, hR, hgr⟩)
        clear hl hR hgr
        by_cases hlt : k < m
        · have hkl : (k : Int) < (m : Int) := by omega
          have h0 := (Z.out.2.1.six (k := k) (by rw [Z.out.1]; exact hlt)).1
          have hfz := Z.out.2.1.free (k * 6)
          have HS := Lib.hid (fun z : Int => rw_setR Z.out.2.1 (k := k) (by rw [Z.out.1]; exact hlt) z)
          have HG := Lib.hid (fun z : Int => grown_setC Z.out.2.2 (k * 6) (.int .i32 z))
          generalize cAt M' k = x at h0 HS
          go_wp2_with fail
          go_roundw
          case rel => exact ⟨k + 1, _, by omega, by go_num, by rw [List.length_set]; exact Z.out.1, HS.out _, HG.out _⟩
          case measure => simp [intOf]; omega
        · have hkm : k = m := by omega
          subst hkm
          have V1 := Lib.hid (show Vs ceV wr (some ⟨g, 0, none⟩) n L ∧ Vs ceV wr A n L ∧ Below w.heap.size w wr from ⟨X4.out.2.2.1.grown Z.out.2.2 (fun ad e hn0 e2 => by cases e; injection e2 with e2; have e3 : g2 = g := e2; have := HA.out.2.1 hn0; omega), X4.out.2.1.grown Z.out.2.2 HA.out.1, Below.grown X4.out.1 Z.out.2.2 X4.out.1.size (fun k hk => by injection hk with hk; have := HA.out.2.2; omega)⟩)
          go_wp2_with fail
          refine (sameC_any V1.out.1 V1.out.2.1 (by omega) (by omega)).mono ?_
          rintro e w6 ⟨rfl, q6, rfl⟩
          rw [show decide (L = L) = true from by simp]
          go_wp2_with fail
          go_ret
          exact ⟨rfl, belowN V1.out.2.2 _⟩
  · have hgo2 : 1000 < n ∨ o.k < 0 ∨ 3 < o.k := by omega
    obtain ⟨c0, c1, c2, c3, c4, c5, c6, c7⟩ := H.out.2.2.2.1
    clear c1 c2 c3 c4 c5 c6 c7 hgo
    rcases hgo2 with h1 | h1 | h1
    · have h2 : (1000 : Int) < (n : Int) := by omega
      go_wp2_with fail
      refine (fixedC_any H.out.2.1).mono ?_
      rintro e w3 ⟨rfl, hb⟩
      have X3 := Lib.hid (H.out.1.trans (hb.mono H.out.1.size))
      clear hb c0
      go_wp2_with fail
      go_ret
      exact ⟨rfl, X3.out⟩
    · by_cases h2 : (1000 : Int) < (n : Int)
      · go_wp2_with fail
        refine (fixedC_any H.out.2.1).mono ?_
        rintro e w3 ⟨rfl, hb⟩
        have X3 := Lib.hid (H.out.1.trans (hb.mono H.out.1.size))
        clear hb c0
        go_wp2_with fail
        go_ret
        exact ⟨rfl, X3.out⟩
      · have h3 : (n : Int) ≤ 1000 := by omega
        go_wp2_with fail
        refine (fixedC_any H.out.2.1).mono ?_
        rintro e w3 ⟨rfl, hb⟩
        have X3 := Lib.hid (H.out.1.trans (hb.mono H.out.1.size))
        clear hb c0
        go_wp2_with fail
        go_ret
        exact ⟨rfl, X3.out⟩
    · by_cases h2 : (1000 : Int) < (n : Int)
      · go_wp2_with fail
        refine (fixedC_any H.out.2.1).mono ?_
        rintro e w3 ⟨rfl, hb⟩
        have X3 := Lib.hid (H.out.1.trans (hb.mono H.out.1.size))
        clear hb c0
        go_wp2_with fail
        go_ret
        exact ⟨rfl, X3.out⟩
      · have h3 : (n : Int) ≤ 1000 := by omega
        have h4 : 0 ≤ o.k := by omega
        go_wp2_with fail
        refine (fixedC_any H.out.2.1).mono ?_
        rintro e w3 ⟨rfl, hb⟩
        have X3 := Lib.hid (H.out.1.trans (hb.mono H.out.1.size))
        clear hb c0
        go_wp2_with fail
        go_ret
        exact ⟨rfl, X3.out⟩

set_option maxRecDepth 100000 in
theorem lifted (os : Os) (started : os.Started) (H : Type) (enc : TypeId × Value → H) :
    ReturnsInHanded {} Tryd.checked os 4 .any (fun w args => (Rows.cellDoesSpec.pre enc Tryd.prog Tryd.f4 [] false w args ∧ laidMetH Tryd.prog laidL w) ∧ sizedMet enc Tryd.prog Tryd.f4 (OpenSpec.ofChange Rows.cellDoesSpec) false w args)
      (Rows.cellDoesSpec.post enc Tryd.prog Tryd.f4 false true false false) := by
  refine returnsInHanded_of_change_and (C := Tryd.checked) (X := fun w _ => laidMetH Tryd.prog laidL w) (fun _ _ _ hh h => h.of_heap hh) own started (by kernel_rfl) Tryd.func4
    (ChangeSpec.witness_shaped (enc := enc) (C := Tryd.checked) (os := os) (X := fun w _ => laidMetH Tryd.prog laidL w) false (World.laidAll Tryd.prog os laidL) #[.slice none 0 0, .agg #[.int .i64 0, .int .i64 0, .int .i64 0, .int .i32 0, .int .u32 0, .int .u32 0, .int .u8 0, .int .u16 0]] 8 (World.laidAll_os _ _ _) (start_shaped os) (by kernel_rfl) (by kernel_rfl) (by kernel_rfl) (start_met os _)) ?_
  intro W base args ds gs before hval0 hW _ hsz0 hL _
  have hsz : (DataW.weightsEach Tryd.prog (Tryd.f4.params.toList ++ Rows.cellDoesSpec.plain.varTypes Tryd.prog) (ds ++ gs)).all (· ≤ reachBytes) = true := hsz0
  clear hsz0
  have hval : ∀ (j : Nat) t v, Tryd.f4.params[j]? = some t → args[j]? = some v → Value.okWide Tryd.prog W .any base t v := hval0
  have hW' := hW
  obtain ⟨p, q, hA0, hV, rfl, _, _⟩ := hW
  have hA : DataW.TrodAll enc Tryd.prog W 0 (fun _ => true) true Tryd.f4.params.toList args.toList ds p := hA0
  rw [Tryd.params4] at hA hval hsz
  obtain ⟨v0, vs0, d0, ds0, p0, q0, hargs, rfl, rfl, h0, r0⟩ := trodAll_cons hA
  obtain ⟨v1, vs1, d1, ds1, p1, q1, rfl, rfl, rfl, h1, r1⟩ := trodAll_cons r0
  obtain ⟨rfl, rfl, rfl⟩ := trodAll_nil r1
  obtain rfl : args = #[v0, v1] := by cases args; simp_all
  obtain ⟨rfl, rfl⟩ := trodVars_none hV
  have lt0 : ∀ x ∈ p0, x.block < W.heap.size := by obtain ⟨m, hm⟩ := h0; exact DataW.trod_lt m _ _ _ hm
  obtain ⟨A0, n0, c0, L0, rfl, s0⟩ := open_cells (hval 0 29 v0 rfl rfl) h0
  have lt1 : ∀ x ∈ p1, x.block < W.heap.size := by obtain ⟨m, hm⟩ := h1; exact DataW.trod_lt m _ _ _ hm
  obtain ⟨o1, rfl, s1⟩ := open_op (hval 1 39 v1 rfl rfl) h1
  clear hA0 hval0
  refine (walk W (tabs_of_laid hL) s0 s1).mono fun e W' ⟨he, bel⟩ => ?_
  subst he
  exact ⟨_, rfl, _, _, _, [], _, [], hW', trodAll_mk1 (shut_bool Tryd.underlying4 _), (trodAll_cons_mk (Below.trod laidOut (by kernel_rfl) (of_decide_eq_true (by kernel_rfl)) h0 bel lt0) (trodAll_cons_mk (Below.trod laidOut (by kernel_rfl) (of_decide_eq_true (by kernel_rfl)) h1 bel lt1) trodAll_mk0)), rfl, bel.frame _, fun h => by cases h⟩

theorem over : Rows.cellDoesRow.holds Tryd.pinned (OpenSpec.ofChange Rows.cellDoesSpec) :=
  OpenClaim.holds_of_wide 4 Tryd.f4 rfl rfl rfl rfl rfl rfl rfl ⟨rfl, rfl, rfl, rfl, rfl⟩ rfl rfl rfl rfl rfl (by kernel_rfl) Tryd.func4 (by kernel_rfl)
    (of_decide_eq_true (by kernel_rfl)) (by unfold Func.isWrapper; first | (rw [if_pos (by decide +kernel)]; kernel_rfl) | (rw [if_neg (by decide +kernel)]; exact ⟨rfl, rfl⟩))
    (fun os started H enc _ => lifted os started H enc)

theorem proved : Rows.CellDoesCardSaid :=
  Claim7.holds_tied_plain_at .later [] [.data] true Rows.cellDoesCard.stood.harness false
    over (fun _ h => by cases h) (by kernel_rfl) (fun _ h => by cases h) cellDoes_row_tie rfl ⟨rfl, rfl⟩ (by kernel_rfl) rfl
    (fun f fn hf hfn => by
      obtain rfl : f = 4 := Option.some.inj ((show Tryd.prog.funcNamed "spyglass/spyglasslaw08.CellDoes" = some 4 by kernel_rfl).symm.trans hf) |>.symm
      obtain rfl : fn = Tryd.f4 := (Option.some.inj (Tryd.func4.symm.trans hfn)).symm
      exact ⟨by kernel_rfl, fun j t ht => by
        rw [Tryd.params4] at ht
        have hm : t ∈ [29, 39] := by simpa using Array.mem_of_getElem? ht
        have hall : ([29, 39].all fun u => !Tryd.prog.wantsStandIn u) = true := by kernel_rfl
        exact (show Tryd.prog.wantsStandIn t = false by simpa using List.all_eq_true.1 hall t hm)⟩)
    (by kernel_rfl)
end Go.Proofs.YtaofkipamliijaaDoor.cellDoes
