/-
  Proved: CellElse answers true for every row and every Put or Erase, over the table that the program lays (a tied card).
-/
import Derived.Test.YtaofkipamliijaaDoorOpen
import Derived.Test.YtaofkipamliijaaDoorCards
import Derived.Test.YtaofkipamliijaaDoorTie
import Derived.SevenTiedAt
import Derived.Test.YtaofkipamliijaaDoorCellTab
import Derived.Test.YtaofkipamliijaaDoorCellIn
import Derived.Test.YtaofkipamliijaaDoorCellFixed
import Derived.Test.YtaofkipamliijaaDoorCellRefRow
import Derived.Test.YtaofkipamliijaaDoorCellDo
import Derived.WalkKit
import Derived.Deep.RegionHeld3
namespace Go.Proofs.YtaofkipamliijaaDoor.cellElse
open Go.ChangeShapes Go.WideShapes Go.ChangeAt Go.RowKit

theorem put_len (L : List Ce) (x r : Int) (p : Pn) : (putS L x r p).length = L.length := by
  unfold putS
  simp only []
  split
  · rw [overS_length (by rw [cutS_length, cutS_length]; omega), cutS_length, cutS_length]
  · rfl
theorem erase_len (L : List Ce) (a b : Int) (p : Pn) : (eraseS L a b p).length = L.length := by
  unfold eraseS
  simp only []
  split
  · rw [overS_length (by rw [List.length_replicate, cutS_length, cutS_length]; omega), cutS_length, cutS_length]
  · rfl
theorem lett_le (r : Int) (p : Pn) : (lettS r p).length ≤ 2 := by unfold lettS; (repeat' split) <;> simp
/-- What Put was not asked to write at. -/
theorem put_else {L : List Ce} (h : RowOk L) (x r : Int) (p : Pn) {i : Nat} (hi : i < L.length) {F : Int} (hF : F = max (-5) (min x L.length))
    (hc : ((i : Int) < F ∧ ((i : Int) ≠ F - 1 ∨ (cAt L i).wd ≠ 1)) ∨ (F + 2 ≤ (i : Int) ∧ ((i : Int) ≠ F + 2 ∨ (cAt L i).wd ≠ 2))) : cAt (putS L x r p) i = cAt L i := by
  have hl := lett_le r p
  unfold putS
  simp only []
  split
  · rename_i hx
    rw [cAt_overS (by rw [cutS_length, cutS_length]; omega), if_neg (by omega), cut2 h (by omega) hi, if_neg (by omega)]
  · rfl
theorem erase_else {L : List Ce} (h : RowOk L) (a b : Int) (p : Pn) {i : Nat} (hi : i < L.length)
    (hc : ((i : Int) < a ∧ ((i : Int) ≠ a - 1 ∨ (cAt L i).wd ≠ 1)) ∨ (b ≤ (i : Int) ∧ ((i : Int) ≠ b ∨ (cAt L i).wd ≠ 2))) : cAt (eraseS L a b p) i = cAt L i := by
  unfold eraseS
  simp only []
  split
  · rename_i hx
    rw [cAt_overS (by rw [List.length_replicate, cutS_length, cutS_length]; omega), if_neg (by rw [List.length_replicate]; omega), cut2 h (by omega) hi, if_neg (by omega)]
  · rfl

set_option maxHeartbeats 6400000 in
set_option maxRecDepth 100000 in
/-- The loop: what was not to be written at is as it was. -/
theorem loop_facts {L M : List Ce} {F T : Int} (he : ∀ i, i < L.length → ((i : Int) < F ∧ ((i : Int) ≠ F - 1 ∨ (cAt L i).wd ≠ 1)) ∨ (T ≤ (i : Int) ∧ ((i : Int) ≠ T ∨ (cAt L i).wd ≠ 2)) → cAt M i = cAt L i) {i : Nat} (hi : i < L.length)
    (hc : ((i : Int) < F ∧ ((i : Int) ≠ F - 1 ∨ (cAt L i).wd ≠ 1)) ∨ (T ≤ (i : Int) ∧ ((i : Int) ≠ T ∨ (cAt L i).wd ≠ 2))) : cAt M i = cAt L i := he i hi hc
set_option maxHeartbeats 6400000 in
set_option maxRecDepth 100000 in
/-- The walk. -/
theorem walk {A : Option Addr} {n c : Nat} {L : List Ce} {o : Op8} (w : World) (hT : Tabs w) (hs : Vs ceV w A n L ∧ n ≤ c ∧ c ≤ maxLen) (ho : OpOk o) :
    Calls Tryd.prog 6 #[.slice A n c, .agg (opA o)] w fun e w' => e = .returned (.bool true) ∧ Below w.heap.size w w' := by
  obtain ⟨hv, hc1, hc2⟩ := hs
  unfold maxLen at hc2
  obtain ⟨w0, hw0⟩ : ∃ w0, w0 = w.alloc (.cells (opA o) 39) := ⟨_, rfl⟩
  obtain ⟨b, hbe⟩ : ∃ b, b = w.heap.size := ⟨_, rfl⟩
  have H := Lib.hid (show Below w.heap.size w w0 ∧ Tabs w0 ∧ Vs ceV w0 A n L ∧ Op8c w0 b o ∧ b < w0.heap.size from by
    have h1 : Below w.heap.size w (w.alloc (.cells (opA o) 39)) := (Below.refl _ _).alloc (Nat.le_refl _) _
    rw [hw0, hbe]
    exact ⟨h1, hT.below h1 (Nat.le_refl _), hv.alloc _, op8_new w o _, by simp⟩)
  have HL := Lib.hid hv.len
  have HO := Lib.hid ho
  clear hv hT ho
  unfold opA at hw0
  go_enter Tryd.func6, Tryd.ntmps6
  unfold opA
  go_upto_region 1 with fail
  rw [← hw0, ← hbe]
  clear hw0 hbe
  go_wp2_with fail
  refine (refRowMay_any H.out.2.2.1 (by omega)).mono ?_
  rintro e w1 ⟨rfl, hb⟩
  have X := Lib.hid (show Below w.heap.size w w1 ∧ Tabs w1 ∧ Vs ceV w1 A n L ∧ Op8c w1 b o ∧ b < w1.heap.size from ⟨H.out.1.trans (hb.mono H.out.1.size), H.out.2.1.below hb (Nat.le_refl _), H.out.2.2.1.below hb, H.out.2.2.2.1.below hb H.out.2.2.2.2, by have := hb.size; have := H.out.2.2.2.2; omega⟩)
  clear hb H
  obtain ⟨c0, c1, c2, c3, c4, c5, c6, c7⟩ := X.out.2.2.2.1
  by_cases hm : rowMay L = false
  · rw [hm]
    clear hm
    go_wp2_with fail
    refine (fixedC_any X.out.2.1).mono ?_
    rintro e w2 ⟨rfl, hb⟩
    have X2 := Lib.hid (X.out.1.trans (hb.mono X.out.1.size))
    clear hb c0 c1 c2 c3 c4 c5 c6 c7
    go_wp2_with fail
    go_ret
    exact ⟨rfl, X2.out⟩
  have hm' : rowMay L = true := by simpa using hm
  have HM := Lib.hid ((rowMay_iff L).1 hm')
  have HMM := Lib.hid hm'
  rw [hm']
  have hn80 : n ≤ 80 := by rw [← HL.out]; exact HM.out.le
  clear hm hm'
  go_wp2_with fail
  refine (refPenMay_any o.p _).mono ?_
  rintro e w2 ⟨rfl, hb⟩
  have X2 := Lib.hid (show Below w.heap.size w w2 ∧ Tabs w2 ∧ Vs ceV w2 A n L ∧ Op8c w2 b o ∧ b < w2.heap.size from ⟨X.out.1.trans (hb.mono X.out.1.size), X.out.2.1.below hb (Nat.le_refl _), X.out.2.2.1.below hb, X.out.2.2.2.1.below hb X.out.2.2.2.2, by have := hb.size; have := X.out.2.2.2.2; omega⟩)
  clear hb X c0 c1 c2 c3 c4 c5 c6 c7
  obtain ⟨c0, c1, c2, c3, c4, c5, c6, c7⟩ := X2.out.2.2.2.1
  by_cases hp : penMayS o.p = false
  · rw [hp]
    clear hp
    go_wp2_with fail
    refine (fixedC_any X2.out.2.1).mono ?_
    rintro e w3 ⟨rfl, hb⟩
    have X3 := Lib.hid (X2.out.1.trans (hb.mono X2.out.1.size))
    clear hb c0 c1 c2 c3 c4 c5 c6 c7
    go_wp2_with fail
    go_ret
    exact ⟨rfl, X3.out⟩
  have hp' : penMayS o.p = true := by simpa using hp
  have HK := Lib.hid (show (rowMay L && penMayS o.p) = true from by rw [HMM.out, hp']; rfl)
  rw [hp']
  clear hp hp'
  by_cases hk : o.k = 0 ∨ o.k = 1
  · have HD := Lib.hid (show (doS L o).length = n ∧ ∀ (F T : Int), (o.k = 0 → F = max (-5) (min o.x n) ∧ T = F + 2) → (o.k = 1 → F = o.x ∧ T = o.n) → ∀ i, i < L.length → ((i : Int) < F ∧ ((i : Int) ≠ F - 1 ∨ (cAt L i).wd ≠ 1)) ∨ (T ≤ (i : Int) ∧ ((i : Int) ≠ T ∨ (cAt L i).wd ≠ 2)) → cAt (doS L o) i = cAt L i from by
      rcases hk with h0 | h1
      · have e : doS L o = putS L o.x o.r o.p := by unfold doS; rw [if_pos h0]
        rw [e]
        refine ⟨by rw [put_len]; exact HL.out, fun F T h1 _ i hi hc => ?_⟩
        obtain ⟨h2, rfl⟩ := h1 h0
        exact put_else HM.out o.x o.r o.p hi (by rw [h2, HL.out]) hc
      · have e : doS L o = eraseS L o.x o.n o.p := by unfold doS; rw [if_neg (by omega), if_pos h1]
        rw [e]
        refine ⟨by rw [erase_len]; exact HL.out, fun F T _ h2 i hi hc => ?_⟩
        obtain ⟨rfl, rfl⟩ := h2 h1
        exact erase_else HM.out o.x o.n o.p hi hc)
    have hkk : o.k = 0 ∨ o.k = 1 ∨ o.k = 2 ∨ o.k = 3 := by omega
    have HDO := Lib.hid (do_any (c := c) o X2.out.2.2.1 X2.out.2.1 (by omega) hkk)
    obtain ⟨M, hMe⟩ : ∃ M, M = doS L o := ⟨_, rfl⟩
    rw [← hMe] at HD HDO
    clear hkk hMe
    have HX := Lib.hid (show -9223372036854775808 ≤ o.x ∧ o.x ≤ 9223372036854775807 ∧ -9223372036854775808 ≤ o.n ∧ o.n ≤ 9223372036854775807 from ⟨HO.out.x0, HO.out.x1, HO.out.n0, HO.out.n1⟩)
    by_cases hk0 : o.k = 0
    · have HK0 := Lib.hid hk0
      have HC := X2.out.2.2.2.1.c0
      have HDO2 := Lib.hid (show Calls Tryd.prog 19 #[.slice A n c, .agg #[.int .i64 0, .int .i64 o.x, .int .i64 o.n, .int .i32 o.r, .int .u32 o.p.fg, .int .u32 o.p.bg, .int .u8 o.p.st, .int .u16 o.p.lk]] w2 (OpPost M (rowMay L && penMayS o.p) w2) from by have h := HDO.out; unfold opA at h; rw [hk0] at h; exact h)
      rw [hk0] at c0
      clear HC HDO hk hk0
      go_wp2_with fail
      refine HDO2.out.mono ?_
      rintro e w3 ⟨hyes, _⟩
      obtain ⟨hb, g, c', rfl, hg, hk1, hk2, hR⟩ := hyes HK.out
      rw [HD.out.1]
      have X3 := Lib.hid (show Below w.heap.size w w3 ∧ Tabs w3 ∧ Vs ceV w3 A n L ∧ Op8c w3 b o ∧ b < w3.heap.size ∧ Rw ceV 28 w3 g M from by
        exact ⟨X2.out.1.trans (hb.mono X2.out.1.size), X2.out.2.1.below hb (Nat.le_refl _), X2.out.2.2.1.below hb, X2.out.2.2.2.1.below hb X2.out.2.2.2.2, by have := hb.size; have := X2.out.2.2.2.2; omega, hR⟩)
      clear hyes hb hg hk1 hk2 hR X2 c0 c1 c2 c3 c4 c5 c6 c7 HDO2
      go_wp2_with fail
      refine (fixedC_any X3.out.2.1).mono ?_
      rintro e w4 ⟨rfl, hb⟩
      have X4 := Lib.hid (show Below w.heap.size w w4 ∧ Vs ceV w4 A n L ∧ Op8c w4 b o ∧ Rw ceV 28 w4 g M from ⟨X3.out.1.trans (hb.mono X3.out.1.size), X3.out.2.2.1.below hb, X3.out.2.2.2.1.below hb X3.out.2.2.2.2.1, X3.out.2.2.2.2.2.below hb⟩)
      clear hb X3
      obtain ⟨c0, c1, c2, c3, c4, c5, c6, c7⟩ := X4.out.2.2.1
      rw [HK0.out] at c0
      clear c3 c4 c5 c6 c7
      go_wp2_with fail
      go_quiet (fail)
      obtain ⟨m1, hm1⟩ : ∃ m1, min o.x (n : Int) = m1 := ⟨_, rfl⟩
      obtain ⟨F, hmF⟩ : ∃ F, max (-5) m1 = F := ⟨_, rfl⟩
      have hF0 : -5 ≤ F := by omega
      have hF1 : F ≤ 80 := by omega
      obtain ⟨T, hFT⟩ : ∃ T, F + 2 = T := ⟨_, rfl⟩
      have HDF := Lib.hid (HD.out.2 F T (fun _ => ⟨by rw [hm1, hmF], hFT.symm⟩) (fun h => by have := HK0.out; omega))
      have hT1 : T = F + 2 := hFT.symm
      have HT1 := Lib.hid hT1
      clear hT1
      go_wp2_with fail
      go_region
      go_wp2_with fail
      clear hm1 hmF c0 c1 c2
      have hTa : T ≤ F + 2 := by have := HT1.out; omega
      have hTb : F + 2 ≤ T := by have := HT1.out; omega
      clear hFT
      go_loopw [63] (fun i wr => ∃ k q : Nat, k ≤ n ∧ i = .int .i64 k ∧ wr = w4.drewN q) (fun i _ => n - (intOf i).toNat)
      case atStart => exact ⟨0, _, Nat.zero_le _, rfl, rfl⟩
      case round =>
        obtain ⟨k, q, hk, rfl, rfl⟩ := hrel
        by_cases hlt : k < n
        · have hkl : (k : Int) < (n : Int) := by omega
          obtain ⟨ad, rfl⟩ := X4.out.2.1.addr (by omega)
          have hadl : ad.block < w4.heap.size := X4.out.2.1.lt (by omega)
          have HKL := Lib.hid (show k < L.length from by rw [HL.out]; exact hlt)
          by_cases hA : (k : Int) < F
          · by_cases hA2 : (k : Int) ≠ F - 1
            · have hB : ¬ T ≤ (k : Int) := by omega
              have tA : decide ((k : Int) < F) = true := by simpa using hA
              have tA2 : ((k : Int) != F - 1) = true := by simpa using hA2
              have tB : decide (T ≤ (k : Int)) = false := by simpa using hB
              have hyx := HDF.out k HKL.out (.inl ⟨hA, .inl hA2⟩)
              obtain ⟨b0, b1, b2, b3, b4, b5⟩ := X4.out.2.2.2.six (k := k) (by rw [HD.out.1]; exact hlt)
              rw [hyx] at b0 b1 b2 b3 b4 b5
              have hq : ∀ w, (binOp .neq 28 (.agg (ceA (cAt L k))) (.agg (ceA (cAt L k)))).run Tryd.prog w = .ok (.bool false) w := fun w => by rw [ce_neq]; simp
              have hgd := guardCe
              obtain ⟨a0, a1, a2, a3, a4, a5⟩ := X4.out.2.1.six hlt
              clear hyx
              generalize cAt L k = x at a0 a1 a2 a3 a4 a5 b0 b1 b2 b3 b4 b5 hq
              unfold ceA at hq
              clear hA2 hB
              go_wp2_with fail
              go_quiet (fail)
              go_wp2_with fail
              go_quiet (fail)
              go_wp2_with fail
              go_roundw
              case rel => exact ⟨k + 1, _, by omega, by go_num, rfl⟩
              case measure => simp [intOf]; omega
            · by_cases hA3 : (cAt L k).wd ≠ 1
              · have hB : ¬ T ≤ (k : Int) := by omega
                have tA : decide ((k : Int) < F) = true := by simpa using hA
                have tA2 : ((k : Int) != F - 1) = false := by simpa using hA2
                have tB : decide (T ≤ (k : Int)) = false := by simpa using hB
                have tA3 : ((cAt L k).wd != 1) = true := by simpa using hA3
                have hyx := HDF.out k HKL.out (.inl ⟨hA, .inr hA3⟩)
                obtain ⟨b0, b1, b2, b3, b4, b5⟩ := X4.out.2.2.2.six (k := k) (by rw [HD.out.1]; exact hlt)
                rw [hyx] at b0 b1 b2 b3 b4 b5
                have hq : ∀ w, (binOp .neq 28 (.agg (ceA (cAt L k))) (.agg (ceA (cAt L k)))).run Tryd.prog w = .ok (.bool false) w := fun w => by rw [ce_neq]; simp
                have hgd := guardCe
                obtain ⟨a0, a1, a2, a3, a4, a5⟩ := X4.out.2.1.six hlt
                clear hyx
                generalize cAt L k = x at a0 a1 a2 a3 a4 a5 b0 b1 b2 b3 b4 b5 hq tA3 hA3
                unfold ceA at hq
                clear hA2 hA3 hB
                go_wp2_with fail
                go_quiet (fail)
                go_wp2_with fail
                go_quiet (fail)
                go_wp2_with fail
                go_roundw
                case rel => exact ⟨k + 1, _, by omega, by go_num, rfl⟩
                case measure => simp [intOf]; omega
              · have hB : ¬ T ≤ (k : Int) := by omega
                have tA : decide ((k : Int) < F) = true := by simpa using hA
                have tA2 : ((k : Int) != F - 1) = false := by simpa using hA2
                have tB : decide (T ≤ (k : Int)) = false := by simpa using hB
                have tA3 : ((cAt L k).wd != 1) = false := by simpa using hA3
                obtain ⟨a0, a1, a2, a3, a4, a5⟩ := X4.out.2.1.six hlt
                clear a0 a2 a3 a4 a5
                generalize cAt L k = x at a1 tA3 hA3
                clear hA2 hA3 hB
                go_wp2_with fail
                go_quiet (fail)
                go_wp2_with fail
                go_quiet (fail)
                go_wp2_with fail
                go_roundw
                case rel => exact ⟨k + 1, _, by omega, by go_num, rfl⟩
                case measure => simp [intOf]; omega
          · by_cases hB : T ≤ (k : Int)
            · by_cases hB2 : (k : Int) ≠ T
              · have tA : decide ((k : Int) < F) = false := by simpa using hA
                have tB : decide (T ≤ (k : Int)) = true := by simpa using hB
                have tB2 : ((k : Int) != T) = true := by simpa using hB2
                have hyx := HDF.out k HKL.out (.inr ⟨hB, .inl hB2⟩)
                obtain ⟨b0, b1, b2, b3, b4, b5⟩ := X4.out.2.2.2.six (k := k) (by rw [HD.out.1]; exact hlt)
                rw [hyx] at b0 b1 b2 b3 b4 b5
                have hq : ∀ w, (binOp .neq 28 (.agg (ceA (cAt L k))) (.agg (ceA (cAt L k)))).run Tryd.prog w = .ok (.bool false) w := fun w => by rw [ce_neq]; simp
                have hgd := guardCe
                obtain ⟨a0, a1, a2, a3, a4, a5⟩ := X4.out.2.1.six hlt
                clear hyx
                generalize cAt L k = x at a0 a1 a2 a3 a4 a5 b0 b1 b2 b3 b4 b5 hq
                unfold ceA at hq
                clear hA hB hB2
                go_wp2_with fail
                go_quiet (fail)
                go_wp2_with fail
                go_quiet (fail)
                go_wp2_with fail
                go_roundw
                case rel => exact ⟨k + 1, _, by omega, by go_num, rfl⟩
                case measure => simp [intOf]; omega
              · by_cases hB3 : (cAt L k).wd ≠ 2
                · have tA : decide ((k : Int) < F) = false := by simpa using hA
                  have tB : decide (T ≤ (k : Int)) = true := by simpa using hB
                  have tB2 : ((k : Int) != T) = false := by simpa using hB2
                  have tB3 : ((cAt L k).wd != 2) = true := by simpa using hB3
                  have hyx := HDF.out k HKL.out (.inr ⟨hB, .inr hB3⟩)
                  obtain ⟨b0, b1, b2, b3, b4, b5⟩ := X4.out.2.2.2.six (k := k) (by rw [HD.out.1]; exact hlt)
                  rw [hyx] at b0 b1 b2 b3 b4 b5
                  have hq : ∀ w, (binOp .neq 28 (.agg (ceA (cAt L k))) (.agg (ceA (cAt L k)))).run Tryd.prog w = .ok (.bool false) w := fun w => by rw [ce_neq]; simp
                  have hgd := guardCe
                  obtain ⟨a0, a1, a2, a3, a4, a5⟩ := X4.out.2.1.six hlt
                  clear hyx
                  generalize cAt L k = x at a0 a1 a2 a3 a4 a5 b0 b1 b2 b3 b4 b5 hq tB3 hB3
                  unfold ceA at hq
                  clear hA hB hB2 hB3
                  go_wp2_with fail
                  go_quiet (fail)
                  go_wp2_with fail
                  go_quiet (fail)
                  go_wp2_with fail
                  go_roundw
                  case rel => exact ⟨k + 1, _, by omega, by go_num, rfl⟩
                  case measure => simp [intOf]; omega
                · have tA : decide ((k : Int) < F) = false := by simpa using hA
                  have tB : decide (T ≤ (k : Int)) = true := by simpa using hB
                  have tB2 : ((k : Int) != T) = false := by simpa using hB2
                  have tB3 : ((cAt L k).wd != 2) = false := by simpa using hB3
                  obtain ⟨a0, a1, a2, a3, a4, a5⟩ := X4.out.2.1.six hlt
                  clear a0 a2 a3 a4 a5
                  generalize cAt L k = x at a1 tB3 hB3
                  clear hA hB hB2 hB3
                  go_wp2_with fail
                  go_quiet (fail)
                  go_wp2_with fail
                  go_quiet (fail)
                  go_wp2_with fail
                  go_roundw
                  case rel => exact ⟨k + 1, _, by omega, by go_num, rfl⟩
                  case measure => simp [intOf]; omega
            · have tA : decide ((k : Int) < F) = false := by simpa using hA
              have tB : decide (T ≤ (k : Int)) = false := by simpa using hB
              obtain ⟨a0, a1, a2, a3, a4, a5⟩ := X4.out.2.1.six hlt
              clear a0 a2 a3 a4 a5
              generalize cAt L k = x at a1
              clear hA hB
              go_wp2_with fail
              go_quiet (fail)
              go_wp2_with fail
              go_quiet (fail)
              go_wp2_with fail
              go_roundw
              case rel => exact ⟨k + 1, _, by omega, by go_num, rfl⟩
              case measure => simp [intOf]; omega
        · obtain rfl : k = n := by omega
          go_wp2_with fail
          go_ret
          exact ⟨rfl, belowN X4.out.1 _⟩
    · have hk1 : o.k = 1 := by omega
      have HK1 := Lib.hid hk1
      have HDO2 := Lib.hid (show Calls Tryd.prog 19 #[.slice A n c, .agg #[.int .i64 1, .int .i64 o.x, .int .i64 o.n, .int .i32 o.r, .int .u32 o.p.fg, .int .u32 o.p.bg, .int .u8 o.p.st, .int .u16 o.p.lk]] w2 (OpPost M (rowMay L && penMayS o.p) w2) from by have h := HDO.out; unfold opA at h; rw [hk1] at h; exact h)
      rw [hk1] at c0
      clear HDO hk hk0 hk1
      go_wp2_with fail
      refine HDO2.out.mono ?_
      rintro e w3 ⟨hyes, _⟩
      obtain ⟨hb, g, c', rfl, hg, hk1, hk2, hR⟩ := hyes HK.out
      rw [HD.out.1]
      have X3 := Lib.hid (show Below w.heap.size w w3 ∧ Tabs w3 ∧ Vs ceV w3 A n L ∧ Op8c w3 b o ∧ b < w3.heap.size ∧ Rw ceV 28 w3 g M from by
        exact ⟨X2.out.1.trans (hb.mono X2.out.1.size), X2.out.2.1.below hb (Nat.le_refl _), X2.out.2.2.1.below hb, X2.out.2.2.2.1.below hb X2.out.2.2.2.2, by have := hb.size; have := X2.out.2.2.2.2; omega, hR⟩)
      clear hyes hb hg hk1 hk2 hR X2 c0 c1 c2 c3 c4 c5 c6 c7 HDO2
      go_wp2_with fail
      refine (fixedC_any X3.out.2.1).mono ?_
      rintro e w4 ⟨rfl, hb⟩
      have X4 := Lib.hid (show Below w.heap.size w w4 ∧ Vs ceV w4 A n L ∧ Op8c w4 b o ∧ Rw ceV 28 w4 g M from ⟨X3.out.1.trans (hb.mono X3.out.1.size), X3.out.2.2.1.below hb, X3.out.2.2.2.1.below hb X3.out.2.2.2.2.1, X3.out.2.2.2.2.2.below hb⟩)
      clear hb X3
      obtain ⟨c0, c1, c2, c3, c4, c5, c6, c7⟩ := X4.out.2.2.1
      rw [HK1.out] at c0
      clear c3 c4 c5 c6 c7
      obtain ⟨F, hF⟩ : ∃ F, F = o.x := ⟨_, rfl⟩
      obtain ⟨T, hTe⟩ : ∃ T, T = o.n := ⟨_, rfl⟩
      have HDF := Lib.hid (HD.out.2 F T (fun h => by have := HK1.out; omega) (fun _ => ⟨hF, hTe⟩))
      have hF1 : F ≤ 9223372036854775807 := by rw [hF]; exact HX.out.2.1
      rw [← hF] at c1
      rw [← hTe] at c2
      clear hF hTe
      go_wp2_with fail
      go_quiet (fail)
      go_wp2_with fail
      clear c0 c1 c2
      go_loopw [63] (fun i wr => ∃ k q : Nat, k ≤ n ∧ i = .int .i64 k ∧ wr = w4.drewN q) (fun i _ => n - (intOf i).toNat)
      case atStart => exact ⟨0, _, Nat.zero_le _, rfl, rfl⟩
      case round =>
        obtain ⟨k, q, hk, rfl, rfl⟩ := hrel
        by_cases hlt : k < n
        · have hkl : (k : Int) < (n : Int) := by omega
          obtain ⟨ad, rfl⟩ := X4.out.2.1.addr (by omega)
          have hadl : ad.block < w4.heap.size := X4.out.2.1.lt (by omega)
          have HKL := Lib.hid (show k < L.length from by rw [HL.out]; exact hlt)
          by_cases hA : (k : Int) < F
          · by_cases hA2 : (k : Int) ≠ F - 1
            · by_cases hB : T ≤ (k : Int)
              · by_cases hB2 : (k : Int) ≠ T
                · have tA : decide ((k : Int) < F) = true := by simpa using hA
                  have tA2 : ((k : Int) != F - 1) = true := by simpa using hA2
                  have tB : decide (T ≤ (k : Int)) = true := by simpa using hB
                  have tB2 : ((k : Int) != T) = true := by simpa using hB2
                  have hyx := HDF.out k HKL.out (.inl ⟨hA, .inl hA2⟩)
                  obtain ⟨b0, b1, b2, b3, b4, b5⟩ := X4.out.2.2.2.six (k := k) (by rw [HD.out.1]; exact hlt)
                  rw [hyx] at b0 b1 b2 b3 b4 b5
                  have hq : ∀ w, (binOp .neq 28 (.agg (ceA (cAt L k))) (.agg (ceA (cAt L k)))).run Tryd.prog w = .ok (.bool false) w := fun w => by rw [ce_neq]; simp
                  have hgd := guardCe
                  obtain ⟨a0, a1, a2, a3, a4, a5⟩ := X4.out.2.1.six hlt
                  clear hyx
                  generalize cAt L k = x at a0 a1 a2 a3 a4 a5 b0 b1 b2 b3 b4 b5 hq
                  unfold ceA at hq
                  clear hA2 hB hB2
                  go_wp2_with fail
                  go_quiet (fail)
                  go_wp2_with fail
                  go_quiet (fail)
                  go_wp2_with fail
                  go_roundw
                  case rel => exact ⟨k + 1, _, by omega, by go_num, rfl⟩
                  case measure => simp [intOf]; omega
                · by_cases hB3 : (cAt L k).wd ≠ 2
                  · have tA : decide ((k : Int) < F) = true := by simpa using hA
                    have tA2 : ((k : Int) != F - 1) = true := by simpa using hA2
                    have tB : decide (T ≤ (k : Int)) = true := by simpa using hB
                    have tB2 : ((k : Int) != T) = false := by simpa using hB2
                    have tB3 : ((cAt L k).wd != 2) = true := by simpa using hB3
                    have hyx := HDF.out k HKL.out (.inl ⟨hA, .inl hA2⟩)
                    obtain ⟨b0, b1, b2, b3, b4, b5⟩ := X4.out.2.2.2.six (k := k) (by rw [HD.out.1]; exact hlt)
                    rw [hyx] at b0 b1 b2 b3 b4 b5
                    have hq : ∀ w, (binOp .neq 28 (.agg (ceA (cAt L k))) (.agg (ceA (cAt L k)))).run Tryd.prog w = .ok (.bool false) w := fun w => by rw [ce_neq]; simp
                    have hgd := guardCe
                    obtain ⟨a0, a1, a2, a3, a4, a5⟩ := X4.out.2.1.six hlt
                    clear hyx
                    generalize cAt L k = x at a0 a1 a2 a3 a4 a5 b0 b1 b2 b3 b4 b5 hq tB3 hB3
                    unfold ceA at hq
                    clear hA2 hB hB2 hB3
                    go_wp2_with fail
                    go_quiet (fail)
                    go_wp2_with fail
                    go_quiet (fail)
                    go_wp2_with fail
                    go_roundw
                    case rel => exact ⟨k + 1, _, by omega, by go_num, rfl⟩
                    case measure => simp [intOf]; omega
                  · have tA : decide ((k : Int) < F) = true := by simpa using hA
                    have tA2 : ((k : Int) != F - 1) = true := by simpa using hA2
                    have tB : decide (T ≤ (k : Int)) = true := by simpa using hB
                    have tB2 : ((k : Int) != T) = false := by simpa using hB2
                    have tB3 : ((cAt L k).wd != 2) = false := by simpa using hB3
                    have hyx := HDF.out k HKL.out (.inl ⟨hA, .inl hA2⟩)
                    obtain ⟨b0, b1, b2, b3, b4, b5⟩ := X4.out.2.2.2.six (k := k) (by rw [HD.out.1]; exact hlt)
                    rw [hyx] at b0 b1 b2 b3 b4 b5
                    have hq : ∀ w, (binOp .neq 28 (.agg (ceA (cAt L k))) (.agg (ceA (cAt L k)))).run Tryd.prog w = .ok (.bool false) w := fun w => by rw [ce_neq]; simp
                    have hgd := guardCe
                    obtain ⟨a0, a1, a2, a3, a4, a5⟩ := X4.out.2.1.six hlt
                    clear hyx
                    generalize cAt L k = x at a0 a1 a2 a3 a4 a5 b0 b1 b2 b3 b4 b5 hq tB3 hB3
                    unfold ceA at hq
                    clear hA2 hB hB2 hB3
                    go_wp2_with fail
                    go_quiet (fail)
                    go_wp2_with fail
                    go_quiet (fail)
                    go_wp2_with fail
                    go_roundw
                    case rel => exact ⟨k + 1, _, by omega, by go_num, rfl⟩
                    case measure => simp [intOf]; omega
              · have tA : decide ((k : Int) < F) = true := by simpa using hA
                have tA2 : ((k : Int) != F - 1) = true := by simpa using hA2
                have tB : decide (T ≤ (k : Int)) = false := by simpa using hB
                have hyx := HDF.out k HKL.out (.inl ⟨hA, .inl hA2⟩)
                obtain ⟨b0, b1, b2, b3, b4, b5⟩ := X4.out.2.2.2.six (k := k) (by rw [HD.out.1]; exact hlt)
                rw [hyx] at b0 b1 b2 b3 b4 b5
                have hq : ∀ w, (binOp .neq 28 (.agg (ceA (cAt L k))) (.agg (ceA (cAt L k)))).run Tryd.prog w = .ok (.bool false) w := fun w => by rw [ce_neq]; simp
                have hgd := guardCe
                obtain ⟨a0, a1, a2, a3, a4, a5⟩ := X4.out.2.1.six hlt
                clear hyx
                generalize cAt L k = x at a0 a1 a2 a3 a4 a5 b0 b1 b2 b3 b4 b5 hq
                unfold ceA at hq
                clear hA2 hB
                go_wp2_with fail
                go_quiet (fail)
                go_wp2_with fail
                go_quiet (fail)
                go_wp2_with fail
                go_roundw
                case rel => exact ⟨k + 1, _, by omega, by go_num, rfl⟩
                case measure => simp [intOf]; omega
            · by_cases hA3 : (cAt L k).wd ≠ 1
              · by_cases hB : T ≤ (k : Int)
                · by_cases hB2 : (k : Int) ≠ T
                  · have tA : decide ((k : Int) < F) = true := by simpa using hA
                    have tA2 : ((k : Int) != F - 1) = false := by simpa using hA2
                    have tB : decide (T ≤ (k : Int)) = true := by simpa using hB
                    have tB2 : ((k : Int) != T) = true := by simpa using hB2
                    have tA3 : ((cAt L k).wd != 1) = true := by simpa using hA3
                    have hyx := HDF.out k HKL.out (.inl ⟨hA, .inr hA3⟩)
                    obtain ⟨b0, b1, b2, b3, b4, b5⟩ := X4.out.2.2.2.six (k := k) (by rw [HD.out.1]; exact hlt)
                    rw [hyx] at b0 b1 b2 b3 b4 b5
                    have hq : ∀ w, (binOp .neq 28 (.agg (ceA (cAt L k))) (.agg (ceA (cAt L k)))).run Tryd.prog w = .ok (.bool false) w := fun w => by rw [ce_neq]; simp
                    have hgd := guardCe
                    obtain ⟨a0, a1, a2, a3, a4, a5⟩ := X4.out.2.1.six hlt
                    clear hyx
                    generalize cAt L k = x at a0 a1 a2 a3 a4 a5 b0 b1 b2 b3 b4 b5 hq tA3 hA3
                    unfold ceA at hq
                    clear hA2 hA3 hB hB2
                    go_wp2_with fail
                    go_quiet (fail)
                    go_wp2_with fail
                    go_quiet (fail)
                    go_wp2_with fail
                    go_roundw
                    case rel => exact ⟨k + 1, _, by omega, by go_num, rfl⟩
                    case measure => simp [intOf]; omega
                  · by_cases hB3 : (cAt L k).wd ≠ 2
                    · have tA : decide ((k : Int) < F) = true := by simpa using hA
                      have tA2 : ((k : Int) != F - 1) = false := by simpa using hA2
                      have tB : decide (T ≤ (k : Int)) = true := by simpa using hB
                      have tB2 : ((k : Int) != T) = false := by simpa using hB2
                      have tA3 : ((cAt L k).wd != 1) = true := by simpa using hA3
                      have tB3 : ((cAt L k).wd != 2) = true := by simpa using hB3
                      have hyx := HDF.out k HKL.out (.inl ⟨hA, .inr hA3⟩)
                      obtain ⟨b0, b1, b2, b3, b4, b5⟩ := X4.out.2.2.2.six (k := k) (by rw [HD.out.1]; exact hlt)
                      rw [hyx] at b0 b1 b2 b3 b4 b5
                      have hq : ∀ w, (binOp .neq 28 (.agg (ceA (cAt L k))) (.agg (ceA (cAt L k)))).run Tryd.prog w = .ok (.bool false) w := fun w => by rw [ce_neq]; simp
                      have hgd := guardCe
                      obtain ⟨a0, a1, a2, a3, a4, a5⟩ := X4.out.2.1.six hlt
                      clear hyx
                      generalize cAt L k = x at a0 a1 a2 a3 a4 a5 b0 b1 b2 b3 b4 b5 hq tA3 hA3 tB3 hB3
                      unfold ceA at hq
                      clear hA2 hA3 hB hB2 hB3
                      go_wp2_with fail
                      go_quiet (fail)
                      go_wp2_with fail
                      go_quiet (fail)
                      go_wp2_with fail
                      go_roundw
                      case rel => exact ⟨k + 1, _, by omega, by go_num, rfl⟩
                      case measure => simp [intOf]; omega
                    · have tA : decide ((k : Int) < F) = true := by simpa using hA
                      have tA2 : ((k : Int) != F - 1) = false := by simpa using hA2
                      have tB : decide (T ≤ (k : Int)) = true := by simpa using hB
                      have tB2 : ((k : Int) != T) = false := by simpa using hB2
                      have tA3 : ((cAt L k).wd != 1) = true := by simpa using hA3
                      have tB3 : ((cAt L k).wd != 2) = false := by simpa using hB3
                      have hyx := HDF.out k HKL.out (.inl ⟨hA, .inr hA3⟩)
                      obtain ⟨b0, b1, b2, b3, b4, b5⟩ := X4.out.2.2.2.six (k := k) (by rw [HD.out.1]; exact hlt)
                      rw [hyx] at b0 b1 b2 b3 b4 b5
                      have hq : ∀ w, (binOp .neq 28 (.agg (ceA (cAt L k))) (.agg (ceA (cAt L k)))).run Tryd.prog w = .ok (.bool false) w := fun w => by rw [ce_neq]; simp
                      have hgd := guardCe
                      obtain ⟨a0, a1, a2, a3, a4, a5⟩ := X4.out.2.1.six hlt
                      clear hyx
                      generalize cAt L k = x at a0 a1 a2 a3 a4 a5 b0 b1 b2 b3 b4 b5 hq tA3 hA3 tB3 hB3
                      unfold ceA at hq
                      clear hA2 hA3 hB hB2 hB3
                      go_wp2_with fail
                      go_quiet (fail)
                      go_wp2_with fail
                      go_quiet (fail)
                      go_wp2_with fail
                      go_roundw
                      case rel => exact ⟨k + 1, _, by omega, by go_num, rfl⟩
                      case measure => simp [intOf]; omega
                · have tA : decide ((k : Int) < F) = true := by simpa using hA
                  have tA2 : ((k : Int) != F - 1) = false := by simpa using hA2
                  have tB : decide (T ≤ (k : Int)) = false := by simpa using hB
                  have tA3 : ((cAt L k).wd != 1) = true := by simpa using hA3
                  have hyx := HDF.out k HKL.out (.inl ⟨hA, .inr hA3⟩)
                  obtain ⟨b0, b1, b2, b3, b4, b5⟩ := X4.out.2.2.2.six (k := k) (by rw [HD.out.1]; exact hlt)
                  rw [hyx] at b0 b1 b2 b3 b4 b5
                  have hq : ∀ w, (binOp .neq 28 (.agg (ceA (cAt L k))) (.agg (ceA (cAt L k)))).run Tryd.prog w = .ok (.bool false) w := fun w => by rw [ce_neq]; simp
                  have hgd := guardCe
                  obtain ⟨a0, a1, a2, a3, a4, a5⟩ := X4.out.2.1.six hlt
                  clear hyx
                  generalize cAt L k = x at a0 a1 a2 a3 a4 a5 b0 b1 b2 b3 b4 b5 hq tA3 hA3
                  unfold ceA at hq
                  clear hA2 hA3 hB
                  go_wp2_with fail
                  go_quiet (fail)
                  go_wp2_with fail
                  go_quiet (fail)
                  go_wp2_with fail
                  go_roundw
                  case rel => exact ⟨k + 1, _, by omega, by go_num, rfl⟩
                  case measure => simp [intOf]; omega
              · by_cases hB : T ≤ (k : Int)
                · by_cases hB2 : (k : Int) ≠ T
                  · have tA : decide ((k : Int) < F) = true := by simpa using hA
                    have tA2 : ((k : Int) != F - 1) = false := by simpa using hA2
                    have tB : decide (T ≤ (k : Int)) = true := by simpa using hB
                    have tB2 : ((k : Int) != T) = true := by simpa using hB2
                    have tA3 : ((cAt L k).wd != 1) = false := by simpa using hA3
                    have hyx := HDF.out k HKL.out (.inr ⟨hB, .inl hB2⟩)
                    obtain ⟨b0, b1, b2, b3, b4, b5⟩ := X4.out.2.2.2.six (k := k) (by rw [HD.out.1]; exact hlt)
                    rw [hyx] at b0 b1 b2 b3 b4 b5
                    have hq : ∀ w, (binOp .neq 28 (.agg (ceA (cAt L k))) (.agg (ceA (cAt L k)))).run Tryd.prog w = .ok (.bool false) w := fun w => by rw [ce_neq]; simp
                    have hgd := guardCe
                    obtain ⟨a0, a1, a2, a3, a4, a5⟩ := X4.out.2.1.six hlt
                    clear hyx
                    generalize cAt L k = x at a0 a1 a2 a3 a4 a5 b0 b1 b2 b3 b4 b5 hq tA3 hA3
                    unfold ceA at hq
                    clear hA2 hA3 hB hB2
                    go_wp2_with fail
                    go_quiet (fail)
                    go_wp2_with fail
                    go_quiet (fail)
                    go_wp2_with fail
                    go_roundw
                    case rel => exact ⟨k + 1, _, by omega, by go_num, rfl⟩
                    case measure => simp [intOf]; omega
                  · have hB3 : (cAt L k).wd ≠ 2 := by omega
                    have tA : decide ((k : Int) < F) = true := by simpa using hA
                    have tA2 : ((k : Int) != F - 1) = false := by simpa using hA2
                    have tB : decide (T ≤ (k : Int)) = true := by simpa using hB
                    have tB2 : ((k : Int) != T) = false := by simpa using hB2
                    have tA3 : ((cAt L k).wd != 1) = false := by simpa using hA3
                    have tB3 : ((cAt L k).wd != 2) = true := by simpa using hB3
                    have hyx := HDF.out k HKL.out (.inr ⟨hB, .inr hB3⟩)
                    obtain ⟨b0, b1, b2, b3, b4, b5⟩ := X4.out.2.2.2.six (k := k) (by rw [HD.out.1]; exact hlt)
                    rw [hyx] at b0 b1 b2 b3 b4 b5
                    have hq : ∀ w, (binOp .neq 28 (.agg (ceA (cAt L k))) (.agg (ceA (cAt L k)))).run Tryd.prog w = .ok (.bool false) w := fun w => by rw [ce_neq]; simp
                    have hgd := guardCe
                    obtain ⟨a0, a1, a2, a3, a4, a5⟩ := X4.out.2.1.six hlt
                    clear hyx
                    generalize cAt L k = x at a0 a1 a2 a3 a4 a5 b0 b1 b2 b3 b4 b5 hq tA3 hA3 tB3 hB3
                    unfold ceA at hq
                    clear hA2 hA3 hB hB2 hB3
                    go_wp2_with fail
                    go_quiet (fail)
                    go_wp2_with fail
                    go_quiet (fail)
                    go_wp2_with fail
                    go_roundw
                    case rel => exact ⟨k + 1, _, by omega, by go_num, rfl⟩
                    case measure => simp [intOf]; omega
                · have tA : decide ((k : Int) < F) = true := by simpa using hA
                  have tA2 : ((k : Int) != F - 1) = false := by simpa using hA2
                  have tB : decide (T ≤ (k : Int)) = false := by simpa using hB
                  have tA3 : ((cAt L k).wd != 1) = false := by simpa using hA3
                  obtain ⟨a0, a1, a2, a3, a4, a5⟩ := X4.out.2.1.six hlt
                  clear a0 a2 a3 a4 a5
                  generalize cAt L k = x at a1 tA3 hA3
                  clear hA2 hA3 hB
                  go_wp2_with fail
                  go_quiet (fail)
                  go_wp2_with fail
                  go_quiet (fail)
                  go_wp2_with fail
                  go_roundw
                  case rel => exact ⟨k + 1, _, by omega, by go_num, rfl⟩
                  case measure => simp [intOf]; omega
          · by_cases hB : T ≤ (k : Int)
            · by_cases hB2 : (k : Int) ≠ T
              · have tA : decide ((k : Int) < F) = false := by simpa using hA
                have tB : decide (T ≤ (k : Int)) = true := by simpa using hB
                have tB2 : ((k : Int) != T) = true := by simpa using hB2
                have hyx := HDF.out k HKL.out (.inr ⟨hB, .inl hB2⟩)
                obtain ⟨b0, b1, b2, b3, b4, b5⟩ := X4.out.2.2.2.six (k := k) (by rw [HD.out.1]; exact hlt)
                rw [hyx] at b0 b1 b2 b3 b4 b5
                have hq : ∀ w, (binOp .neq 28 (.agg (ceA (cAt L k))) (.agg (ceA (cAt L k)))).run Tryd.prog w = .ok (.bool false) w := fun w => by rw [ce_neq]; simp
                have hgd := guardCe
                obtain ⟨a0, a1, a2, a3, a4, a5⟩ := X4.out.2.1.six hlt
                clear hyx
                generalize cAt L k = x at a0 a1 a2 a3 a4 a5 b0 b1 b2 b3 b4 b5 hq
                unfold ceA at hq
                clear hA hB hB2
                go_wp2_with fail
                go_quiet (fail)
                go_wp2_with fail
                go_quiet (fail)
                go_wp2_with fail
                go_roundw
                case rel => exact ⟨k + 1, _, by omega, by go_num, rfl⟩
                case measure => simp [intOf]; omega
              · by_cases hB3 : (cAt L k).wd ≠ 2
                · have tA : decide ((k : Int) < F) = false := by simpa using hA
                  have tB : decide (T ≤ (k : Int)) = true := by simpa using hB
                  have tB2 : ((k : Int) != T) = false := by simpa using hB2
                  have tB3 : ((cAt L k).wd != 2) = true := by simpa using hB3
                  have hyx := HDF.out k HKL.out (.inr ⟨hB, .inr hB3⟩)
                  obtain ⟨b0, b1, b2, b3, b4, b5⟩ := X4.out.2.2.2.six (k := k) (by rw [HD.out.1]; exact hlt)
                  rw [hyx] at b0 b1 b2 b3 b4 b5
                  have hq : ∀ w, (binOp .neq 28 (.agg (ceA (cAt L k))) (.agg (ceA (cAt L k)))).run Tryd.prog w = .ok (.bool false) w := fun w => by rw [ce_neq]; simp
                  have hgd := guardCe
                  obtain ⟨a0, a1, a2, a3, a4, a5⟩ := X4.out.2.1.six hlt
                  clear hyx
                  generalize cAt L k = x at a0 a1 a2 a3 a4 a5 b0 b1 b2 b3 b4 b5 hq tB3 hB3
                  unfold ceA at hq
                  clear hA hB hB2 hB3
                  go_wp2_with fail
                  go_quiet (fail)
                  go_wp2_with fail
                  go_quiet (fail)
                  go_wp2_with fail
                  go_roundw
                  case rel => exact ⟨k + 1, _, by omega, by go_num, rfl⟩
                  case measure => simp [intOf]; omega
                · have tA : decide ((k : Int) < F) = false := by simpa using hA
                  have tB : decide (T ≤ (k : Int)) = true := by simpa using hB
                  have tB2 : ((k : Int) != T) = false := by simpa using hB2
                  have tB3 : ((cAt L k).wd != 2) = false := by simpa using hB3
                  obtain ⟨a0, a1, a2, a3, a4, a5⟩ := X4.out.2.1.six hlt
                  clear a0 a2 a3 a4 a5
                  generalize cAt L k = x at a1 tB3 hB3
                  clear hA hB hB2 hB3
                  go_wp2_with fail
                  go_quiet (fail)
                  go_wp2_with fail
                  go_quiet (fail)
                  go_wp2_with fail
                  go_roundw
                  case rel => exact ⟨k + 1, _, by omega, by go_num, rfl⟩
                  case measure => simp [intOf]; omega
            · have tA : decide ((k : Int) < F) = false := by simpa using hA
              have tB : decide (T ≤ (k : Int)) = false := by simpa using hB
              obtain ⟨a0, a1, a2, a3, a4, a5⟩ := X4.out.2.1.six hlt
              clear a0 a2 a3 a4 a5
              generalize cAt L k = x at a1
              clear hA hB
              go_wp2_with fail
              go_quiet (fail)
              go_wp2_with fail
              go_quiet (fail)
              go_wp2_with fail
              go_roundw
              case rel => exact ⟨k + 1, _, by omega, by go_num, rfl⟩
              case measure => simp [intOf]; omega
        · obtain rfl : k = n := by omega
          go_wp2_with fail
          go_ret
          exact ⟨rfl, belowN X4.out.1 _⟩
  · have t1 : (o.k != 0) = true := by simp; omega
    have t2 : (o.k != 1) = true := by simp; omega
    clear hk
    go_wp2_with fail
    refine (fixedC_any X2.out.2.1).mono ?_
    rintro e w3 ⟨rfl, hb⟩
    have X3 := Lib.hid (X2.out.1.trans (hb.mono X2.out.1.size))
    clear hb c0 c1 c2 c3 c4 c5 c6 c7
    go_wp2_with fail
    go_ret
    exact ⟨rfl, X3.out⟩

set_option maxRecDepth 100000 in
theorem lifted (os : Os) (started : os.Started) (H : Type) (enc : TypeId × Value → H) :
    ReturnsInHanded {} Tryd.checked os 6 .any (fun w args => (Rows.cellElseSpec.pre enc Tryd.prog Tryd.f6 [] false w args ∧ laidMetH Tryd.prog laidL w) ∧ sizedMet enc Tryd.prog Tryd.f6 (OpenSpec.ofChange Rows.cellElseSpec) false w args)
      (Rows.cellElseSpec.post enc Tryd.prog Tryd.f6 false true false false) := by
  refine returnsInHanded_of_change_and (C := Tryd.checked) (X := fun w _ => laidMetH Tryd.prog laidL w) (fun _ _ _ hh h => h.of_heap hh) own started (by kernel_rfl) Tryd.func6
    (ChangeSpec.witness_shaped (enc := enc) (C := Tryd.checked) (os := os) (X := fun w _ => laidMetH Tryd.prog laidL w) false (World.laidAll Tryd.prog os laidL) #[.slice none 0 0, .agg #[.int .i64 0, .int .i64 0, .int .i64 0, .int .i32 0, .int .u32 0, .int .u32 0, .int .u8 0, .int .u16 0]] 8 (World.laidAll_os _ _ _) (start_shaped os) (by kernel_rfl) (by kernel_rfl) (by kernel_rfl) (start_met os _)) ?_
  intro W base args ds gs before hval0 hW _ hsz0 hL _
  have hsz : (DataW.weightsEach Tryd.prog (Tryd.f6.params.toList ++ Rows.cellElseSpec.plain.varTypes Tryd.prog) (ds ++ gs)).all (· ≤ reachBytes) = true := hsz0
  clear hsz0
  have hval : ∀ (j : Nat) t v, Tryd.f6.params[j]? = some t → args[j]? = some v → Value.okWide Tryd.prog W .any base t v := hval0
  have hW' := hW
  obtain ⟨p, q, hA0, hV, rfl, _, _⟩ := hW
  have hA : DataW.TrodAll enc Tryd.prog W 0 (fun _ => true) true Tryd.f6.params.toList args.toList ds p := hA0
  rw [Tryd.params6] at hA hval hsz
  obtain ⟨v0, vs0, d0, ds0, p0, q0, hargs, rfl, rfl, h0, r0⟩ := trodAll_cons hA
  obtain ⟨v1, vs1, d1, ds1, p1, q1, rfl, rfl, rfl, h1, r1⟩ := trodAll_cons r0
  obtain ⟨rfl, rfl, rfl⟩ := trodAll_nil r1
  obtain rfl : args = #[v0, v1] := by cases args; simp_all
  obtain ⟨rfl, rfl⟩ := trodVars_none hV
  have lt0 : ∀ x ∈ p0, x.block < W.heap.size := by obtain ⟨m, hm⟩ := h0; exact DataW.trod_lt m _ _ _ hm
  obtain ⟨A0, n0, c0, L0, rfl, s0⟩ := open_cells (hval 0 29 v0 rfl rfl) h0
  have lt1 : ∀ x ∈ p1, x.block < W.heap.size := by obtain ⟨m, hm⟩ := h1; exact DataW.trod_lt m _ _ _ hm
  obtain ⟨o1, rfl, s1⟩ := open_op (hval 1 39 v1 rfl rfl) h1
  clear hA0 hval0
  refine (walk W (tabs_of_laid hL) s0 s1).mono fun e W' ⟨he, bel⟩ => ?_
  subst he
  exact ⟨_, rfl, _, _, _, [], _, [], hW', trodAll_mk1 (shut_bool Tryd.underlying4 _), (trodAll_cons_mk (Below.trod laidOut (by kernel_rfl) (of_decide_eq_true (by kernel_rfl)) h0 bel lt0) (trodAll_cons_mk (Below.trod laidOut (by kernel_rfl) (of_decide_eq_true (by kernel_rfl)) h1 bel lt1) trodAll_mk0)), rfl, bel.frame _, fun h => by cases h⟩

theorem over : Rows.cellElseRow.holds Tryd.pinned (OpenSpec.ofChange Rows.cellElseSpec) :=
  OpenClaim.holds_of_wide 6 Tryd.f6 rfl rfl rfl rfl rfl rfl rfl ⟨rfl, rfl, rfl, rfl, rfl⟩ rfl rfl rfl rfl rfl (by kernel_rfl) Tryd.func6 (by kernel_rfl)
    (of_decide_eq_true (by kernel_rfl)) (by unfold Func.isWrapper; first | (rw [if_pos (by decide +kernel)]; kernel_rfl) | (rw [if_neg (by decide +kernel)]; exact ⟨rfl, rfl⟩))
    (fun os started H enc _ => lifted os started H enc)

theorem proved : Rows.CellElseCardSaid :=
  Claim7.holds_tied_plain_at .later [] [.data] true Rows.cellElseCard.stood.harness false
    over (fun _ h => by cases h) (by kernel_rfl) (fun _ h => by cases h) cellElse_row_tie rfl ⟨rfl, rfl⟩ (by kernel_rfl) rfl
    (fun f fn hf hfn => by
      obtain rfl : f = 6 := Option.some.inj ((show Tryd.prog.funcNamed "spyglass/spyglasslaw08.CellElse" = some 6 by kernel_rfl).symm.trans hf) |>.symm
      obtain rfl : fn = Tryd.f6 := (Option.some.inj (Tryd.func6.symm.trans hfn)).symm
      exact ⟨by kernel_rfl, fun j t ht => by
        rw [Tryd.params6] at ht
        have hm : t ∈ [29, 39] := by simpa using Array.mem_of_getElem? ht
        have hall : ([29, 39].all fun u => !Tryd.prog.wantsStandIn u) = true := by kernel_rfl
        exact (show Tryd.prog.wantsStandIn t = false by simpa using List.all_eq_true.1 hall t hm)⟩)
    (by kernel_rfl)
end Go.Proofs.YtaofkipamliijaaDoor.cellElse
