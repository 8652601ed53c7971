/-
  The reference's Erase.
-/
import Derived.Test.YtflnocgahdlojaaDoorCellRefPc
import Derived.Test.YtflnocgahdlojaaDoorCellRefRow
namespace Go.Proofs.YtflnocgahdlojaaDoor
open Go.RowKit

def eraK (L : List Ce) (x y : Int) (p : Pn) (k : Nat) : List Pc := (eraseR L x y p).take k ++ (piecesS L).drop k
theorem eraK_len {L : List Ce} {x y : Int} {p : Pn} {k : Nat} (h : k ≤ L.length) : (eraK L x y p k).length = L.length := by simp [eraK, eraseR_length, piecesS_length]; omega
theorem eraK_zero (L : List Ce) (x y : Int) (p : Pn) : eraK L x y p 0 = piecesS L := by simp [eraK]
theorem eraK_all (L : List Ce) (x y : Int) (p : Pn) : eraK L x y p L.length = eraseR L x y p := by
  unfold eraK
  rw [List.take_of_length_le (by rw [eraseR_length]; exact Nat.le_refl _), List.drop_eq_nil_of_le (by rw [piecesS_length]; exact Nat.le_refl _), List.append_nil]
theorem pAt_eraK {L : List Ce} {x y : Int} {p : Pn} {k i : Nat} (h : k ≤ L.length) (hi : i < L.length) : pAt (eraK L x y p k) i = if i < k then pAt (eraseR L x y p) i else (cAt L i, (i : Int)) := by
  unfold eraK
  rw [pAt_append, List.length_take, eraseR_length, Nat.min_eq_left h, pAt_take, pAt_drop]
  by_cases e : i < k
  · simp only [e, if_true]
  · rw [if_neg e, if_neg e, show k + (i - k) = i by omega, pAt_piecesS hi]
theorem eraK_in {L : List Ce} {x y : Int} {p : Pn} {k : Nat} (h : k < L.length) (hc : x ≤ (k : Int) ∧ (k : Int) < y) : (eraK L x y p k).set k (blankS p, -10) = eraK L x y p (k + 1) := by
  refine prow_ext (by rw [List.length_set, eraK_len (by omega), eraK_len (by omega)]) fun i hi => ?_
  rw [List.length_set, eraK_len (by omega)] at hi
  rw [pAt_set, eraK_len (by omega), pAt_eraK (by omega) hi, pAt_eraK (by omega) hi]
  by_cases e : i = k
  · subst e
    rw [if_pos ⟨rfl, hi⟩, if_pos (by omega), pAt_eraseR hi, if_pos hc]
  · rw [if_neg (fun e2 => e e2.1)]
    by_cases e2 : i < k
    · rw [if_pos e2, if_pos (by omega)]
    · rw [if_neg e2, if_neg (by omega)]
theorem eraK_out {L : List Ce} {x y : Int} {p : Pn} {k : Nat} (h : k < L.length) (hc : ¬ (x ≤ (k : Int) ∧ (k : Int) < y)) : eraK L x y p k = eraK L x y p (k + 1) := by
  refine prow_ext (by rw [eraK_len (by omega), eraK_len (by omega)]) fun i hi => ?_
  rw [eraK_len (by omega)] at hi
  rw [pAt_eraK (by omega) hi, pAt_eraK (by omega) hi]
  by_cases e : i = k
  · subst e
    rw [if_neg (by omega), if_pos (by omega), pAt_eraseR hi, if_neg hc]
  · by_cases e2 : i < k
    · rw [if_pos e2, if_pos (by omega)]
    · rw [if_neg e2, if_neg (by omega)]
theorem eraR_from {L : List Ce} (x y : Int) (p : Pn) {i : Nat} (h : i < L.length) : -1000 ≤ (pAt (eraseR L x y p) i).2 ∧ ((pAt (eraseR L x y p) i).2 ≤ (i : Int)) := by
  rw [pAt_eraseR h]
  split
  · exact ⟨by simp, by first | (simp; done) | (simp; omega)⟩
  · exact ⟨by first | (simp; done) | (simp; omega), by simp⟩
set_option maxHeartbeats 3200000 in
set_option maxRecDepth 100000 in
theorem refErase_at {w : World} {A : Option Addr} {n c : Nat} {L R : List Ce} (x y : Int) (p : Pn) (h : Vs ceV w A n L) (hn : n ≤ 1000000) {ok : Bool} (hok : (rowMay L && penMayS p) = ok) (hres : mendS (eraseR L x y p) = R) :
    Calls Tryd.prog 60 #[.slice A n c, .int .i64 x, .int .i64 y, .agg (pnA p)] w (OpPost R ok w) := by
  have HK := Lib.hid hok
  have HR := Lib.hid hres
  obtain ⟨w0, hw0⟩ : ∃ w0, w0 = w.alloc (.cells (pnA p) 29) := ⟨_, rfl⟩
  obtain ⟨b, hbe⟩ : ∃ b, b = w.heap.size := ⟨_, rfl⟩
  have H := Lib.hid (show Vs ceV w0 A n L ∧ Pen4 w0 b p ∧ Below w.heap.size w w0 ∧ w.heap.size = b from by
    rw [hw0, hbe]
    exact ⟨h.alloc _, pen4_new w p _, (Below.refl _ _).alloc (Nat.le_refl _) _, rfl⟩)
  have HL := Lib.hid h.len
  clear h hok hres
  unfold pnA at hw0
  go_enter Tryd.func60, Tryd.ntmps60
  unfold pnA
  go_upto_region 1 with fail
  rw [← hw0, ← hbe]
  clear hw0 hbe
  go_wp2_with fail
  refine (refRowMay_any H.out.1 (by omega)).mono ?_
  rintro e w1 ⟨rfl, hb⟩
  have X1 := Lib.hid (show Below w.heap.size w w1 ∧ Vs ceV w1 A n L ∧ Pen4 w1 b p from ⟨H.out.2.2.1.trans (hb.mono H.out.2.2.1.size), H.out.1.below hb, H.out.2.1.below hb⟩)
  clear hb
  obtain ⟨M1, hM1⟩ : ∃ M1, rowMay L = M1 := ⟨_, rfl⟩
  rw [hM1]
  have HM1 := Lib.hid hM1
  clear hM1
  cases M1
  · have hf : ok = false := by have := HK.out; rw [HM1.out] at this; simpa using this.symm
    subst hf
    have HP : Hid (OpPost R false w (.returned (.slice none 0 0)) w1) := ⟨fun e => (by cases e), fun _ => ⟨rfl, X1.out.1⟩⟩
    go_wp2_with fail
    go_ret
    exact HP.out
  obtain ⟨c0, c1, c2, c3, _⟩ := X1.out.2.2
  go_wp2_with fail
  refine (refPenMay_any p _).mono ?_
  rintro e w2 ⟨rfl, hb⟩
  have X := Lib.hid (show Below w.heap.size w w2 ∧ Vs ceV w2 A n L ∧ Pen4 w2 b p from ⟨X1.out.1.trans (hb.mono X1.out.1.size), X1.out.2.1.below hb, X1.out.2.2.below hb⟩)
  clear hb c0 c1 c2 c3 X1 H
  obtain ⟨M1, hM1⟩ : ∃ M1, penMayS p = M1 := ⟨_, rfl⟩
  rw [hM1]
  have HM2 := Lib.hid hM1
  clear hM1
  cases M1
  · have hf : ok = false := by have := HK.out; rw [HM2.out] at this; simpa using this.symm
    subst hf
    have HP : Hid (OpPost R false w (.returned (.slice none 0 0)) w2) := ⟨fun e => (by cases e), fun _ => ⟨rfl, X.out.1⟩⟩
    go_wp2_with fail
    go_ret
    exact HP.out
  have hf : ok = true := by have := HK.out; rw [HM1.out, HM2.out] at this; simpa using this.symm
  subst hf
  have hn80 : n ≤ 80 := by rw [← HL.out]; exact ((rowMay_iff L).1 HM1.out).le
  have hn1 : 1 ≤ n := by rw [← HL.out]; exact ((rowMay_iff L).1 HM1.out).pos
  have HBk := Lib.hid (show ∀ w' : World, Calls Tryd.prog 41 #[.agg #[.int .u32 p.fg, .int .u32 p.bg, .int .u8 p.st, .int .u16 p.lk]] w' fun e w'' => e = .returned (.agg #[.int .i32 32, .int .u8 0, .int .u32 0, .int .u32 p.bg, .int .u8 0, .int .u16 0]) ∧ Below w'.heap.size w' w'' from fun w' => refBlank_any p w')
  go_wp2_with fail
  refine (pieces_any X.out.2.1 (by omega)).mono ?_
  rintro e w3 ⟨hb, g1, c1, rfl, hg1, hk1, hm1, hR1⟩
  rw [piecesS_length, HL.out]
  have HNE := Lib.hid (show (some g1 : Option Nat) ≠ some b from by intro e; injection e with e; have := X.out.2.2.lt; omega)
  have Y := Lib.hid (show Below w.heap.size w w3 ∧ Pen4 w3 b p ∧ Rw pcV 87 w3 g1 (eraK L x y p 0) ∧ w.heap.size ≤ g1 from ⟨X.out.1.trans (hb.mono X.out.1.size), X.out.2.2.below hb, by rw [eraK_zero]; exact hR1, Nat.le_trans X.out.1.size hg1⟩)
  clear hb hg1 hR1 hk1 hm1 X
  go_wp2_with fail
  go_loopw [23] (fun i wr => ∃ k : Nat, k ≤ n ∧ i = .int .i64 k ∧ Below w.heap.size w wr ∧ Pen4 wr b p ∧ Rw pcV 87 wr g1 (eraK L x y p k)) (fun i _ => n - (intOf i).toNat)
  case atStart => exact ⟨0, Nat.zero_le _, rfl, Y.out.1, Y.out.2.1, Y.out.2.2.1⟩
  case round =>
    obtain ⟨k, hk, rfl, hbw, hpw, hRk⟩ := hrel
    have Z := Lib.hid (show Below w.heap.size w wr ∧ Pen4 wr b p ∧ Rw pcV 87 wr g1 (eraK L x y p k) from ⟨hbw, hpw, hRk⟩)
    clear hbw hpw hRk
    by_cases hlt : k < n
    · have hkl : (k : Int) < (n : Int) := by omega
      have HKL := Lib.hid (show k < L.length from by rw [HL.out]; exact hlt)
      by_cases hx : x ≤ (k : Int)
      · by_cases hy : (k : Int) < y
        · obtain ⟨c0, c1', c2, c3, _⟩ := Z.out.2.1
          go_wp2_with fail
          refine (HBk.out wr).mono ?_
          rintro e w5 ⟨rfl, hb⟩
          have hR5 := Z.out.2.2.below hb
          have Z5 := Lib.hid (And.intro (Z.out.1.trans (hb.mono Z.out.1.size)) (Z.out.2.1.below hb))
          clear hb c0 c1' c2 c3
          go_wp2_with (refine wpList_store_V rfl 87 (.tmp 39) (.tmp 38) rfl pcV_len one_pc infoPc g1 _ k (blankS p, -10) _ rfl rfl rfl rfl 87 _ hR5 (by rw [eraK_len (by have := HKL.out; omega)]; exact HKL.out) ?_; intro w6 hR6 hg6)
          have Z6 := Lib.hid (show Below w.heap.size w w6 ∧ Pen4 w6 b p ∧ Rw pcV 87 w6 g1 (eraK L x y p (k + 1)) from ⟨Below.grown Z5.out.1 hg6 Z5.out.1.size (fun k hk => by injection hk with hk; have := Y.out.2.2.2; omega), Z5.out.2.grown hg6 HNE.out, by rw [eraK_in HKL.out ⟨hx, hy⟩] at hR6; exact hR6⟩)
          clear hR6 hg6 hR5 Z5
          go_wp2_with fail
          go_roundw
          case rel => exact ⟨k + 1, by omega, by go_num, Z6.out⟩
          case measure => simp [intOf]; omega
        · have hy2 : y ≤ (k : Int) := by omega
          have Z6 := Lib.hid (show Below w.heap.size w wr ∧ Pen4 wr b p ∧ Rw pcV 87 wr g1 (eraK L x y p (k + 1)) from ⟨Z.out.1, Z.out.2.1, by rw [← eraK_out HKL.out (fun e => hy e.2)]; exact Z.out.2.2⟩)
          go_wp2_with fail
          go_roundw
          case rel => exact ⟨k + 1, by omega, by go_num, Z6.out⟩
          case measure => simp [intOf]; omega
      · have hx2 : (k : Int) < x := by omega
        have Z6 := Lib.hid (show Below w.heap.size w wr ∧ Pen4 wr b p ∧ Rw pcV 87 wr g1 (eraK L x y p (k + 1)) from ⟨Z.out.1, Z.out.2.1, by rw [← eraK_out HKL.out (fun e => hx e.1)]; exact Z.out.2.2⟩)
        go_wp2_with fail
        go_roundw
        case rel => exact ⟨k + 1, by omega, by go_num, Z6.out⟩
        case measure => simp [intOf]; omega
    · obtain rfl : k = n := by omega
      have hRk := Z.out.2.2
      rw [← HL.out, eraK_all] at hRk
      have hvv := hRk.vs
      rw [eraseR_length, HL.out] at hvv
      have HV := Lib.hid (show Vs pcV wr (some ⟨g1, 0, none⟩) k (eraseR L x y p) ∧ ∀ (i : Nat), i < k → -1000 ≤ (pAt (eraseR L x y p) i).2 ∧ (pAt (eraseR L x y p) i).2 ≤ 1000 from ⟨hvv, fun i hi => by have := eraR_from (L := L) x y p (i := i) (by rw [HL.out]; exact hi); omega⟩)
      clear hRk hvv
      go_wp2_with fail
      refine (mend_any (c := c1) HV.out.1 (by omega) HV.out.2).mono ?_
      rintro e w9 ⟨hb, g9, c9, rfl, hg9, hk9, hm9, hR9⟩
      have HP : Hid (OpPost R true w (.returned (.slice (some ⟨g9, 0, none⟩) (mendS (eraseR L x y p)).length c9)) w9) := by
        refine ⟨fun _ => ⟨Z.out.1.trans (hb.mono Z.out.1.size), g9, c9, by rw [← HR.out], Nat.le_trans Z.out.1.size hg9, by rw [← HR.out]; exact hk9, hm9, by rw [← HR.out]; exact hR9⟩, fun e => (by cases e)⟩
      clear hb hg9 hk9 hm9 hR9
      go_wp2_with fail
      go_ret
      exact HP.out
end Go.Proofs.YtflnocgahdlojaaDoor
