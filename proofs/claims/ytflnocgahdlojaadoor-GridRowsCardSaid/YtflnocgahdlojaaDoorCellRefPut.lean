/-
  The reference's Put.
-/
import Derived.Test.YtflnocgahdlojaaDoorCellRefPc
import Derived.Test.YtflnocgahdlojaaDoorCellRefRow
namespace Go.Proofs.YtflnocgahdlojaaDoor
open Go.RowKit

theorem piecesS_from {L : List Ce} {i : Nat} (h : i < L.length) : (pAt (piecesS L) i).2 = (i : Int) := by rw [pAt_piecesS h]
theorem putR_len (L : List Ce) (x r : Int) (p : Pn) : (putR L x r p).length = L.length := by unfold putR; (repeat' split) <;> simp [piecesS_length]
theorem putR_from {L : List Ce} (x r : Int) (p : Pn) {i : Nat} (h : i < L.length) : -10 ≤ (pAt (putR L x r p) i).2 ∧ (pAt (putR L x r p) i).2 ≤ (i : Int) := by
  unfold putR
  split
  · rw [pAt_set]
    split
    · exact ⟨by simp, by first | (simp; done) | (simp; omega)⟩
    · rw [piecesS_from h]; omega
  · split
    · rw [pAt_set, pAt_set]
      split
      · exact ⟨by simp, by first | (simp; done) | (simp; omega)⟩
      · split
        · exact ⟨by simp, by first | (simp; done) | (simp; omega)⟩
        · rw [piecesS_from h]; omega
    · rw [piecesS_from h]; omega
set_option maxHeartbeats 3200000 in
set_option maxRecDepth 100000 in
theorem refPut_at {w : World} {A : Option Addr} {n c : Nat} {L R : List Ce} (x r : Int) (p : Pn) (h : Vs ceV w A n L) (hn : n ≤ 1000000) {ok : Bool} (hok : (rowMay L && penMayS p) = ok) (hres : mendS (putR L x r p) = R) :
    Calls Tryd.prog 57 #[.slice A n c, .int .i64 x, .int .i32 r, .agg (pnA p)] w (OpPost R ok w) := by
  have HK := Lib.hid hok
  have HR := Lib.hid hres
  obtain ⟨w0, hw0⟩ : ∃ w0, w0 = w.alloc (.cells (pnA p) 29) := ⟨_, rfl⟩
  obtain ⟨b, hbe⟩ : ∃ b, b = w.heap.size := ⟨_, rfl⟩
  have H := Lib.hid (show Vs ceV w0 A n L ∧ Pen4 w0 b p ∧ Below w.heap.size w w0 ∧ w.heap.size = b from by
    rw [hw0, hbe]
    exact ⟨h.alloc _, pen4_new w p _, (Below.refl _ _).alloc (Nat.le_refl _) _, rfl⟩)
  have HL := Lib.hid h.len
  clear h hok hres
  unfold pnA at hw0
  go_enter Tryd.func57, Tryd.ntmps57
  unfold pnA
  go_upto_region 1 with fail
  rw [← hw0, ← hbe]
  clear hw0 hbe
  go_wp2_with fail
  refine (refRowMay_any H.out.1 (by omega)).mono ?_
  rintro e w1 ⟨rfl, hb⟩
  have X1 := Lib.hid (show Below w.heap.size w w1 ∧ Vs ceV w1 A n L ∧ Pen4 w1 b p from ⟨H.out.2.2.1.trans (hb.mono H.out.2.2.1.size), H.out.1.below hb, H.out.2.1.below hb⟩)
  clear hb
  obtain ⟨M1, hM1⟩ : ∃ M1, rowMay L = M1 := ⟨_, rfl⟩
  rw [hM1]
  have HM1 := Lib.hid hM1
  clear hM1
  cases M1
  · have hf : ok = false := by have := HK.out; rw [HM1.out] at this; simpa using this.symm
    subst hf
    have HP : Hid (OpPost R false w (.returned (.slice none 0 0)) w1) := ⟨fun e => (by cases e), fun _ => ⟨rfl, X1.out.1⟩⟩
    go_wp2_with fail
    go_ret
    exact HP.out
  obtain ⟨c0, c1, c2, c3, _⟩ := X1.out.2.2
  go_wp2_with fail
  refine (refPenMay_any p _).mono ?_
  rintro e w2 ⟨rfl, hb⟩
  have X := Lib.hid (show Below w.heap.size w w2 ∧ Vs ceV w2 A n L ∧ Pen4 w2 b p from ⟨X1.out.1.trans (hb.mono X1.out.1.size), X1.out.2.1.below hb, X1.out.2.2.below hb⟩)
  clear hb c0 c1 c2 c3 X1 H
  obtain ⟨M1, hM1⟩ : ∃ M1, penMayS p = M1 := ⟨_, rfl⟩
  rw [hM1]
  have HM2 := Lib.hid hM1
  clear hM1
  cases M1
  · have hf : ok = false := by have := HK.out; rw [HM2.out] at this; simpa using this.symm
    subst hf
    have HP : Hid (OpPost R false w (.returned (.slice none 0 0)) w2) := ⟨fun e => (by cases e), fun _ => ⟨rfl, X.out.1⟩⟩
    go_wp2_with fail
    go_ret
    exact HP.out
  have hf : ok = true := by have := HK.out; rw [HM1.out, HM2.out] at this; simpa using this.symm
  subst hf
  have hn80 : n ≤ 80 := by rw [← HL.out]; exact ((rowMay_iff L).1 HM1.out).le
  have hn1 : 1 ≤ n := by rw [← HL.out]; exact ((rowMay_iff L).1 HM1.out).pos
  obtain ⟨c0, c1, c2, c3, _⟩ := X.out.2.2
  go_wp2_with fail
  refine (refWid_any r w2).mono ?_
  rintro e w3 ⟨rfl, rfl⟩
  obtain ⟨V, hV⟩ : ∃ V, widthS r = V := ⟨_, rfl⟩
  rw [hV]
  have HW := Lib.hid hV
  clear hV
  go_wp2_with fail
  refine (pieces_any X.out.2.1 (by omega)).mono ?_
  rintro e w3 ⟨hb, g1, c1, rfl, hg1, hk1, hm1, hR1⟩
  rw [piecesS_length, HL.out]
  have HNE := Lib.hid (show (some g1 : Option Nat) ≠ some b from by intro e; injection e with e; have := X.out.2.2.lt; omega)
  have Y := Lib.hid (show Below w.heap.size w w3 ∧ Pen4 w3 b p ∧ Rw pcV 87 w3 g1 (piecesS L) ∧ w.heap.size ≤ g1 from ⟨X.out.1.trans (hb.mono X.out.1.size), X.out.2.2.below hb, hR1, Nat.le_trans X.out.1.size hg1⟩)
  clear hb hg1 hR1 hk1 hm1 X c0 c2 c3
  by_cases hx1 : 0 ≤ x
  · by_cases hx2 : x < (n : Int)
    · by_cases hv1 : V = 1
      · subst hv1
        obtain ⟨a, rfl⟩ : ∃ a : Nat, x = (a : Int) := ⟨x.toNat, by omega⟩
        have ha : a < n := by omega
        by_cases hx3 : (a : Int) < (n : Int) - 1
        · have HPR := Lib.hid (show putR L (a : Int) r p = (piecesS L).set a (⟨r, 0, p⟩, -10) from by unfold putR; rw [if_pos (by rw [HW.out]; have := HL.out; omega)]; rfl)
          have hfr := fun (i : Nat) (hi : i < n) => putR_from (L := L) (a : Int) r p (i := i) (by rw [HL.out]; exact hi)
          rw [HPR.out] at hfr
          have HF := Lib.hid hfr
          clear hfr
          obtain ⟨c0, c1', c2, c3, _⟩ := Y.out.2.1
          have hRp := Y.out.2.2.1
          go_wp2_with (refine wpList_store_V rfl 87 (.tmp 41) (.tmp 40) rfl pcV_len one_pc infoPc g1 _ a (⟨r, 0, p⟩, -10) _ rfl rfl rfl rfl 87 _ hRp (by rw [piecesS_length, HL.out]; exact ha) ?_; intro w5 hR5 hg5)
          have hvv := hR5.vs
          rw [List.length_set, piecesS_length, HL.out] at hvv
          have HV := Lib.hid (show Vs pcV w5 (some ⟨g1, 0, none⟩) n ((piecesS L).set a (⟨r, 0, p⟩, -10)) ∧ Below w.heap.size w w5 ∧ ∀ (i : Nat), i < n → -1000 ≤ (pAt ((piecesS L).set a (⟨r, 0, p⟩, -10)) i).2 ∧ (pAt ((piecesS L).set a (⟨r, 0, p⟩, -10)) i).2 ≤ 1000 from ⟨hvv, Below.grown Y.out.1 hg5 Y.out.1.size (fun k hk => by injection hk with hk; have := Y.out.2.2.2; omega), fun i hi => by have := HF.out i hi; omega⟩)
          clear hvv hR5 hg5 hRp
          go_wp2_with fail
          refine (mend_any (c := c1) HV.out.1 (by omega) HV.out.2.2).mono ?_
          rintro e w9 ⟨hb, g9, c9, rfl, hg9, hk9, hm9, hR9⟩
          have HP : Hid (OpPost R true w (.returned (.slice (some ⟨g9, 0, none⟩) (mendS ((piecesS L).set a (⟨r, 0, p⟩, -10))).length c9)) w9) := by
            refine ⟨fun _ => ⟨HV.out.2.1.trans (hb.mono HV.out.2.1.size), g9, c9, by rw [← HR.out, HPR.out], Nat.le_trans HV.out.2.1.size hg9, by rw [← HR.out, HPR.out]; exact hk9, hm9, by rw [← HR.out, HPR.out]; exact hR9⟩, fun e => (by cases e)⟩
          clear hb hg9 hk9 hm9 hR9
          go_wp2_with fail
          go_ret
          exact HP.out
        · have hx4 : (n : Int) - 1 ≤ (a : Int) := by omega
          have HPR := Lib.hid (show putR L (a : Int) r p = (piecesS L).set a (⟨r, 0, p⟩, -10) from by unfold putR; rw [if_pos (by rw [HW.out]; have := HL.out; omega)]; rfl)
          have hfr := fun (i : Nat) (hi : i < n) => putR_from (L := L) (a : Int) r p (i := i) (by rw [HL.out]; exact hi)
          rw [HPR.out] at hfr
          have HF := Lib.hid hfr
          clear hfr
          obtain ⟨c0, c1', c2, c3, _⟩ := Y.out.2.1
          have hRp := Y.out.2.2.1
          go_wp2_with (refine wpList_store_V rfl 87 (.tmp 41) (.tmp 40) rfl pcV_len one_pc infoPc g1 _ a (⟨r, 0, p⟩, -10) _ rfl rfl rfl rfl 87 _ hRp (by rw [piecesS_length, HL.out]; exact ha) ?_; intro w5 hR5 hg5)
          have hvv := hR5.vs
          rw [List.length_set, piecesS_length, HL.out] at hvv
          have HV := Lib.hid (show Vs pcV w5 (some ⟨g1, 0, none⟩) n ((piecesS L).set a (⟨r, 0, p⟩, -10)) ∧ Below w.heap.size w w5 ∧ ∀ (i : Nat), i < n → -1000 ≤ (pAt ((piecesS L).set a (⟨r, 0, p⟩, -10)) i).2 ∧ (pAt ((piecesS L).set a (⟨r, 0, p⟩, -10)) i).2 ≤ 1000 from ⟨hvv, Below.grown Y.out.1 hg5 Y.out.1.size (fun k hk => by injection hk with hk; have := Y.out.2.2.2; omega), fun i hi => by have := HF.out i hi; omega⟩)
          clear hvv hR5 hg5 hRp
          go_wp2_with fail
          refine (mend_any (c := c1) HV.out.1 (by omega) HV.out.2.2).mono ?_
          rintro e w9 ⟨hb, g9, c9, rfl, hg9, hk9, hm9, hR9⟩
          have HP : Hid (OpPost R true w (.returned (.slice (some ⟨g9, 0, none⟩) (mendS ((piecesS L).set a (⟨r, 0, p⟩, -10))).length c9)) w9) := by
            refine ⟨fun _ => ⟨HV.out.2.1.trans (hb.mono HV.out.2.1.size), g9, c9, by rw [← HR.out, HPR.out], Nat.le_trans HV.out.2.1.size hg9, by rw [← HR.out, HPR.out]; exact hk9, hm9, by rw [← HR.out, HPR.out]; exact hR9⟩, fun e => (by cases e)⟩
          clear hb hg9 hk9 hm9 hR9
          go_wp2_with fail
          go_ret
          exact HP.out
      · have t1 : (V == 1) = false := by simpa using hv1
        by_cases hx3 : x < (n : Int) - 1
        · by_cases hv2 : V = 2
          · subst hv2
            obtain ⟨a, rfl⟩ : ∃ a : Nat, x = (a : Int) := ⟨x.toNat, by omega⟩
            have ha : a < n := by omega
            have HPR := Lib.hid (show putR L (a : Int) r p = (((piecesS L).set a (⟨r, 1, p⟩, -10)).set (a + 1) (⟨0, 2, p⟩, -9)) from by unfold putR; rw [if_neg (by rw [HW.out]; omega), if_pos (by rw [HW.out]; have := HL.out; omega)]; rfl)
            have hfr := fun (i : Nat) (hi : i < n) => putR_from (L := L) (a : Int) r p (i := i) (by rw [HL.out]; exact hi)
            rw [HPR.out] at hfr
            have HF := Lib.hid hfr
            clear hfr
            obtain ⟨c0, c1', c2, c3, _⟩ := Y.out.2.1
            have hRp := Y.out.2.2.1
            have hi2 : (a : Int) + 1 < (n : Int) := by omega
            have hi3 : ((a : Int) + 1).toNat = a + 1 := by omega
            go_wp2_with (refine wpList_store_V rfl 87 (.tmp 61) (.tmp 60) rfl pcV_len one_pc infoPc g1 _ a (⟨r, 1, p⟩, -10) _ rfl rfl rfl rfl 87 _ hRp (by rw [piecesS_length, HL.out]; exact ha) ?_; intro w5 hR5 hg5; obtain ⟨c0, c1', c2, c3, _⟩ := Y.out.2.1.grown hg5 HNE.out; go_wp2_with (refine wpList_store_V rfl 87 (.tmp 68) (.tmp 67) rfl pcV_len one_pc infoPc g1 _ (a + 1) (⟨0, 2, p⟩, -9) _ rfl rfl rfl rfl 87 _ hR5 (by rw [List.length_set, piecesS_length, HL.out]; omega) ?_; intro w6 hR6 hg6))
            have hvv := hR6.vs
            rw [List.length_set, List.length_set, piecesS_length, HL.out] at hvv
            have HV := Lib.hid (show Vs pcV w6 (some ⟨g1, 0, none⟩) n (((piecesS L).set a (⟨r, 1, p⟩, -10)).set (a + 1) (⟨0, 2, p⟩, -9)) ∧ Below w.heap.size w w6 ∧ ∀ (i : Nat), i < n → -1000 ≤ (pAt (((piecesS L).set a (⟨r, 1, p⟩, -10)).set (a + 1) (⟨0, 2, p⟩, -9)) i).2 ∧ (pAt (((piecesS L).set a (⟨r, 1, p⟩, -10)).set (a + 1) (⟨0, 2, p⟩, -9)) i).2 ≤ 1000 from ⟨hvv, Below.grown Y.out.1 (hg5.trans hg6) Y.out.1.size (fun k hk => by injection hk with hk; have := Y.out.2.2.2; omega), fun i hi => by have := HF.out i hi; omega⟩)
            clear hvv hR5 hg5 hR6 hg6 hRp
            go_wp2_with fail
            refine (mend_any (c := c1) HV.out.1 (by omega) HV.out.2.2).mono ?_
            rintro e w9 ⟨hb, g9, c9, rfl, hg9, hk9, hm9, hR9⟩
            have HP : Hid (OpPost R true w (.returned (.slice (some ⟨g9, 0, none⟩) (mendS (((piecesS L).set a (⟨r, 1, p⟩, -10)).set (a + 1) (⟨0, 2, p⟩, -9))).length c9)) w9) := by
              refine ⟨fun _ => ⟨HV.out.2.1.trans (hb.mono HV.out.2.1.size), g9, c9, by rw [← HR.out, HPR.out], Nat.le_trans HV.out.2.1.size hg9, by rw [← HR.out, HPR.out]; exact hk9, hm9, by rw [← HR.out, HPR.out]; exact hR9⟩, fun e => (by cases e)⟩
            clear hb hg9 hk9 hm9 hR9
            go_wp2_with fail
            go_ret
            exact HP.out
          · have t2 : (V == 2) = false := by simpa using hv2
            have HPR := Lib.hid (show putR L x r p = piecesS L from by unfold putR; rw [if_neg (by rw [HW.out]; have := HL.out; omega), if_neg (by rw [HW.out]; have := HL.out; omega)])
            have hfr := fun (i : Nat) (hi : i < n) => putR_from (L := L) x r p (i := i) (by rw [HL.out]; exact hi)
            rw [HPR.out] at hfr
            have hvv := Y.out.2.2.1.vs
            rw [piecesS_length, HL.out] at hvv
            have HV := Lib.hid (And.intro hvv (fun (i : Nat) (hi : i < n) => (show -1000 ≤ (pAt (piecesS L) i).2 ∧ (pAt (piecesS L) i).2 ≤ 1000 from by have := hfr i hi; omega)))
            clear hfr hvv
            obtain ⟨c0, c1', c2, c3, _⟩ := Y.out.2.1
            go_wp2_with fail
            refine (mend_any (c := c1) HV.out.1 (by omega) HV.out.2).mono ?_
            rintro e w9 ⟨hb, g9, c9, rfl, hg9, hk9, hm9, hR9⟩
            have HP : Hid (OpPost R true w (.returned (.slice (some ⟨g9, 0, none⟩) (mendS (piecesS L)).length c9)) w9) := by
              refine ⟨fun _ => ⟨Y.out.1.trans (hb.mono Y.out.1.size), g9, c9, by rw [← HR.out, HPR.out], Nat.le_trans Y.out.1.size hg9, by rw [← HR.out, HPR.out]; exact hk9, hm9, by rw [← HR.out, HPR.out]; exact hR9⟩, fun e => (by cases e)⟩
            clear hb hg9 hk9 hm9 hR9
            go_wp2_with fail
            go_ret
            exact HP.out
        · have hx4 : (n : Int) - 1 ≤ x := by omega
          have HPR := Lib.hid (show putR L x r p = piecesS L from by unfold putR; rw [if_neg (by rw [HW.out]; have := HL.out; omega), if_neg (by rw [HW.out]; have := HL.out; omega)])
          have hfr := fun (i : Nat) (hi : i < n) => putR_from (L := L) x r p (i := i) (by rw [HL.out]; exact hi)
          rw [HPR.out] at hfr
          have hvv := Y.out.2.2.1.vs
          rw [piecesS_length, HL.out] at hvv
          have HV := Lib.hid (And.intro hvv (fun (i : Nat) (hi : i < n) => (show -1000 ≤ (pAt (piecesS L) i).2 ∧ (pAt (piecesS L) i).2 ≤ 1000 from by have := hfr i hi; omega)))
          clear hfr hvv
          obtain ⟨c0, c1', c2, c3, _⟩ := Y.out.2.1
          go_wp2_with fail
          refine (mend_any (c := c1) HV.out.1 (by omega) HV.out.2).mono ?_
          rintro e w9 ⟨hb, g9, c9, rfl, hg9, hk9, hm9, hR9⟩
          have HP : Hid (OpPost R true w (.returned (.slice (some ⟨g9, 0, none⟩) (mendS (piecesS L)).length c9)) w9) := by
            refine ⟨fun _ => ⟨Y.out.1.trans (hb.mono Y.out.1.size), g9, c9, by rw [← HR.out, HPR.out], Nat.le_trans Y.out.1.size hg9, by rw [← HR.out, HPR.out]; exact hk9, hm9, by rw [← HR.out, HPR.out]; exact hR9⟩, fun e => (by cases e)⟩
          clear hb hg9 hk9 hm9 hR9
          go_wp2_with fail
          go_ret
          exact HP.out
    · have hx3 : (n : Int) ≤ x := by omega
      have hx4 : (n : Int) - 1 ≤ x := by omega
      have HPR := Lib.hid (show putR L x r p = piecesS L from by unfold putR; rw [if_neg (by rw [HW.out]; have := HL.out; omega), if_neg (by rw [HW.out]; have := HL.out; omega)])
      have hfr := fun (i : Nat) (hi : i < n) => putR_from (L := L) x r p (i := i) (by rw [HL.out]; exact hi)
      rw [HPR.out] at hfr
      have hvv := Y.out.2.2.1.vs
      rw [piecesS_length, HL.out] at hvv
      have HV := Lib.hid (And.intro hvv (fun (i : Nat) (hi : i < n) => (show -1000 ≤ (pAt (piecesS L) i).2 ∧ (pAt (piecesS L) i).2 ≤ 1000 from by have := hfr i hi; omega)))
      clear hfr hvv
      obtain ⟨c0, c1', c2, c3, _⟩ := Y.out.2.1
      go_wp2_with fail
      refine (mend_any (c := c1) HV.out.1 (by omega) HV.out.2).mono ?_
      rintro e w9 ⟨hb, g9, c9, rfl, hg9, hk9, hm9, hR9⟩
      have HP : Hid (OpPost R true w (.returned (.slice (some ⟨g9, 0, none⟩) (mendS (piecesS L)).length c9)) w9) := by
        refine ⟨fun _ => ⟨Y.out.1.trans (hb.mono Y.out.1.size), g9, c9, by rw [← HR.out, HPR.out], Nat.le_trans Y.out.1.size hg9, by rw [← HR.out, HPR.out]; exact hk9, hm9, by rw [← HR.out, HPR.out]; exact hR9⟩, fun e => (by cases e)⟩
      clear hb hg9 hk9 hm9 hR9
      go_wp2_with fail
      go_ret
      exact HP.out
  · have hx2 : x < 0 := by omega
    have HPR := Lib.hid (show putR L x r p = piecesS L from by unfold putR; rw [if_neg (by rw [HW.out]; have := HL.out; omega), if_neg (by rw [HW.out]; have := HL.out; omega)])
    have hfr := fun (i : Nat) (hi : i < n) => putR_from (L := L) x r p (i := i) (by rw [HL.out]; exact hi)
    rw [HPR.out] at hfr
    have hvv := Y.out.2.2.1.vs
    rw [piecesS_length, HL.out] at hvv
    have HV := Lib.hid (And.intro hvv (fun (i : Nat) (hi : i < n) => (show -1000 ≤ (pAt (piecesS L) i).2 ∧ (pAt (piecesS L) i).2 ≤ 1000 from by have := hfr i hi; omega)))
    clear hfr hvv
    obtain ⟨c0, c1', c2, c3, _⟩ := Y.out.2.1
    go_wp2_with fail
    refine (mend_any (c := c1) HV.out.1 (by omega) HV.out.2).mono ?_
    rintro e w9 ⟨hb, g9, c9, rfl, hg9, hk9, hm9, hR9⟩
    have HP : Hid (OpPost R true w (.returned (.slice (some ⟨g9, 0, none⟩) (mendS (piecesS L)).length c9)) w9) := by
      refine ⟨fun _ => ⟨Y.out.1.trans (hb.mono Y.out.1.size), g9, c9, by rw [← HR.out, HPR.out], Nat.le_trans Y.out.1.size hg9, by rw [← HR.out, HPR.out]; exact hk9, hm9, by rw [← HR.out, HPR.out]; exact hR9⟩, fun e => (by cases e)⟩
    clear hb hg9 hk9 hm9 hR9
    go_wp2_with fail
    go_ret
    exact HP.out
end Go.Proofs.YtflnocgahdlojaaDoor
