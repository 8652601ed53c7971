/-
  The reference's Delete.
-/
import Derived.Test.YtflnocgahdlojaaDoorCellRefIns
namespace Go.Proofs.YtflnocgahdlojaaDoor
open Go.RowKit

set_option maxHeartbeats 3200000 in
set_option maxRecDepth 100000 in
theorem refDelete_at {w : World} {A : Option Addr} {n c : Nat} {L R : List Ce} (x y : Int) (p : Pn) (h : Vs ceV w A n L) (hn : n ≤ 1000000) {ok : Bool} (hok : (rowMay L && penMayS p) = ok) (hres : delRS L x y p = R) :
    Calls Tryd.prog 59 #[.slice A n c, .int .i64 x, .int .i64 y, .agg (pnA p)] w (OpPost R ok w) := by
  have HK := Lib.hid hok
  have HR := Lib.hid hres
  obtain ⟨w0, hw0⟩ : ∃ w0, w0 = w.alloc (.cells (pnA p) 29) := ⟨_, rfl⟩
  obtain ⟨b, hbe⟩ : ∃ b, b = w.heap.size := ⟨_, rfl⟩
  have H := Lib.hid (show Vs ceV w0 A n L ∧ Pen4 w0 b p ∧ Below w.heap.size w w0 ∧ w.heap.size = b from by
    rw [hw0, hbe]
    exact ⟨h.alloc _, pen4_new w p _, (Below.refl _ _).alloc (Nat.le_refl _) _, rfl⟩)
  have HL := Lib.hid h.len
  clear h hok hres
  unfold pnA at hw0
  go_enter Tryd.func59, Tryd.ntmps59
  unfold pnA
  go_upto_region 1 with fail
  rw [← hw0, ← hbe]
  clear hw0 hbe
  go_wp2_with fail
  refine (refRowMay_any H.out.1 (by omega)).mono ?_
  rintro e w1 ⟨rfl, hb⟩
  have X1 := Lib.hid (show Below w.heap.size w w1 ∧ Vs ceV w1 A n L ∧ Pen4 w1 b p from ⟨H.out.2.2.1.trans (hb.mono H.out.2.2.1.size), H.out.1.below hb, H.out.2.1.below hb⟩)
  clear hb
  obtain ⟨M1, hM1⟩ : ∃ M1, rowMay L = M1 := ⟨_, rfl⟩
  rw [hM1]
  have HM1 := Lib.hid hM1
  clear hM1
  cases M1
  · have hf : ok = false := by have := HK.out; rw [HM1.out] at this; simpa using this.symm
    subst hf
    have HP : Hid (OpPost R false w (.returned (.slice none 0 0)) w1) := ⟨fun e => (by cases e), fun _ => ⟨rfl, X1.out.1⟩⟩
    go_wp2_with fail
    go_ret
    exact HP.out
  obtain ⟨c0, c1, c2, c3, _⟩ := X1.out.2.2
  go_wp2_with fail
  refine (refPenMay_any p _).mono ?_
  rintro e w2 ⟨rfl, hb⟩
  have X := Lib.hid (show Below w.heap.size w w2 ∧ Vs ceV w2 A n L ∧ Pen4 w2 b p from ⟨X1.out.1.trans (hb.mono X1.out.1.size), X1.out.2.1.below hb, X1.out.2.2.below hb⟩)
  clear hb c0 c1 c2 c3 X1 H
  obtain ⟨M1, hM1⟩ : ∃ M1, penMayS p = M1 := ⟨_, rfl⟩
  rw [hM1]
  have HM2 := Lib.hid hM1
  clear hM1
  cases M1
  · have hf : ok = false := by have := HK.out; rw [HM2.out] at this; simpa using this.symm
    subst hf
    have HP : Hid (OpPost R false w (.returned (.slice none 0 0)) w2) := ⟨fun e => (by cases e), fun _ => ⟨rfl, X.out.1⟩⟩
    go_wp2_with fail
    go_ret
    exact HP.out
  have hf : ok = true := by have := HK.out; rw [HM1.out, HM2.out] at this; simpa using this.symm
  subst hf
  have hn80 : n ≤ 80 := by rw [← HL.out]; exact ((rowMay_iff L).1 HM1.out).le
  have hn1 : 1 ≤ n := by rw [← HL.out]; exact ((rowMay_iff L).1 HM1.out).pos
  by_cases hx1 : 0 ≤ x
  · by_cases hx2 : x < (n : Int)
    · by_cases hy : y < 1
      · have HPC : Hid (R = L) := by show R = L; rw [← HR.out]; unfold delRS; rw [if_neg (by have := HL.out; omega)]
        have HV2 := Lib.hid (X.out.2.1.alloc (.cells #[] 41))
        go_wp2_with (at_builtin; refine wpList_app_V _ rfl (.tmp 32) (.tmp 33) 22 rfl ceV_len one_ce w2.heap.size 41 _ 20 (by omega) Tryd.underlying22 infoCe3 rfl (by omega) (.slice (some ⟨w2.heap.size, 0, none⟩) 0 0) 0 [] rfl (World.ownsRow_lit w2 #[] 0 (Nat.le_refl _) (by unfold maxLen; omega) rfl) A n c n (by omega) L rfl HV2.out (by omega) (by simp) ?_; intro A' c' w5 hown hg; simp only [List.nil_append] at hown)
        obtain ⟨g5, rfl, hb5, hle5, hm5, hR5⟩ := own_some (by omega) hown
        have HP : Hid (OpPost R true w (.returned (.slice (some ⟨g5, 0, none⟩) n c')) w5) := by
          have hbw : Below w2.heap.size w2 w5 := ((Below.refl _ _).alloc (Nat.le_refl _) _).grown hg (by simp) (by intro k hk; have : w2.heap.size = k := (by simpa [Value.ownBlock] using hk); omega)
          rw [HPC.out]
          exact ⟨fun _ => ⟨X.out.1.trans (hbw.mono X.out.1.size), g5, c', by rw [HL.out], Nat.le_trans X.out.1.size hb5, by rw [HL.out]; exact hle5, hm5, hR5⟩, fun e => (by cases e)⟩
        clear hown hg hR5
        go_wp2_with fail
        go_ret
        exact HP.out
      · obtain ⟨a, rfl⟩ : ∃ a : Nat, x = (a : Int) := ⟨x.toNat, by omega⟩
        have ha : a < n := by omega
        obtain ⟨K, hmin⟩ : ∃ K : Nat, min y ((n : Int) - (a : Int)) = (K : Int) := ⟨(min y ((n : Int) - (a : Int))).toNat, by omega⟩
        have HMIN := Lib.hid hmin
        have hK1 : 1 ≤ K := by omega
        have hK2 : a + K ≤ n := by omega
        have HPC := Lib.hid (show mendS (deleteR L a K p) = R from by rw [← HR.out]; unfold delRS; rw [if_pos (by have := HL.out; omega), HL.out, Int.toNat_natCast, show (min y ((n : Int) - (a : Int))).toNat = K by omega])
        have hy1 : 1 ≤ y := by omega
        clear hmin
        obtain ⟨d0, d1, d2, d3, _⟩ := X.out.2.2
        go_wp2_with fail
        refine (pieces_any X.out.2.1 (by omega)).mono ?_
        rintro e w3 ⟨hb, g1, c1, rfl, hg1, hk1, hm1, hR1⟩
        rw [piecesS_length, HL.out]
        rw [piecesS_length, HL.out] at hk1
        have Y := Lib.hid (show Below w.heap.size w w3 ∧ Pen4 w3 b p ∧ Rw pcV 87 w3 g1 (piecesS L) ∧ b < w3.heap.size ∧ g1 < w3.heap.size from ⟨X.out.1.trans (hb.mono X.out.1.size), X.out.2.2.below hb, hR1, by have := X.out.2.2.lt; have := hb.size; omega, hR1.lt⟩)
        have hvv := hR1.vs
        rw [piecesS_length, HL.out] at hvv
        have HVF := Lib.hid ((hvv.front pcV_len (k := a) (by omega)).alloc (.cells #[] 87))
        have HB3 := Lib.hid (show Below w3.heap.size w3 (w3.alloc (.cells #[] 87)) from (Below.refl _ _).alloc (Nat.le_refl _) _)
        have HBk := Lib.hid (show ∀ w' : World, Calls Tryd.prog 41 #[.agg #[.int .u32 p.fg, .int .u32 p.bg, .int .u8 p.st, .int .u16 p.lk]] w' fun e w'' => e = .returned (.agg #[.int .i32 32, .int .u8 0, .int .u32 0, .int .u32 p.bg, .int .u8 0, .int .u16 0]) ∧ Below w'.heap.size w' w'' from fun w' => refBlank_any p w')
        clear hb hg1 hR1 hm1 hvv d0 d1 d2 d3 X
        have hka : (a : Int) ≤ (c1 : Int) := by omega
        have hka2 : a ≤ c1 := by omega
        go_wp2_with (at_builtin; refine wpList_app_V _ rfl (.tmp 37) (.tmp 40) 84 rfl pcV_len one_pc w3.heap.size 87 _ 32 (by omega) Tryd.underlying84 infoPc3 rfl (by omega) (.slice (some ⟨w3.heap.size, 0, none⟩) 0 0) 0 [] rfl (World.ownsRow_lit w3 #[] 0 (Nat.le_refl _) (by unfold maxLen; omega) rfl) (some ⟨g1, 0, none⟩) a c1 a (by omega) ((piecesS L).take a) rfl HVF.out (by omega) (by simp) ?_; intro A' c' w5 hown hg)
        rw [List.nil_append] at hown
        have Z := Lib.hid (show Out w w3 g1 b p L w5 A' a c' ((piecesS L).take a) from ⟨Below.grown (Y.out.1.trans (HB3.out.mono Y.out.1.size)) hg (by have := Y.out.1.size; simp; omega) (fun k hk => by have : w3.heap.size = k := (by simpa [Value.ownBlock] using hk); have := Y.out.1.size; omega),
          (Y.out.2.1.below HB3.out).grown hg (fun e => by have : w3.heap.size = b := (by simpa [Value.ownBlock] using e); have := Y.out.2.2.2.1; omega), (Y.out.2.2.1.below HB3.out).grown hg (fun e => by have : w3.heap.size = g1 := (by simpa [Value.ownBlock] using e); have := Y.out.2.2.2.2; omega),
          hown, Nat.le_trans HB3.out.size hg.size, Y.out.2.2.2.1, Y.out.2.2.2.2, Y.out.1.size, by rw [List.length_take, piecesS_length, HL.out]; omega⟩)
        clear hown hg HVF hka hka2
        go_loopw [10, 11] (fun s i wr => ∃ (q : Nat) (A1 : Option Addr) (c1' m : Nat), a ≤ q ∧ q ≤ n ∧ i = .int .i64 q ∧ s = .slice A1 m c1' ∧ m = a + (q - (a + K)) ∧ Out w w3 g1 b p L wr A1 m c1' ((piecesS L).take a ++ ((piecesS L).drop (a + K)).take (q - (a + K)))) (fun _ i _ => n - (intOf i).toNat)
        case atStart => exact ⟨a, A', c', a, Nat.le_refl _, by omega, rfl, rfl, by omega, by have h := Z.out; rw [show a - (a + K) = 0 by omega]; simpa using h⟩
        case round =>
          obtain ⟨q, A1, c1', m, haq, hqn, rfl, rfl, hm, hO⟩ := hrel
          have Z := Lib.hid hO
          have hmA : m ≤ a + (q - (a + K)) := by omega
          have hmB : a + (q - (a + K)) ≤ m := by omega
          clear hO hm
          by_cases hlt : q < n
          · have hlt2 : (q : Int) < (n : Int) := by omega
            by_cases hyq : y ≤ (q : Int) - (a : Int)
            · have hqK : a + K ≤ q := by have := HMIN.out; omega
              have HKP := Lib.hid (show q < (piecesS L).length from by rw [piecesS_length, HL.out]; omega)
              obtain ⟨z, hz⟩ : ∃ z, z = pAt (piecesS L) q := ⟨_, rfl⟩
              have h7 := Z.out.rwp.seven HKP.out
              rw [← hz] at h7
              obtain ⟨z0, z1, z2, z3, z4, z5, z6⟩ := h7
              have HZ := Lib.hid (show ((piecesS L).drop (a + K)).take (q + 1 - (a + K)) = ((piecesS L).drop (a + K)).take (q - (a + K)) ++ [z] from by rw [show q + 1 - (a + K) = (q - (a + K)) + 1 by omega, take_snocP _ (by rw [List.length_drop]; have := HKP.out; omega), pAt_drop, hz, show a + K + (q - (a + K)) = q by omega])
              obtain ⟨wq, hwq⟩ : ∃ wq, wq = wr := ⟨_, rfl⟩
              have OW := Lib.hid Z.out
              subst hwq
              clear hz
              go_wp2_with (at_builtin; refine wpList_app_V _ rfl (.tmp 54) (.tmp 59) 84 rfl pcV_len one_pc w3.heap.size 87 _ 32 (by omega) Tryd.underlying84 infoPc3 rfl (by omega) _ m ((piecesS L).take a ++ ((piecesS L).drop (a + K)).take (q - (a + K))) rfl (OW.out.below ((Below.refl _ _).alloc (Nat.le_refl _) _)).own (some ⟨wq.heap.size, 0, none⟩) 1 1 (m + 1) (by omega) [z] rfl (vs_one _ _ _ _ rfl) (by omega) (OW.out.below ((Below.refl _ _).alloc (Nat.le_refl _) _)).sz ?_; intro A' c' w5 hown hg)
              have Z2 := Lib.hid (show Out w w3 g1 b p L w5 A' (m + 1) c' ((piecesS L).take a ++ ((piecesS L).drop (a + K)).take (q + 1 - (a + K))) from (OW.out.below ((Below.refl _ _).alloc (Nat.le_refl _) _)).app (by rw [HZ.out]; have h := hown; simp only [List.append_assoc] at h ⊢; exact h) hg (by have := Z.out.ln; rw [HZ.out]; simp only [List.length_append, List.length_singleton] at this ⊢; omega))
              clear hown hg OW z0 z1 z2 z3 z4 z5 z6
              go_wp2_with fail
              go_roundw
              case rel => exact ⟨q + 1, A', c', m + 1, by omega, by omega, by go_num, rfl, by omega, Z2.out⟩
              case measure => simp [intOf]; omega
            · have hyq2 : (q : Int) - (a : Int) < y := by omega
              have hqK : q < a + K := by have := HMIN.out; omega
              have Z2 := Lib.hid (show Out w w3 g1 b p L wr A1 m c1' ((piecesS L).take a ++ ((piecesS L).drop (a + K)).take (q + 1 - (a + K))) from by have h := Z.out; rw [show q - (a + K) = q + 1 - (a + K) by omega] at h; exact h)
              go_wp2_with fail
              go_roundw
              case rel => exact ⟨q + 1, A1, c1', m, by omega, by omega, by go_num, rfl, by omega, Z2.out⟩
              case measure => simp [intOf]; omega
          · have hqe : q = n := by omega
            subst hqe
            have HQ := Lib.hid (show Out w w3 g1 b p L wr A1 m c1' ((piecesS L).take a ++ ((piecesS L).drop (a + K) ++ List.replicate 0 (blankS p, -10))) from by
              have h := Z.out
              have e : ((piecesS L).drop (a + K)).take (q - (a + K)) = (piecesS L).drop (a + K) := List.take_of_length_le (by rw [List.length_drop, piecesS_length, HL.out]; omega)
              rw [e] at h
              simpa using h)
            go_wp2_with fail
            go_loopw [10] (fun s wr => ∃ (j : Nat) (A1 : Option Addr) (c1' m : Nat), j ≤ K ∧ s = .slice A1 m c1' ∧ m = q - K + j ∧ Out w w3 g1 b p L wr A1 m c1' ((piecesS L).take a ++ ((piecesS L).drop (a + K) ++ List.replicate j (blankS p, -10)))) (fun s _ => q - lenOfS s)
            case atStart => exact ⟨0, A1, c1', m, Nat.zero_le _, rfl, by omega, HQ.out⟩
            case round =>
              obtain ⟨j, A1, c1', m, hj, rfl, hm, hO⟩ := hrel
              have Z := Lib.hid hO
              have hmA2 : m ≤ q - K + j := by omega
              have hmB2 : q - K + j ≤ m := by omega
              clear hO HQ hm
              by_cases hjK : j < K
              · have d4 : (m : Int) < (q : Int) := by omega
                obtain ⟨d0, d1, d2, d3, _⟩ := Z.out.pen
                go_wp2_with fail
                refine (HBk.out _).mono ?_
                rintro e wq ⟨rfl, hb⟩
                have OW := Lib.hid (Z.out.below hb)
                clear hb d0 d1 d2 d3
                go_wp2_with (at_builtin; refine wpList_app_V _ rfl (.tmp 66) (.tmp 70) 84 rfl pcV_len one_pc w3.heap.size 87 _ 32 (by omega) Tryd.underlying84 infoPc3 rfl (by omega) _ m ((piecesS L).take a ++ ((piecesS L).drop (a + K) ++ List.replicate j (blankS p, (-10 : Int)))) rfl (OW.out.below ((Below.refl _ _).alloc (Nat.le_refl _) _)).own (some ⟨wq.heap.size, 0, none⟩) 1 1 (m + 1) (by omega) [(blankS p, -10)] rfl (vs_one _ _ _ _ rfl) (by omega) (OW.out.below ((Below.refl _ _).alloc (Nat.le_refl _) _)).sz ?_; intro A' c' w5 hown hg)
                have Z2 := Lib.hid (show Out w w3 g1 b p L w5 A' (m + 1) c' (((piecesS L).take a ++ ((piecesS L).drop (a + K) ++ List.replicate (j + 1) (blankS p, (-10 : Int))))) from (OW.out.below ((Below.refl _ _).alloc (Nat.le_refl _) _)).app (by have h := hown; rw [show ((piecesS L).take a ++ ((piecesS L).drop (a + K) ++ List.replicate j (blankS p, (-10 : Int)))) ++ [(blankS p, (-10 : Int))] = ((piecesS L).take a ++ ((piecesS L).drop (a + K) ++ List.replicate (j + 1) (blankS p, (-10 : Int)))) from by rw [rep_snocP]; simp only [List.append_assoc]] at h; exact h) hg (by have := Z.out.ln; rw [show ((piecesS L).take a ++ ((piecesS L).drop (a + K) ++ List.replicate (j + 1) (blankS p, (-10 : Int)))) = ((piecesS L).take a ++ ((piecesS L).drop (a + K) ++ List.replicate j (blankS p, (-10 : Int)))) ++ [(blankS p, (-10 : Int))] from by rw [rep_snocP]; simp only [List.append_assoc], List.length_append, this]; simp; try omega))
                clear hown hg OW
                go_wp2_with fail
                go_roundw
                case rel => exact ⟨j + 1, A', c', m + 1, by omega, rfl, by omega, Z2.out⟩
                case measure => simp [lenOfS]; omega
              · have hmn : q = m := by omega
                have hjk : j = K := by omega
                subst hjk
                subst hmn
                have hvv := own_vs Z.out.ln Z.out.own
                have HV := Lib.hid (show Vs pcV wr A1 q (deleteR L a j p) ∧ ∀ (i : Nat), i < q → -1000 ≤ (pAt (deleteR L a j p) i).2 ∧ (pAt (deleteR L a j p) i).2 ≤ 1000 from by
                  have e : (piecesS L).take a ++ ((piecesS L).drop (a + j) ++ List.replicate j (blankS p, -10)) = deleteR L a j p := by rfl
                  rw [e] at hvv
                  refine ⟨by exact hvv, fun i hi => delR_from p (by rw [HL.out]; exact hn80) i (by rw [delR_len p (by rw [HL.out]; exact hK2), HL.out]; omega)⟩)
                clear hvv
                go_wp2_with fail
                refine (mend_any (c := c1') HV.out.1 (by omega) HV.out.2).mono ?_
                rintro e w9 ⟨hb, g9, c9, rfl, hg9, hk9, hm9, hR9⟩
                have HP : Hid (OpPost R true w (.returned (.slice (some ⟨g9, 0, none⟩) (mendS (deleteR L a j p)).length c9)) w9) := by
                  refine ⟨fun _ => ⟨Z.out.bel.trans (hb.mono Z.out.bel.size), g9, c9, by rw [HPC.out], Nat.le_trans Z.out.bel.size hg9, by rw [← HPC.out]; exact hk9, hm9, by rw [← HPC.out]; exact hR9⟩, fun e => (by cases e)⟩
                clear hb hg9 hk9 hm9 hR9
                go_wp2_with fail
                go_ret
                exact HP.out
    · have hx3 : (n : Int) ≤ x := by omega
      have HPC : Hid (R = L) := by show R = L; rw [← HR.out]; unfold delRS; rw [if_neg (by have := HL.out; omega)]
      have HV2 := Lib.hid (X.out.2.1.alloc (.cells #[] 41))
      go_wp2_with (at_builtin; refine wpList_app_V _ rfl (.tmp 32) (.tmp 33) 22 rfl ceV_len one_ce w2.heap.size 41 _ 20 (by omega) Tryd.underlying22 infoCe3 rfl (by omega) (.slice (some ⟨w2.heap.size, 0, none⟩) 0 0) 0 [] rfl (World.ownsRow_lit w2 #[] 0 (Nat.le_refl _) (by unfold maxLen; omega) rfl) A n c n (by omega) L rfl HV2.out (by omega) (by simp) ?_; intro A' c' w5 hown hg; simp only [List.nil_append] at hown)
      obtain ⟨g5, rfl, hb5, hle5, hm5, hR5⟩ := own_some (by omega) hown
      have HP : Hid (OpPost R true w (.returned (.slice (some ⟨g5, 0, none⟩) n c')) w5) := by
        have hbw : Below w2.heap.size w2 w5 := ((Below.refl _ _).alloc (Nat.le_refl _) _).grown hg (by simp) (by intro k hk; have : w2.heap.size = k := (by simpa [Value.ownBlock] using hk); omega)
        rw [HPC.out]
        exact ⟨fun _ => ⟨X.out.1.trans (hbw.mono X.out.1.size), g5, c', by rw [HL.out], Nat.le_trans X.out.1.size hb5, by rw [HL.out]; exact hle5, hm5, hR5⟩, fun e => (by cases e)⟩
      clear hown hg hR5
      go_wp2_with fail
      go_ret
      exact HP.out
  · have hx2 : x < 0 := by omega
    have HPC : Hid (R = L) := by show R = L; rw [← HR.out]; unfold delRS; rw [if_neg (by have := HL.out; omega)]
    have HV2 := Lib.hid (X.out.2.1.alloc (.cells #[] 41))
    go_wp2_with (at_builtin; refine wpList_app_V _ rfl (.tmp 32) (.tmp 33) 22 rfl ceV_len one_ce w2.heap.size 41 _ 20 (by omega) Tryd.underlying22 infoCe3 rfl (by omega) (.slice (some ⟨w2.heap.size, 0, none⟩) 0 0) 0 [] rfl (World.ownsRow_lit w2 #[] 0 (Nat.le_refl _) (by unfold maxLen; omega) rfl) A n c n (by omega) L rfl HV2.out (by omega) (by simp) ?_; intro A' c' w5 hown hg; simp only [List.nil_append] at hown)
    obtain ⟨g5, rfl, hb5, hle5, hm5, hR5⟩ := own_some (by omega) hown
    have HP : Hid (OpPost R true w (.returned (.slice (some ⟨g5, 0, none⟩) n c')) w5) := by
      have hbw : Below w2.heap.size w2 w5 := ((Below.refl _ _).alloc (Nat.le_refl _) _).grown hg (by simp) (by intro k hk; have : w2.heap.size = k := (by simpa [Value.ownBlock] using hk); omega)
      rw [HPC.out]
      exact ⟨fun _ => ⟨X.out.1.trans (hbw.mono X.out.1.size), g5, c', by rw [HL.out], Nat.le_trans X.out.1.size hb5, by rw [HL.out]; exact hle5, hm5, hR5⟩, fun e => (by cases e)⟩
    clear hown hg hR5
    go_wp2_with fail
    go_ret
    exact HP.out
end Go.Proofs.YtflnocgahdlojaaDoor
