/-
  The reference's Clear.
  The reference's Scroll.
-/
import Derived.Test.YtflnocgahdlojaaDoorGridRefB
import Derived.Test.YtflnocgahdlojaaDoorCellRefEra
namespace Go.Proofs.YtflnocgahdlojaaDoor
open Go.RowKit

theorem clearK_same {c : Nat} {LL : Rws} {a b : Int} {p : Pn} {y : Nat} (h : y < LL.length) (he : eraseS (lAt LL y) (a - (y * c : Nat)) (b - (y * c : Nat)) p = lAt LL y) : clearK c LL a b p (y + 1) = clearK c LL a b p y := by
  refine rws_ext (by rw [clearK_len, clearK_len]) fun i hi => ?_
  rw [clearK_len] at hi
  rw [clearK_at hi, clearK_at hi]
  by_cases e : i = y
  · subst e; rw [if_pos (by omega), if_neg (by omega), he]
  · by_cases e2 : i < y
    · rw [if_pos e2, if_pos (by omega)]
    · rw [if_neg e2, if_neg (by omega)]
/-- What the inner loop knows behind j columns: the first and the last one. -/
def Cols (A0 Bq : Int) (j : Nat) (F E : Int) : Prop := (A0 < min Bq j ∧ F = A0 ∧ E = min Bq j) ∨ (¬ A0 < min Bq j ∧ F = -1 ∧ E = -1)
theorem cols_out {A0 Bq F E : Int} {j : Nat} (h : Cols A0 Bq j F E) (hj : (j : Int) < A0 ∨ Bq ≤ (j : Int)) : Cols A0 Bq (j + 1) F E := by
  unfold Cols at h ⊢
  omega
theorem cols_in {A0 Bq F E : Int} {j : Nat} (h : Cols A0 Bq j F E) (h1 : A0 ≤ (j : Int)) (h2 : (j : Int) < Bq) (hF : 0 ≤ F) : Cols A0 Bq (j + 1) F ((j : Int) + 1) := by
  unfold Cols at h ⊢
  omega
theorem cols_new {A0 Bq F E : Int} {j : Nat} (h : Cols A0 Bq j F E) (h0 : 0 ≤ A0) (h1 : A0 ≤ (j : Int)) (h2 : (j : Int) < Bq) (hF : F < 0) : Cols A0 Bq (j + 1) (j : Int) ((j : Int) + 1) := by
  unfold Cols at h ⊢
  omega
theorem erase_nothing {L : List Ce} {a b : Int} {p : Pn} (h : ¬ (max a 0) < min b (L.length : Int)) : eraseS L a b p = L := by
  unfold eraseS
  simp only []
  rw [if_neg (by omega)]
/-- What stays known while the reference's Clear goes over the rows. -/
structure ClrSt (w : World) (p : Pn) (c r : Nat) (A : Option Addr) (n k b g : Nat) (M : Rws) (wx : World) : Prop where
  bel : Below w.heap.size w wx
  gb : Gb wx (b + 1 + 1) gr0
  p4 : Pen4 wx (b + 1) p
  tb : ∃ S, Tb wx w.heap.size g S M
  g3 : G3 wx b c r A n k

set_option maxHeartbeats 3200000 in
theorem refClear_any {w : World} {A : Option Addr} {n k : Nat} {c r : Int} {L : List Ce} (x y : Int) (p : Pn) (h : Vs ceV w A n L) (hk : n ≤ k) (hn : n ≤ 9223372036854775807) :
    Calls Tryd.prog 34 #[.agg (gV c r A n k), .int .i64 x, .int .i64 y, .agg (pnA p)] w (GPost (opG c r L p fun c LL => clearS c LL x y p) w) := by
  obtain ⟨w0, hw0⟩ : ∃ w0, w0 = ((w.alloc (.cells (gV c r A n k) 24)).alloc (.cells (pnA p) 29)).alloc (.cells (gV 0 0 none 0 0) 24) := ⟨_, rfl⟩
  obtain ⟨b, hbe⟩ : ∃ b, b = w.heap.size := ⟨_, rfl⟩
  have H := Lib.hid (show Bx3 w w0 b c r A n k p L from by rw [hw0, hbe]; exact Bx3.mk' c r k p h)
  have HL := Lib.hid (And.intro h.len hk)
  clear h
  obtain ⟨ok, hok⟩ : ∃ ok, (gridMay c r L && penMayS p) = ok := ⟨_, rfl⟩
  have HOK := Lib.hid hok
  clear hok
  obtain ⟨m, hm⟩ : ∃ m, gridMay c r L = m := ⟨_, rfl⟩
  have HM := Lib.hid hm
  clear hm
  obtain ⟨LL, hLL⟩ : ∃ LL, rowsS c.toNat r.toNat L = LL := ⟨_, rfl⟩
  have HLL := Lib.hid hLL
  clear hLL
  obtain ⟨G, hG⟩ : ∃ G, opG c r L p (fun c LL => clearS c LL x y p) = G := ⟨_, rfl⟩
  rw [hG]
  have HG := Lib.hid hG
  clear hG
  obtain ⟨c0, c1, c2, _⟩ := H.out.g3
  obtain ⟨d0, d1, d2, d3, _⟩ := H.out.p4
  unfold gV pnA at hw0
  go_enter Tryd.func34, Tryd.ntmps34
  unfold gV pnA
  go_upto_region 1 with fail
  rw [← hw0, ← hbe]
  clear hw0 hbe
  go_wp2_with fail
  refine (refRows_any H.out.vs hk hn HM.out HLL.out).mono ?_
  rintro e w1 ⟨hyes, hno⟩
  clear c0 c1 c2 d0 d1 d2 d3
  cases m
  · obtain ⟨rfl, hb⟩ := hno rfl
    have HF := Lib.hid (show ok = false from by have := HOK.out; rw [HM.out] at this; simpa using this.symm)
    have X := Lib.hid (show Below w.heap.size w w1 ∧ Gb w1 (b + 1 + 1) gr0 from ⟨H.out.bel.trans (hb.mono H.out.bel.size), H.out.gb.below hb⟩)
    clear hyes hno hb
    go_wp2_with (refine wpList_store_G rfl (.tmp 8) (.tmp 28) rfl (b + 1 + 1) gr0 gr0 rfl rfl X.out.2 ?_; intro w5 hG5 hg5)
    refine bodyPost_ret (retG Tryd.results34 hG5 rfl) rfl ?_
    rw [← HG.out, opG_no (HOK.out.trans HF.out)]
    exact GPost.no ⟨rfl, X.out.1.grown hg5 X.out.1.size (by intro k hk; injection hk with hk; have := H.out.be; omega)⟩
  · obtain ⟨hb, g, k', S, rfl, hg, hk1, hk2, htb⟩ := hyes rfl
    have X := Lib.hid (show Below w.heap.size w w1 ∧ Gb w1 (b + 1 + 1) gr0 ∧ Pen4 w1 (b + 1) p ∧ Tb w1 w.heap.size g S LL ∧ G3 w1 b c r A n k from ⟨H.out.bel.trans (hb.mono H.out.bel.size), H.out.gb.below hb, H.out.p4.below hb, htb.base H.out.bel.size, H.out.g3.below hb⟩)
    have HGB := Lib.hid (show ¬ g = b + 1 ∧ w.heap.size ≤ g ∧ ¬ g = b from by have := H.out.gb.lt; have := H.out.bel.size; omega)
    clear hyes hno hb hg htb
    obtain ⟨d0, d1, d2, d3, _⟩ := X.out.2.2.1
    go_wp2_with fail
    refine (refPenMay_any p _).mono ?_
    rintro e w2 ⟨rfl, hb⟩
    have X3 := Lib.hid (show Below w.heap.size w w2 ∧ Gb w2 (b + 1 + 1) gr0 ∧ Pen4 w2 (b + 1) p ∧ Tb w2 w.heap.size g S LL ∧ G3 w2 b c r A n k from ⟨X.out.1.trans (hb.mono X.out.1.size), X.out.2.1.below hb, X.out.2.2.1.below hb, X.out.2.2.2.1.below hb, X.out.2.2.2.2.below hb⟩)
    clear hb d0 d1 d2 d3 X
    obtain ⟨pm, hpm⟩ : ∃ pm, penMayS p = pm := ⟨_, rfl⟩
    rw [hpm]
    have HPM := Lib.hid hpm
    clear hpm
    cases pm
    · have HF := Lib.hid (show ok = false from by have := HOK.out; rw [HM.out, HPM.out] at this; simpa using this.symm)
      go_wp2_with (refine wpList_store_G rfl (.tmp 8) (.tmp 28) rfl (b + 1 + 1) gr0 gr0 rfl rfl X3.out.2.1 ?_; intro w5 hG5 hg5)
      refine bodyPost_ret (retG Tryd.results34 hG5 rfl) rfl ?_
      rw [← HG.out, opG_no (HOK.out.trans HF.out)]
      exact GPost.no ⟨rfl, X3.out.1.grown hg5 X3.out.1.size (by intro k hk; injection hk with hk; have := H.out.be; omega)⟩
    · obtain ⟨cn, rn, LL', rfl, rfl, hL', hrows, hgk⟩ := ((gridMay_iff _ _ _).1 HM.out).parts
      obtain rfl : LL' = LL := hrows.symm.trans HLL.out
      have HP := Lib.hid (show L = LL'.flatten ∧ Gk cn rn LL' ∧ G = some (cn, rn, clearS cn LL' x y p) from ⟨hL', hgk, by rw [← HG.out]; unfold opG; rw [if_pos ⟨HM.out, HPM.out⟩, hrows]; rfl⟩)
      rw [hgk.box.len] at hk1 ⊢
      clear hL' hrows hgk
      have h24 := HP.out.2.1.r24
      have hc1 := HP.out.2.1.c1
      have hc2 := HP.out.2.1.c80
      go_wp2_with fail
      go_loopw [31] (fun i wr => ∃ q : Nat, q ≤ rn ∧ i = .int .i64 q ∧ ClrSt w p cn rn A n k b g (clearK cn LL' x y p q) wr) (fun i _ => rn - (intOf i).toNat)
      case atStart => exact ⟨0, Nat.zero_le _, rfl, by rw [clearK_zero]; exact ⟨X3.out.1, X3.out.2.1, X3.out.2.2.1, ⟨S, X3.out.2.2.2.1⟩, X3.out.2.2.2.2⟩⟩
      case round =>
        obtain ⟨q, hq, rfl, hst⟩ := hrel
        obtain ⟨S', htb⟩ := hst.tb
        have Y := Lib.hid (show Below w.heap.size w wr ∧ Gb wr (b + 1 + 1) gr0 ∧ Pen4 wr (b + 1) p ∧ Tb wr w.heap.size g S' (clearK cn LL' x y p q) ∧ G3 wr b cn rn A n k from ⟨hst.bel, hst.gb, hst.p4, htb, hst.g3⟩)
        clear hst htb
        by_cases hlt : q < rn
        · have hkl : (q : Int) < (rn : Int) := by omega
          obtain ⟨a, ha⟩ : ∃ a : Nat, q * cn = a := ⟨_, rfl⟩
          have HA := Lib.hid (show a + cn ≤ rn * cn ∧ rn * cn ≤ 1920 ∧ q * cn = a from by rw [← ha]; exact ⟨row_fits hlt, HP.out.2.1.small, rfl⟩)
          have ha2 : a ≤ 1920 := by have := HA.out; omega
          have v1 : IntKind.i64.wrap ((q : Int) * (cn : Int)) = (a : Int) := by rw [← Int.natCast_mul, ha, IntKind.wrap_i64]; omega
          have HQ := Lib.hid (show q < (clearK cn LL' x y p q).length ∧ lAt (clearK cn LL' x y p q) q = lAt LL' q ∧ (lAt LL' q).length = cn ∧ (clearK cn LL' x y p q).set q (eraseS (lAt LL' q) (x - (a : Int)) (y - (a : Int)) p) = clearK cn LL' x y p (q + 1) ∧ RowOk (lAt LL' q) ∧ (eraseS (lAt LL' q) (x - (a : Int)) (y - (a : Int)) p = lAt LL' q → clearK cn LL' x y p (q + 1) = clearK cn LL' x y p q) from by
            have e1 : q < LL'.length := by rw [HP.out.2.1.box.len]; exact hlt
            refine ⟨by rw [clearK_len]; exact e1, by rw [clearK_at e1, if_neg (by omega)], HP.out.2.1.box.row q hlt, by rw [← ha]; exact clearK_set e1, HP.out.2.1.ok q hlt, fun e => clearK_same e1 (by rw [ha]; exact e)⟩)
          clear ha
          obtain ⟨s, hs⟩ : ∃ s, s = sAt S' q := ⟨_, rfl⟩
          obtain ⟨wo, rfl⟩ : ∃ wo, wo = wr := ⟨_, rfl⟩
          have HO := Lib.hid (show ∀ w', Below wo.heap.size wo w' → w'.cell? ⟨g, q, none⟩ = some (.slice s.A s.n s.k) ∧ OwnRow w' w.heap.size s (lAt LL' q) from fun w' hb => by
            rw [hs]
            have h8 := (Y.out.2.2.2.1.below hb).ls.at_ q HQ.out.1
            rw [HQ.out.2.1] at h8
            exact ⟨(Y.out.2.2.2.1.below hb).cell HQ.out.1, h8⟩)
          clear hs
          have hsn : s.n = cn := by obtain ⟨_, _, _, h3, _⟩ := (HO.out _ (Below.refl _ _)).2; rw [h3, HQ.out.2.2.1]
          obtain ⟨sA, sn, sk⟩ := s
          dsimp only at hsn HO
          subst hsn
          have z1 := (HO.out _ (Below.refl _ _)).1
          obtain ⟨c0, c1, c2, _⟩ := Y.out.2.2.2.2
          obtain ⟨A0, hA0⟩ : ∃ A0 : Int, A0 = max (x - (a : Int)) 0 := ⟨_, rfl⟩
          obtain ⟨Bq, hBq⟩ : ∃ Bq : Int, Bq = y - (a : Int) := ⟨_, rfl⟩
          have HAB := Lib.hid (And.intro hA0 hBq)
          clear hA0 hBq
          go_upto_region 9 with fail
          go_loopw [12, 13, 39] (fun f l i wr => ∃ (j : Nat) (F E : Int), j ≤ sn ∧ i = .int .i64 j ∧ f = .int .i64 F ∧ l = .int .i64 E ∧ Cols A0 Bq j F E ∧ wr = wo) (fun _ _ i _ => sn - (intOf i).toNat)
          case atStart => exact ⟨0, -1, -1, Nat.zero_le _, rfl, rfl, rfl, .inr ⟨by have := HAB.out; omega, rfl, rfl⟩, rfl⟩
          case round =>
            obtain ⟨j, F, E, hj, rfl, rfl, rfl, hco, hwr⟩ := hrel
            have hwr := hwr.symm
            subst hwr
            have HC := Lib.hid hco
            clear hco
            by_cases hjl : j < sn
            · have hji : (j : Int) < (sn : Int) := by omega
              have v5 : IntKind.i64.wrap ((a : Int) + (j : Int)) = (a : Int) + (j : Int) := by rw [IntKind.wrap_i64]; omega
              by_cases e1 : x ≤ (a : Int) + (j : Int)
              · by_cases e2 : (a : Int) + (j : Int) < y
                · by_cases e3 : F < 0
                  · have HN := Lib.hid (cols_new HC.out (by have := HAB.out; omega) (by have := HAB.out; omega) (by have := HAB.out; omega) e3)
                    go_wp2_with fail
                    go_roundw
                    case rel => exact ⟨j + 1, j, (j : Int) + 1, by omega, by go_num, rfl, by go_num, HN.out, trivial⟩
                    case measure => simp [intOf]; omega
                  · have e3' : 0 ≤ F := by omega
                    have HN := Lib.hid (cols_in HC.out (by have := HAB.out; omega) (by have := HAB.out; omega) e3')
                    go_wp2_with fail
                    go_roundw
                    case rel => exact ⟨j + 1, F, (j : Int) + 1, by omega, by go_num, rfl, by go_num, HN.out, trivial⟩
                    case measure => simp [intOf]; omega
                · have e2' : y ≤ (a : Int) + (j : Int) := by omega
                  have HN := Lib.hid (cols_out HC.out (by have := HAB.out; omega))
                  go_wp2_with fail
                  go_roundw
                  case rel => exact ⟨j + 1, F, E, by omega, by go_num, rfl, rfl, HN.out, trivial⟩
                  case measure => simp [intOf]; omega
              · have e1' : (a : Int) + (j : Int) < x := by omega
                have HN := Lib.hid (cols_out HC.out (by have := HAB.out; omega))
                go_wp2_with fail
                go_roundw
                case rel => exact ⟨j + 1, F, E, by omega, by go_num, rfl, rfl, HN.out, trivial⟩
                case measure => simp [intOf]; omega
            · obtain rfl : j = sn := by omega
              by_cases e3 : F < 0
              · have HE := Lib.hid (show clearK j LL' x y p (q + 1) = clearK j LL' x y p q from HQ.out.2.2.2.2.2 (erase_nothing (by
                  rw [HQ.out.2.2.1]
                  have h7 := HC.out
                  have h8 := HAB.out
                  unfold Cols at h7
                  omega)))
                have Z := Lib.hid (show ClrSt w p j rn A n k b g (clearK j LL' x y p (q + 1)) wo from by rw [HE.out]; exact ⟨Y.out.1, Y.out.2.1, Y.out.2.2.1, ⟨S', Y.out.2.2.2.1⟩, Y.out.2.2.2.2⟩)
                go_wp2_with fail
                go_roundw
                case rel => exact ⟨q + 1, by omega, by go_num, Z.out⟩
                case measure => simp [intOf]; omega
              · have e3' : 0 ≤ F := by omega
                have HEE := Lib.hid (show eraseS (lAt LL' q) F E p = eraseS (lAt LL' q) (x - (a : Int)) (y - (a : Int)) p from by
                  have h7 := HC.out
                  have h8 := HAB.out
                  unfold Cols at h7
                  exact erase_clamp _ _ _ _ _ p (.inl (by omega)) (by rw [HQ.out.2.2.1]; omega))
                clear c0 c1 c2 v1
                go_upto_region 18 with fail
                have hb1 : Below wo.heap.size wo wo.drew := belowN (Below.refl _ _) 1
                have z1 := (HO.out _ hb1).1
                have SX := Lib.hid (show ∀ w', Below wo.heap.size wo w' → (Below w.heap.size w w' ∧ (w'.cell? ⟨b + 1, 0, none⟩ = some (.int .u32 p.fg) ∧ w'.cell? ⟨b + 1, 1, none⟩ = some (.int .u32 p.bg) ∧ w'.cell? ⟨b + 1, 2, none⟩ = some (.int .u8 p.st) ∧ w'.cell? ⟨b + 1, 3, none⟩ = some (.int .u16 p.lk))) from fun w' hb => by
                  obtain ⟨e0, e1, e2, e3, _⟩ := Y.out.2.2.1.below hb
                  exact ⟨Y.out.1.trans (hb.mono Y.out.1.size), e0, e1, e2, e3⟩)
                have SY := Lib.hid (show ∀ (w' : World) (v : Value), Below wo.heap.size wo w' → (Below w.heap.size w (w'.setCell ⟨g, q, none⟩ v) ∧ ((w'.setCell ⟨g, q, none⟩ v).cell? ⟨b + 1, 0, none⟩ = some (.int .u32 p.fg) ∧ (w'.setCell ⟨g, q, none⟩ v).cell? ⟨b + 1, 1, none⟩ = some (.int .u32 p.bg) ∧ (w'.setCell ⟨g, q, none⟩ v).cell? ⟨b + 1, 2, none⟩ = some (.int .u8 p.st) ∧ (w'.setCell ⟨g, q, none⟩ v).cell? ⟨b + 1, 3, none⟩ = some (.int .u16 p.lk))) from fun w' v hb => by
                  have hg9 := grown_set1 w' ⟨g, q, none⟩ v
                  obtain ⟨e0, e1, e2, e3, _⟩ := (Y.out.2.2.1.below hb).grown hg9 (by simp; exact HGB.out.1)
                  exact ⟨(Y.out.1.trans (hb.mono Y.out.1.size)).grown hg9 (Nat.le_trans Y.out.1.size hb.size) (by intro k hk; injection hk with hk; have h8 : g = k := hk; have := HGB.out.2.1; omega), e0, e1, e2, e3⟩)
                have HCL := Lib.hid (show ∀ w', Below wo.heap.size wo w' → Calls Tryd.prog 60 #[.slice sA j sk, .int .i64 F, .int .i64 E, .agg #[.int .u32 p.fg, .int .u32 p.bg, .int .u8 p.st, .int .u16 p.lk]] w' fun e w'' => ∃ g2 c2, e = .returned (.slice (some ⟨g2, 0, none⟩) j c2) ∧ Below w'.heap.size w' w'' ∧ w'.heap.size ≤ g2 ∧ OwnRow w'' w.heap.size ⟨some ⟨g2, 0, none⟩, j, c2⟩ (eraseS (lAt LL' q) (x - (a : Int)) (y - (a : Int)) p) from fun w' hb => by
                  have ho := (HO.out w' hb).2
                  refine (refErase_at (c := sk) (ok := true) F E p ho.vs (by show j ≤ _; omega) (by rw [(rowMay_iff _).2 HQ.out.2.2.2.2.1, HPM.out]; rfl) ((erase_eq HQ.out.2.2.2.2.1 F E p).symm.trans HEE.out)).mono ?_
                  intro e w'' h0
                  obtain ⟨h1, g2, c2, he, h2, h3, h4, h5⟩ := h0.1 rfl
                  have hl : (eraseS (lAt LL' q) (x - (a : Int)) (y - (a : Int)) p).length = j := by rw [eraseS_length, HQ.out.2.2.1]
                  rw [hl] at he h3
                  exact ⟨g2, c2, he, h1, h2, OwnRow.mk' (Nat.le_trans (Y.out.1.trans (hb.mono Y.out.1.size)).size h2) hl.symm h3 h4 h5⟩)
                refine wp_region_noPanic ?_
                refine wp_region_held_drew (S := fun w' => Below w.heap.size w w' ∧ (w'.cell? ⟨b + 1, 0, none⟩ = some (.int .u32 p.fg) ∧ w'.cell? ⟨b + 1, 1, none⟩ = some (.int .u32 p.bg) ∧ w'.cell? ⟨b + 1, 2, none⟩ = some (.int .u8 p.st) ∧ w'.cell? ⟨b + 1, 3, none⟩ = some (.int .u16 p.lk))) (by kernel_rfl) (SX.out _ hb1) (fun hHeld => ?_)
                refine wpAnyH_take (i := 0) (v := .slice (some ⟨g, 0, none⟩) rn k') rfl (by kernel_rfl) (by kernel_rfl) (by kernel_rfl) (fun _ _ _ h => h) (Or.inl ⟨by rfl, fun wz hSz => ?_⟩) hHeld ?_
                · go_simp
                simp only [Act.put]
                try simp only [List.setIfInBounds_toArray]
                try simp only [List.set_cons_succ]
                try simp only [List.set_cons_zero]
                refine wpAnyH_take (i := 1) (v := .int .i64 q) rfl (by kernel_rfl) (by kernel_rfl) (by kernel_rfl) (fun _ _ _ h => h) (Or.inl ⟨by rfl, fun wz hSz => ?_⟩) hHeld ?_
                · go_simp
                simp only [Act.put]
                try simp only [List.setIfInBounds_toArray]
                try simp only [List.set_cons_succ]
                try simp only [List.set_cons_zero]
                refine wpAnyH_take (i := 2) (v := .slice (some ⟨g, 0, none⟩) rn k') rfl (by kernel_rfl) (by kernel_rfl) (by kernel_rfl) (fun _ _ _ h => h) (Or.inl ⟨by rfl, fun wz hSz => ?_⟩) hHeld ?_
                · go_simp
                simp only [Act.put]
                try simp only [List.setIfInBounds_toArray]
                try simp only [List.set_cons_succ]
                try simp only [List.set_cons_zero]
                refine wpAnyH_take (i := 3) (v := .int .i64 q) rfl (by kernel_rfl) (by kernel_rfl) (by kernel_rfl) (fun _ _ _ h => h) (Or.inl ⟨by rfl, fun wz hSz => ?_⟩) hHeld ?_
                · go_simp
                simp only [Act.put]
                try simp only [List.setIfInBounds_toArray]
                try simp only [List.set_cons_succ]
                try simp only [List.set_cons_zero]
                refine wpAnyH_take (i := 4) (v := .pointer (some ⟨g, q, none⟩)) rfl (by kernel_rfl) (by kernel_rfl) (by kernel_rfl) (fun _ _ _ h => h) (Or.inl ⟨by rfl, fun wz hSz => ?_⟩) hHeld ?_
                · go_simp
                simp only [Act.put]
                try simp only [List.setIfInBounds_toArray]
                try simp only [List.set_cons_succ]
                try simp only [List.set_cons_zero]
                refine wpAnyH_take (i := 6) (v := .int .i64 F) rfl (by kernel_rfl) (by kernel_rfl) (by kernel_rfl) (fun _ _ _ h => h) (Or.inl ⟨by rfl, fun wz hSz => ?_⟩) hHeld ?_
                · go_simp
                simp only [Act.put]
                try simp only [List.setIfInBounds_toArray]
                try simp only [List.set_cons_succ]
                try simp only [List.set_cons_zero]
                refine wpAnyH_take (i := 7) (v := .int .i64 E) rfl (by kernel_rfl) (by kernel_rfl) (by kernel_rfl) (fun _ _ _ h => h) (Or.inl ⟨by rfl, fun wz hSz => ?_⟩) hHeld ?_
                · go_simp
                simp only [Act.put]
                try simp only [List.setIfInBounds_toArray]
                try simp only [List.set_cons_succ]
                try simp only [List.set_cons_zero]
                refine wpAnyH_take (i := 8) (v := .agg #[.int .u32 p.fg, .int .u32 p.bg, .int .u8 p.st, .int .u16 p.lk]) rfl (by kernel_rfl) (by kernel_rfl) (by kernel_rfl) (fun _ _ _ h => h) (Or.inl ⟨by rfl, fun wz hSz => ?_⟩) hHeld ?_
                · obtain ⟨_, y0, y1, y2, y3⟩ := hSz; go_simp
                simp only [Act.put]
                try simp only [List.setIfInBounds_toArray]
                try simp only [List.set_cons_succ]
                try simp only [List.set_cons_zero]
                refine wpAnyH_ready (rs := [5]) (by kernel_rfl) (by simp) (AllReadyH.cons rfl (fun K hK => ?_) AllReadyH.nil)
                rw [if_pos (by rfl)]
                go_simp
                refine hK.out _ _ (hHeld) (fun hHeld => ?_)
                clear hK K
                try simp only [Act.put]
                try simp only [List.setIfInBounds_toArray]
                try simp only [List.set_cons_succ]
                try simp only [List.set_cons_zero]
                refine wpAnyH_ready (rs := [9]) (by kernel_rfl) (by simp) (AllReadyH.cons rfl (fun K hK => ?_) AllReadyH.nil)
                rw [if_pos (by rfl)]
                go_simp
                refine (HCL.out _ hb1).mono ?_
                rintro e w5 ⟨g2, c2, rfl, hb4, hg2, ho5⟩
                have hb5 := Below.trans (B := wo.heap.size) hb1 (hb4.mono (below_sz (a := wo) (B := wo.heap.size) hb1))
                refine hK.out _ _ (SX.out _ hb5) (fun hHeld => ?_)
                clear hK K
                try simp only [Act.put]
                try simp only [List.setIfInBounds_toArray]
                try simp only [List.set_cons_succ]
                try simp only [List.set_cons_zero]
                refine wpAnyH_take (i := 10) (v := .pointer (some ⟨g, q, none⟩)) rfl (by kernel_rfl) (by kernel_rfl) (by kernel_rfl) (fun _ _ _ h => h) (Or.inl ⟨by rfl, fun wz hSz => ?_⟩) hHeld ?_
                · go_simp
                simp only [Act.put]
                try simp only [List.setIfInBounds_toArray]
                try simp only [List.set_cons_succ]
                try simp only [List.set_cons_zero]
                have HT5 := Lib.hid (Y.out.2.2.2.1.below hb5)
                have z0 := HT5.out.cell HQ.out.1
                have f0 := HT5.out.rw_.free q
                refine wpAnyH_ready (rs := [11]) (by kernel_rfl) (by simp) (AllReadyH.cons rfl (fun K hK => ?_) AllReadyH.nil)
                rw [if_pos (by rfl)]
                go_simp
                refine hK.out _ _ (SY.out _ _ hb5) (fun hHeld => ?_)
                clear hK K
                try simp only [Act.put]
                try simp only [List.setIfInBounds_toArray]
                try simp only [List.set_cons_succ]
                try simp only [List.set_cons_zero]
                refine wpAnyH_done (by kernel_rfl) ?_ _
                refine NoPanic.normal ?_
                have Z := Lib.hid (show ClrSt w p j rn A n k b g (clearK j LL' x y p (q + 1)) (w5.setCell ⟨g, q, none⟩ (.slice (some ⟨g2, 0, none⟩) j c2)) from by
                  have h9 := HT5.out.set HQ.out.1 ho5
                  rw [HQ.out.2.2.2.1] at h9
                  have hgg := (SY.out w5 (.slice (some ⟨g2, 0, none⟩) j c2) hb5).1
                  exact ⟨hgg, (Y.out.2.1.below hb5).grown h9.2 (fun e => rw_apart HT5.out.rw_ (Y.out.2.1.below hb5).rw (by decide) (by injection e)), (Y.out.2.2.1.below hb5).grown h9.2 (by simp; exact HGB.out.1), ⟨_, h9.1⟩, (Y.out.2.2.2.2.below hb5).grown h9.2 (by simp; exact HGB.out.2.2)⟩)
                clear z0 z1 f0 hHeld hb1 hb4 hb5 ho5 hg2 HT5
                generalize w5.setCell ⟨g, q, none⟩ (.slice (some ⟨g2, 0, none⟩) j c2) = w6 at Z ⊢
                go_wp2_with fail
                go_roundw
                case rel => exact ⟨q + 1, by omega, by go_num, Z.out⟩
                case measure => simp [intOf]; omega
        · obtain rfl : q = rn := by omega
          have hcl : clearK cn LL' x y p q = clearS cn LL' x y p := by rw [← clearK_all, HP.out.2.1.box.len]
          have HE := Lib.hid (show G = some (cn, q, clearK cn LL' x y p q) from by rw [hcl]; exact HP.out.2.2)
          have HBX := Lib.hid (clearK_box HP.out.2.1.box x y p q)
          clear hcl
          go_wp2_with fail
          refine (refOf_any (k := k') Y.out.2.2.2.1 HBX.out HP.out.2.1.c1 HP.out.2.1.c80 HP.out.2.1.r1 HP.out.2.1.r24).mono ?_
          rintro e w7 ⟨hb, g3, k3, rfl, hg3, hk3, hk4, hR⟩
          have Y7 := Lib.hid (show Below w.heap.size w w7 ∧ Gb w7 (b + 1 + 1) gr0 ∧ Rw ceV 41 w7 g3 (clearK cn LL' x y p q).flatten ∧ wr.heap.size ≤ g3 from ⟨Y.out.1.trans (hb.mono Y.out.1.size), Y.out.2.1.below hb, hR, hg3⟩)
          obtain ⟨N, hN⟩ : ∃ N, N = (clearK cn LL' x y p q).flatten.length := ⟨_, rfl⟩
          rw [← hN] at hk3 ⊢
          have HN := Lib.hid hN
          have hlt6 := Y.out.2.1.lt
          clear hb hR hg3 hN
          go_wp2_with (refine wpList_store_G rfl (.tmp 8) (.tmp 77) rfl (b + 1 + 1) gr0 ⟨cn, q, some ⟨g3, 0, none⟩, N, k3⟩ rfl rfl Y7.out.2.1 ?_; intro w8 hG8 hg8)
          refine bodyPost_ret (retG Tryd.results34 hG8 rfl) rfl ?_
          rw [HE.out]
          exact GPost.yes ⟨Y7.out.1.grown hg8 Y7.out.1.size (by intro k hk; injection hk with hk; have := H.out.be; omega), g3, k3, by rw [HN.out], by have := Y7.out.2.2.2; have := Y.out.1.size; omega, by rw [← HN.out]; exact hk3, hk4, Y7.out.2.2.1.grown hg8 (by have := Y7.out.2.2.2; simp; omega)⟩
end Go.Proofs.YtflnocgahdlojaaDoor

namespace Go.Proofs.YtflnocgahdlojaaDoor
open Go.RowKit

section
variable {w wx wy : World} {p : Pn} {c r : Nat} {A : Option Addr} {n k b g : Nat} {M : Rws}

theorem ClrSt.below (h : ClrSt w p c r A n k b g M wx) (hb : Below wx.heap.size wx wy) : ClrSt w p c r A n k b g M wy :=
  ⟨h.bel.trans (hb.mono h.bel.size), h.gb.below hb, h.p4.below hb, h.tb.elim fun S hS => ⟨S, hS.below hb⟩, h.g3.below hb⟩
theorem ClrSt.row (h : ClrSt w p c r A n k b g M wx) {i : Nat} (hi : i < M.length) : ∃ s, wx.cell? ⟨g, i, none⟩ = some (.slice s.A s.n s.k) ∧ wx.frozen? ⟨g, i, none⟩ = false ∧ OwnRow wx w.heap.size s (lAt M i) := by
  obtain ⟨S, hS⟩ := h.tb
  exact ⟨sAt S i, hS.cell hi, hS.rw_.free i, hS.ls.at_ i hi⟩
theorem ClrSt.set (h : ClrSt w p c r A n k b g M wx) {i : Nat} (hi : i < M.length) {s : Sl} {R : List Ce} (hs : OwnRow wx w.heap.size s R) (hgb : ¬ g = b + 1 ∧ w.heap.size ≤ g ∧ ¬ g = b) :
    ClrSt w p c r A n k b g (M.set i R) (wx.setCell ⟨g, i, none⟩ (.slice s.A s.n s.k)) := by
  obtain ⟨S, hS⟩ := h.tb
  obtain ⟨h1, h2⟩ := hS.set hi hs
  exact ⟨h.bel.grown h2 h.bel.size (by intro k hk; injection hk with hk; omega), h.gb.grown h2 (fun e => rw_apart hS.rw_ h.gb.rw (by decide) (by injection e)), h.p4.grown h2 (by simp; exact hgb.1), ⟨_, h1⟩, h.g3.grown h2 (by simp; exact hgb.2.2)⟩
end

def upK (M : Rws) (t bo q : Nat) : Rws := (List.range M.length).map fun (i : Nat) => if t ≤ i ∧ i < q ∧ i < bo then lAt M (i + 1) else lAt M i
def dnK (M : Rws) (t bo q : Nat) : Rws := (List.range M.length).map fun (i : Nat) => if q < i ∧ i ≤ bo ∧ t < i then lAt M (i - 1) else lAt M i
theorem upK_len (M : Rws) (t bo q : Nat) : (upK M t bo q).length = M.length := by simp [upK]
theorem dnK_len (M : Rws) (t bo q : Nat) : (dnK M t bo q).length = M.length := by simp [dnK]
theorem upK_at {M : Rws} {t bo q i : Nat} (h : i < M.length) : lAt (upK M t bo q) i = if t ≤ i ∧ i < q ∧ i < bo then lAt M (i + 1) else lAt M i := by unfold upK; rw [lAt_map, if_pos h]
theorem dnK_at {M : Rws} {t bo q i : Nat} (h : i < M.length) : lAt (dnK M t bo q) i = if q < i ∧ i ≤ bo ∧ t < i then lAt M (i - 1) else lAt M i := by unfold dnK; rw [lAt_map, if_pos h]
theorem upK_zero (M : Rws) (t bo : Nat) : upK M t bo t = M := rws_ext (upK_len ..) fun i hi => by
  rw [upK_len] at hi
  rw [upK_at hi, if_neg (by omega)]
theorem dnK_zero (M : Rws) (t bo : Nat) : dnK M t bo bo = M := rws_ext (dnK_len ..) fun i hi => by
  rw [dnK_len] at hi
  rw [dnK_at hi, if_neg (by omega)]
theorem up_set {M : Rws} {t bo q : Nat} (h : q + 1 < M.length) (h1 : t ≤ q) (h2 : q < bo) : (upK M t bo q).set q (lAt (upK M t bo q) (q + 1)) = upK M t bo (q + 1) := by
  refine rws_ext (by rw [List.length_set, upK_len, upK_len]) fun i hi => ?_
  rw [List.length_set, upK_len] at hi
  rw [lAt_set, upK_len, upK_at h, upK_at hi, upK_at hi]
  by_cases e : i = q
  · subst e; rw [if_pos ⟨rfl, hi⟩, if_neg (by omega), if_pos (by omega)]
  · rw [if_neg (fun e2 => e e2.1)]
    by_cases e2 : t ≤ i ∧ i < q ∧ i < bo
    · rw [if_pos e2, if_pos (by omega)]
    · rw [if_neg e2, if_neg (by omega)]
theorem dn_set {M : Rws} {t bo q : Nat} (h : q + 1 < M.length) (h1 : t < q + 1) (h2 : q + 1 ≤ bo) : (dnK M t bo (q + 1)).set (q + 1) (lAt (dnK M t bo (q + 1)) q) = dnK M t bo q := by
  refine rws_ext (by rw [List.length_set, dnK_len, dnK_len]) fun i hi => ?_
  rw [List.length_set, dnK_len] at hi
  rw [lAt_set, dnK_len, dnK_at (show q < M.length by omega), dnK_at hi, dnK_at hi]
  by_cases e : i = q + 1
  · subst e; rw [if_pos ⟨rfl, hi⟩, if_neg (by omega), if_pos (by omega), Nat.add_sub_cancel]
  · rw [if_neg (fun e2 => e e2.1)]
    by_cases e2 : q + 1 < i ∧ i ≤ bo ∧ t < i
    · rw [if_pos e2, if_pos (by omega)]
    · rw [if_neg e2, if_neg (by omega)]
theorem scroll_at {c r : Nat} {LL : Rws} (h : Box c r LL) {t bo : Nat} (n : Int) (p : Pn) (htb : t ≤ bo) (hbr : bo < r) {i : Nat} (hi : i < r) : lAt (scrollS c LL (t : Int) (bo : Int) n p) i = scrollAt c LL (t : Int) (bo : Int) n p i := by
  unfold scrollS
  rw [if_neg (by rw [h.len]; omega), lAt_map, if_pos (by rw [h.len]; exact hi)]
theorem scrollAt_in {c : Nat} {LL : Rws} {t b n : Int} {p : Pn} {y : Nat} (h : t ≤ (y : Int) ∧ (y : Int) ≤ b) : scrollAt c LL t b n p y = if t ≤ (y : Int) + n ∧ (y : Int) + n ≤ b then lAt LL ((y : Int) + n).toNat else blanksS c p := by unfold scrollAt; rw [if_pos h]
theorem scrollAt_out {c : Nat} {LL : Rws} {t b n : Int} {p : Pn} {y : Nat} (h : ¬ (t ≤ (y : Int) ∧ (y : Int) ≤ b)) : scrollAt c LL t b n p y = lAt LL y := by unfold scrollAt; rw [if_neg h]
theorem up_step {c r : Nat} {LL : Rws} (h : Box c r LL) {t bo : Nat} (kk : Nat) (p : Pn) (htb : t ≤ bo) (hbr : bo < r) :
    (upK (scrollS c LL (t : Int) (bo : Int) (kk : Int) p) t bo bo).set bo (blanksS c p) = scrollS c LL (t : Int) (bo : Int) ((kk + 1 : Nat) : Int) p := by
  have hl : (scrollS c LL (t : Int) (bo : Int) (kk : Int) p).length = r := (scroll_box h _ _ _ _).len
  refine rws_ext (by rw [List.length_set, upK_len, hl, (scroll_box h _ _ _ _).len]) fun i hi => ?_
  rw [List.length_set, upK_len, hl] at hi
  rw [lAt_set, upK_len, hl, upK_at (by rw [hl]; exact hi), scroll_at h _ p htb hbr hi, scroll_at h _ p htb hbr hi]
  by_cases e : i = bo
  · subst e
    rw [if_pos ⟨rfl, hi⟩]
    unfold scrollAt
    rw [if_pos (by omega), if_neg (by omega)]
  · rw [if_neg (fun e2 => e e2.1)]
    by_cases e2 : t ≤ i ∧ i < bo ∧ i < bo
    · rw [if_pos e2, scroll_at h _ p htb hbr (by omega)]
      rw [scrollAt_in (y := i + 1) (by omega), scrollAt_in (y := i) (by omega)]
      by_cases e3 : i + 1 + kk ≤ bo
      · rw [if_pos (by omega), if_pos (by omega), show (((i + 1 : Nat) : Int) + (kk : Int)).toNat = ((i : Int) + ((kk + 1 : Nat) : Int)).toNat by omega]
      · rw [if_neg (by omega), if_neg (by omega)]
    · rw [if_neg e2, scrollAt_out (by omega), scrollAt_out (by omega)]
theorem dn_step {c r : Nat} {LL : Rws} (h : Box c r LL) {t bo : Nat} (kk : Nat) (p : Pn) (htb : t ≤ bo) (hbr : bo < r) :
    (dnK (scrollS c LL (t : Int) (bo : Int) (-(kk : Int)) p) t bo t).set t (blanksS c p) = scrollS c LL (t : Int) (bo : Int) (-((kk + 1 : Nat) : Int)) p := by
  have hl : (scrollS c LL (t : Int) (bo : Int) (-(kk : Int)) p).length = r := (scroll_box h _ _ _ _).len
  refine rws_ext (by rw [List.length_set, dnK_len, hl, (scroll_box h _ _ _ _).len]) fun i hi => ?_
  rw [List.length_set, dnK_len, hl] at hi
  rw [lAt_set, dnK_len, hl, dnK_at (by rw [hl]; exact hi), scroll_at h _ p htb hbr hi, scroll_at h _ p htb hbr hi]
  by_cases e : i = t
  · subst e
    rw [if_pos ⟨rfl, hi⟩]
    unfold scrollAt
    rw [if_pos (by omega), if_neg (by omega)]
  · rw [if_neg (fun e2 => e e2.1)]
    by_cases e2 : t < i ∧ i ≤ bo ∧ t < i
    · rw [if_pos e2, scroll_at h _ p htb hbr (by omega)]
      rw [scrollAt_in (y := i - 1) (by omega), scrollAt_in (y := i) (by omega)]
      by_cases e3 : t + kk + 1 ≤ i
      · rw [if_pos (by omega), if_pos (by omega), show (((i - 1 : Nat) : Int) + -(kk : Int)).toNat = ((i : Int) + -((kk + 1 : Nat) : Int)).toNat by omega]
      · rw [if_neg (by omega), if_neg (by omega)]
    · rw [if_neg e2, scrollAt_out (by omega), scrollAt_out (by omega)]
theorem scroll_zero {c r : Nat} {LL : Rws} (h : Box c r LL) {t bo : Nat} (p : Pn) (htb : t ≤ bo) (hbr : bo < r) : scrollS c LL (t : Int) (bo : Int) 0 p = LL := by
  refine rws_ext (by rw [(scroll_box h _ _ _ _).len, h.len]) fun i hi => ?_
  rw [(scroll_box h _ _ _ _).len] at hi
  rw [scroll_at h _ p htb hbr hi]
  unfold scrollAt
  split
  · rw [if_pos (by omega), show ((i : Int) + 0).toNat = i by omega]
  · rfl
theorem scroll_far {c r : Nat} {LL : Rws} (h : Box c r LL) {t bo : Nat} {n n' : Int} (p : Pn) (htb : t ≤ bo) (hbr : bo < r) (hn : n = n' ∨ ((bo : Int) - t < n ∧ (bo : Int) - t < n') ∨ (n < (t : Int) - bo ∧ n' < (t : Int) - bo)) : scrollS c LL (t : Int) (bo : Int) n p = scrollS c LL (t : Int) (bo : Int) n' p := by
  rcases hn with rfl | hn
  · rfl
  refine rws_ext (by rw [(scroll_box h _ _ _ _).len, (scroll_box h _ _ _ _).len]) fun i hi => ?_
  rw [(scroll_box h _ _ _ _).len] at hi
  rw [scroll_at h _ p htb hbr hi, scroll_at h _ p htb hbr hi]
  unfold scrollAt
  split
  · rw [if_neg (by omega), if_neg (by omega)]
  · rfl

set_option maxHeartbeats 3200000 in
theorem refScroll_any {w : World} {A : Option Addr} {n k : Nat} {c r : Int} {L : List Ce} (x y z : Int) (p : Pn) (h : Vs ceV w A n L) (hk : n ≤ k) (hn : n ≤ 9223372036854775807) :
    Calls Tryd.prog 35 #[.agg (gV c r A n k), .int .i64 x, .int .i64 y, .int .i64 z, .agg (pnA p)] w (GPost (opG c r L p fun c LL => scrollS c LL x y z p) w) := by
  obtain ⟨w0, hw0⟩ : ∃ w0, w0 = ((w.alloc (.cells (gV c r A n k) 24)).alloc (.cells (pnA p) 29)).alloc (.cells (gV 0 0 none 0 0) 24) := ⟨_, rfl⟩
  obtain ⟨b, hbe⟩ : ∃ b, b = w.heap.size := ⟨_, rfl⟩
  have H := Lib.hid (show Bx3 w w0 b c r A n k p L from by rw [hw0, hbe]; exact Bx3.mk' c r k p h)
  have HL := Lib.hid (And.intro h.len hk)
  clear h
  obtain ⟨ok, hok⟩ : ∃ ok, (gridMay c r L && penMayS p) = ok := ⟨_, rfl⟩
  have HOK := Lib.hid hok
  clear hok
  obtain ⟨m, hm⟩ : ∃ m, gridMay c r L = m := ⟨_, rfl⟩
  have HM := Lib.hid hm
  clear hm
  obtain ⟨LL, hLL⟩ : ∃ LL, rowsS c.toNat r.toNat L = LL := ⟨_, rfl⟩
  have HLL := Lib.hid hLL
  clear hLL
  obtain ⟨G, hG⟩ : ∃ G, opG c r L p (fun c LL => scrollS c LL x y z p) = G := ⟨_, rfl⟩
  rw [hG]
  have HG := Lib.hid hG
  clear hG
  obtain ⟨c0, c1, c2, _⟩ := H.out.g3
  obtain ⟨d0, d1, d2, d3, _⟩ := H.out.p4
  unfold gV pnA at hw0
  go_enter Tryd.func35, Tryd.ntmps35
  unfold gV pnA
  go_upto_region 1 with fail
  rw [← hw0, ← hbe]
  clear hw0 hbe
  go_wp2_with fail
  refine (refRows_any H.out.vs hk hn HM.out HLL.out).mono ?_
  rintro e w1 ⟨hyes, hno⟩
  clear c0 c1 c2 d0 d1 d2 d3
  cases m
  · obtain ⟨rfl, hb⟩ := hno rfl
    have HF := Lib.hid (show ok = false from by have := HOK.out; rw [HM.out] at this; simpa using this.symm)
    have X := Lib.hid (show Below w.heap.size w w1 ∧ Gb w1 (b + 1 + 1) gr0 from ⟨H.out.bel.trans (hb.mono H.out.bel.size), H.out.gb.below hb⟩)
    clear hyes hno hb
    go_wp2_with (refine wpList_store_G rfl (.tmp 10) (.tmp 29) rfl (b + 1 + 1) gr0 gr0 rfl rfl X.out.2 ?_; intro w5 hG5 hg5)
    refine bodyPost_ret (retG Tryd.results35 hG5 rfl) rfl ?_
    rw [← HG.out, opG_no (HOK.out.trans HF.out)]
    exact GPost.no ⟨rfl, X.out.1.grown hg5 X.out.1.size (by intro k hk; injection hk with hk; have := H.out.be; omega)⟩
  · obtain ⟨hb, g, k', S, rfl, hg, hk1, hk2, htb⟩ := hyes rfl
    have X := Lib.hid (show Below w.heap.size w w1 ∧ Gb w1 (b + 1 + 1) gr0 ∧ Pen4 w1 (b + 1) p ∧ Tb w1 w.heap.size g S LL ∧ G3 w1 b c r A n k from ⟨H.out.bel.trans (hb.mono H.out.bel.size), H.out.gb.below hb, H.out.p4.below hb, htb.base H.out.bel.size, H.out.g3.below hb⟩)
    have HGB := Lib.hid (show ¬ g = b + 1 ∧ w.heap.size ≤ g ∧ ¬ g = b from by have := H.out.gb.lt; have := H.out.bel.size; omega)
    clear hyes hno hb hg htb
    obtain ⟨d0, d1, d2, d3, _⟩ := X.out.2.2.1
    go_wp2_with fail
    refine (refPenMay_any p _).mono ?_
    rintro e w2 ⟨rfl, hb⟩
    have X3 := Lib.hid (show Below w.heap.size w w2 ∧ Gb w2 (b + 1 + 1) gr0 ∧ Pen4 w2 (b + 1) p ∧ Tb w2 w.heap.size g S LL ∧ G3 w2 b c r A n k from ⟨X.out.1.trans (hb.mono X.out.1.size), X.out.2.1.below hb, X.out.2.2.1.below hb, X.out.2.2.2.1.below hb, X.out.2.2.2.2.below hb⟩)
    clear hb d0 d1 d2 d3 X
    obtain ⟨pm, hpm⟩ : ∃ pm, penMayS p = pm := ⟨_, rfl⟩
    rw [hpm]
    have HPM := Lib.hid hpm
    clear hpm
    cases pm
    · have HF := Lib.hid (show ok = false from by have := HOK.out; rw [HM.out, HPM.out] at this; simpa using this.symm)
      go_wp2_with (refine wpList_store_G rfl (.tmp 10) (.tmp 29) rfl (b + 1 + 1) gr0 gr0 rfl rfl X3.out.2.1 ?_; intro w5 hG5 hg5)
      refine bodyPost_ret (retG Tryd.results35 hG5 rfl) rfl ?_
      rw [← HG.out, opG_no (HOK.out.trans HF.out)]
      exact GPost.no ⟨rfl, X3.out.1.grown hg5 X3.out.1.size (by intro k hk; injection hk with hk; have := H.out.be; omega)⟩
    · obtain ⟨cn, rn, LL', rfl, rfl, hL', hrows, hgk⟩ := ((gridMay_iff _ _ _).1 HM.out).parts
      obtain rfl : LL' = LL := hrows.symm.trans HLL.out
      have HP := Lib.hid (show L = LL'.flatten ∧ Gk cn rn LL' ∧ G = some (cn, rn, scrollS cn LL' x y z p) from ⟨hL', hgk, by rw [← HG.out]; unfold opG; rw [if_pos ⟨HM.out, HPM.out⟩, hrows]; rfl⟩)
      rw [hgk.box.len] at hk1 ⊢
      clear hL' hrows hgk
      have h24 := HP.out.2.1.r24
      have hc1 := HP.out.2.1.c1
      have hc2 := HP.out.2.1.c80
      have X4 := Lib.hid (show ClrSt w p cn rn A n k b g LL' w2 from ⟨X3.out.1, X3.out.2.1, X3.out.2.2.1, ⟨S, X3.out.2.2.2.1⟩, X3.out.2.2.2.2⟩)
      have HLN := Lib.hid (show (LL'.length : Int) = (rn : Int) from by rw [HP.out.2.1.box.len])
      clear X3
      by_cases hx0 : 0 ≤ x
      · by_cases hyr : y < (rn : Int)
        · by_cases hxy : x ≤ y
          · obtain ⟨t, rfl⟩ : ∃ t : Nat, x = (t : Int) := ⟨x.toNat, by omega⟩
            obtain ⟨bo, rfl⟩ : ∃ bo : Nat, y = (bo : Int) := ⟨y.toNat, by omega⟩
            have htb : t ≤ bo := by omega
            have hbr : bo < rn := by omega
            have htr : (t : Int) < (rn : Int) := by omega
            have hd1 : decide (rn ≤ bo) = false := by simp; omega
            have hd2 : decide (bo < t) = false := by simp; omega
            by_cases hz : 0 ≤ z
            · have hzz : ¬ (z < 0) := by omega
              go_wp2_with fail
              clear hx0 hyr hxy
              go_loopw [13] (fun i wr => ∃ kk : Nat, kk ≤ 24 ∧ (kk : Int) ≤ z ∧ i = .int .i64 kk ∧ ClrSt w p cn rn A n k b g (scrollS cn LL' (t : Int) (bo : Int) (kk : Int) p) wr) (fun i _ => 24 - (intOf i).toNat)
              case atStart => exact ⟨0, by omega, by omega, rfl, by rw [show ((0 : Nat) : Int) = 0 from rfl, scroll_zero HP.out.2.1.box p htb hbr]; exact X4.out⟩
              case round =>
                obtain ⟨kk, hk24, hkz, rfl, hst⟩ := hrel
                obtain ⟨wo, rfl⟩ : ∃ wo, wo = wr := ⟨_, rfl⟩
                have Y := Lib.hid hst
                clear hst
                by_cases e1 : (kk : Int) < z
                · by_cases e2 : (kk : Int) < 24
                  ·
                    obtain ⟨M, hM⟩ : ∃ M, M = scrollS cn LL' (t : Int) (bo : Int) (kk : Int) p := ⟨_, rfl⟩
                    have HMM := Lib.hid (show M.length = rn ∧ (∀ q, t ≤ q → q < bo → upK M t bo q = upK M t bo q) ∧ (upK M t bo bo).set bo (blanksS cn p) = scrollS cn LL' (t : Int) (bo : Int) ((kk + 1 : Nat) : Int) p ∧ upK M t bo t = M from by
                      have e1 : M.length = rn := by rw [hM]; exact (scroll_box HP.out.2.1.box _ _ _ _).len
                      refine ⟨e1, fun _ _ _ => rfl, ?_, upK_zero M t bo⟩
                      rw [hM]
                      exact up_step HP.out.2.1.box kk p htb hbr)
                    rw [← hM] at Y
                    clear hM
                    go_wp2_with fail
                    go_loopw [14] (fun i wr => ∃ q : Nat, t ≤ q ∧ q ≤ bo ∧ i = .int .i64 q ∧ ClrSt w p cn rn A n k b g (upK M t bo q) wr) (fun i _ => bo - (intOf i).toNat)
                    case atStart => exact ⟨t, Nat.le_refl _, htb, rfl, by rw [HMM.out.2.2.2]; exact Y.out⟩
                    case round =>
                      obtain ⟨q, hq1, hq2, rfl, hst⟩ := hrel
                      have V := Lib.hid hst
                      clear hst
                      by_cases hlt : q < bo
                      · have hqi : (q : Int) < (bo : Int) := by omega
                        have hqr : (q : Int) < (rn : Int) := by omega
                        have hqr2 : ((q + 1 : Nat) : Int) < (rn : Int) := by omega
                        have v6 : IntKind.i64.wrap ((q : Int) + 1) = ((q + 1 : Nat) : Int) := by rw [IntKind.wrap_i64]; omega
                        have hl : (upK M t bo q).length = rn := by rw [upK_len, HMM.out.1]
                        obtain ⟨s1, z1, _, ho1⟩ := V.out.row (i := q + 1) (by rw [hl]; omega)
                        obtain ⟨s0, z0, f0, _⟩ := V.out.row (i := q) (by rw [hl]; omega)
                        have HZ := Lib.hid (show ClrSt w p cn rn A n k b g (upK M t bo (q + 1)) (wr.setCell ⟨g, q, none⟩ (.slice s1.A s1.n s1.k)) from by
                          have h9 := V.out.set (i := q) (by rw [hl]; omega) ho1 HGB.out
                          rw [up_set (by rw [HMM.out.1]; omega) hq1 hlt] at h9
                          exact h9)
                        clear ho1 hl
                        go_wp2_with fail
                        go_roundw
                        case rel => exact ⟨q + 1, by omega, by omega, by go_num, HZ.out⟩
                        case measure => simp [intOf]; omega
                      · obtain rfl : q = bo := by omega
                        obtain ⟨d0, d1, d2, d3, _⟩ := V.out.p4
                        obtain ⟨c0, c1, c2, _⟩ := V.out.g3
                        go_wp2_with fail
                        refine (refBlanks_any p (by omega)).mono ?_
                        rintro e w9 ⟨hb, g2, k2, rfl, hg2, hm1, hm3, hR⟩
                        have e9 : (blanksS cn p).length = cn := blanks_len _ _
                        rw [e9] at hm1 ⊢
                        have V9 := Lib.hid (show ClrSt w p cn rn A n k b g (upK M t q q) w9 ∧ OwnRow w9 w.heap.size ⟨some ⟨g2, 0, none⟩, cn, k2⟩ (blanksS cn p) from ⟨V.out.below hb, OwnRow.mk' (Nat.le_trans V.out.bel.size hg2) e9.symm hm1 hm3 hR⟩)
                        clear hb hg2 hm1 hm3 hR e9 c0 c1 c2 d0 d1 d2 d3
                        have hl : (upK M t q q).length = rn := by rw [upK_len, HMM.out.1]
                        have hqr : (q : Int) < (rn : Int) := by omega
                        obtain ⟨s0, z0, f0, _⟩ := V9.out.1.row (i := q) (by rw [hl]; omega)
                        have HZ := Lib.hid (show ClrSt w p cn rn A n k b g (scrollS cn LL' (t : Int) (q : Int) ((kk + 1 : Nat) : Int) p) (w9.setCell ⟨g, q, none⟩ (.slice (some ⟨g2, 0, none⟩) cn k2)) from by
                          have h9 := V9.out.1.set (i := q) (by rw [hl]; omega) V9.out.2 HGB.out
                          rw [HMM.out.2.2.1] at h9
                          exact h9)
                        clear hl
                        go_wp2_with fail
                        go_roundw
                        case rel => exact ⟨kk + 1, by omega, by omega, by go_num, HZ.out⟩
                        case measure => simp [intOf]; omega
                  · have HK := Lib.hid (show scrollS cn LL' (t : Int) (bo : Int) z p = scrollS cn LL' (t : Int) (bo : Int) (kk : Int) p from scroll_far HP.out.2.1.box p htb hbr (by omega))
                    have e2' : (24 : Int) ≤ (kk : Int) := by omega
                    have e3 : 0 ≤ z := hz
                    have HE := Lib.hid (show G = some (cn, rn, scrollS cn LL' (t : Int) (bo : Int) (kk : Int) p) from by rw [HP.out.2.2, HK.out])
                    go_wp2_with fail
                    go_loopw [15] (fun i wr => i = .int .i64 0 ∧ wr = wo) (fun _ _ => 0)
                    case atStart => exact ⟨rfl, rfl⟩
                    case round =>
                      obtain ⟨rfl, hwr⟩ := hrel
                      have hwr := hwr.symm
                      subst hwr
                      obtain ⟨S9, htb9⟩ := Y.out.tb
                      have HTB9 := Lib.hid htb9
                      clear htb9
                      go_wp2_with fail
                      refine (refOf_any (k := k') HTB9.out (scroll_box HP.out.2.1.box _ _ _ _) HP.out.2.1.c1 HP.out.2.1.c80 HP.out.2.1.r1 HP.out.2.1.r24).mono ?_
                      rintro e w7 ⟨hb, g3, k3, rfl, hg3, hk3, hk4, hR⟩
                      have Y7 := Lib.hid (show Below w.heap.size w w7 ∧ Gb w7 (b + 1 + 1) gr0 ∧ Rw ceV 41 w7 g3 (scrollS cn LL' (t : Int) (bo : Int) (kk : Int) p).flatten ∧ wo.heap.size ≤ g3 from ⟨Y.out.bel.trans (hb.mono Y.out.bel.size), Y.out.gb.below hb, hR, hg3⟩)
                      obtain ⟨N, hN⟩ : ∃ N, N = (scrollS cn LL' (t : Int) (bo : Int) (kk : Int) p).flatten.length := ⟨_, rfl⟩
                      rw [← hN] at hk3 ⊢
                      have HN := Lib.hid hN
                      have hlt6 := Y.out.gb.lt
                      clear hb hR hg3 hN
                      go_wp2_with (refine wpList_store_G rfl (.tmp 10) (.tmp 106) rfl (b + 1 + 1) gr0 ⟨cn, rn, some ⟨g3, 0, none⟩, N, k3⟩ rfl rfl Y7.out.2.1 ?_; intro w8 hG8 hg8)
                      refine bodyPost_ret (retG Tryd.results35 hG8 rfl) rfl ?_
                      rw [HE.out]
                      exact GPost.yes ⟨Y7.out.1.grown hg8 Y7.out.1.size (by intro k hk; injection hk with hk; have := H.out.be; omega), g3, k3, by rw [HN.out], by have := Y7.out.2.2.2; have := Y.out.bel.size; omega, by rw [← HN.out]; exact hk3, hk4, Y7.out.2.2.1.grown hg8 (by have := Y7.out.2.2.2; simp; omega)⟩
                · have HK := Lib.hid (show scrollS cn LL' (t : Int) (bo : Int) z p = scrollS cn LL' (t : Int) (bo : Int) (kk : Int) p from scroll_far HP.out.2.1.box p htb hbr (by omega))
                  have e1' : z ≤ (kk : Int) := by omega
                  have HE := Lib.hid (show G = some (cn, rn, scrollS cn LL' (t : Int) (bo : Int) (kk : Int) p) from by rw [HP.out.2.2, HK.out])
                  go_wp2_with fail
                  go_loopw [15] (fun i wr => i = .int .i64 0 ∧ wr = wo) (fun _ _ => 0)
                  case atStart => exact ⟨rfl, rfl⟩
                  case round =>
                    obtain ⟨rfl, hwr⟩ := hrel
                    have hwr := hwr.symm
                    subst hwr
                    obtain ⟨S9, htb9⟩ := Y.out.tb
                    have HTB9 := Lib.hid htb9
                    clear htb9
                    go_wp2_with fail
                    refine (refOf_any (k := k') HTB9.out (scroll_box HP.out.2.1.box _ _ _ _) HP.out.2.1.c1 HP.out.2.1.c80 HP.out.2.1.r1 HP.out.2.1.r24).mono ?_
                    rintro e w7 ⟨hb, g3, k3, rfl, hg3, hk3, hk4, hR⟩
                    have Y7 := Lib.hid (show Below w.heap.size w w7 ∧ Gb w7 (b + 1 + 1) gr0 ∧ Rw ceV 41 w7 g3 (scrollS cn LL' (t : Int) (bo : Int) (kk : Int) p).flatten ∧ wo.heap.size ≤ g3 from ⟨Y.out.bel.trans (hb.mono Y.out.bel.size), Y.out.gb.below hb, hR, hg3⟩)
                    obtain ⟨N, hN⟩ : ∃ N, N = (scrollS cn LL' (t : Int) (bo : Int) (kk : Int) p).flatten.length := ⟨_, rfl⟩
                    rw [← hN] at hk3 ⊢
                    have HN := Lib.hid hN
                    have hlt6 := Y.out.gb.lt
                    clear hb hR hg3 hN
                    go_wp2_with (refine wpList_store_G rfl (.tmp 10) (.tmp 106) rfl (b + 1 + 1) gr0 ⟨cn, rn, some ⟨g3, 0, none⟩, N, k3⟩ rfl rfl Y7.out.2.1 ?_; intro w8 hG8 hg8)
                    refine bodyPost_ret (retG Tryd.results35 hG8 rfl) rfl ?_
                    rw [HE.out]
                    exact GPost.yes ⟨Y7.out.1.grown hg8 Y7.out.1.size (by intro k hk; injection hk with hk; have := H.out.be; omega), g3, k3, by rw [HN.out], by have := Y7.out.2.2.2; have := Y.out.bel.size; omega, by rw [← HN.out]; exact hk3, hk4, Y7.out.2.2.1.grown hg8 (by have := Y7.out.2.2.2; simp; omega)⟩
            · have hzn : z < 0 := by omega
              go_wp2_with fail
              clear hx0 hyr hxy
              go_loopw [13] (fun i wr => i = .int .i64 0 ∧ wr = w2) (fun _ _ => 0)
              case atStart => exact ⟨rfl, rfl⟩
              case round =>
                obtain ⟨rfl, hwr⟩ := hrel
                have hwr := hwr.symm
                subst hwr
                go_wp2_with fail
                go_loopw [15] (fun i wr => ∃ kk : Nat, kk ≤ 24 ∧ z ≤ -(kk : Int) ∧ i = .int .i64 (-(kk : Int)) ∧ ClrSt w p cn rn A n k b g (scrollS cn LL' (t : Int) (bo : Int) (-(kk : Int)) p) wr) (fun i _ => 24 - (-(intOf i)).toNat)
                case atStart => exact ⟨0, by omega, by omega, rfl, by rw [show -((0 : Nat) : Int) = 0 from rfl, scroll_zero HP.out.2.1.box p htb hbr]; exact X4.out⟩
                case round =>
                  obtain ⟨kk, hk24, hkz, rfl, hst⟩ := hrel
                  obtain ⟨wo, rfl⟩ : ∃ wo, wo = wr := ⟨_, rfl⟩
                  have Y := Lib.hid hst
                  clear hst
                  by_cases e1 : z < -(kk : Int)
                  · by_cases e2 : (-24 : Int) < -(kk : Int)
                    ·
                      obtain ⟨M, hM⟩ : ∃ M, M = scrollS cn LL' (t : Int) (bo : Int) (-(kk : Int)) p := ⟨_, rfl⟩
                      have HMM := Lib.hid (show M.length = rn ∧ (dnK M t bo t).set t (blanksS cn p) = scrollS cn LL' (t : Int) (bo : Int) (-((kk + 1 : Nat) : Int)) p ∧ dnK M t bo bo = M from by
                        have e1 : M.length = rn := by rw [hM]; exact (scroll_box HP.out.2.1.box _ _ _ _).len
                        refine ⟨e1, ?_, dnK_zero M t bo⟩
                        rw [hM]
                        exact dn_step HP.out.2.1.box kk p htb hbr)
                      rw [← hM] at Y
                      clear hM
                      go_wp2_with fail
                      go_loopw [16] (fun i wr => ∃ q : Nat, t ≤ q ∧ q ≤ bo ∧ i = .int .i64 q ∧ ClrSt w p cn rn A n k b g (dnK M t bo q) wr) (fun i _ => (intOf i).toNat)
                      case atStart => exact ⟨bo, htb, Nat.le_refl _, rfl, by rw [HMM.out.2.2]; exact Y.out⟩
                      case round =>
                        obtain ⟨q, hq1, hq2, rfl, hst⟩ := hrel
                        have V := Lib.hid hst
                        clear hst
                        by_cases hlt : t < q
                        · obtain ⟨q, rfl⟩ : ∃ q' : Nat, q = q' + 1 := ⟨q - 1, by omega⟩
                          have hqi : (t : Int) < ((q + 1 : Nat) : Int) := by omega
                          have hqr : ((q + 1 : Nat) : Int) < (rn : Int) := by omega
                          have hqr2 : (q : Int) < (rn : Int) := by omega
                          have v6 : IntKind.i64.wrap (((q + 1 : Nat) : Int) - 1) = (q : Int) := by rw [IntKind.wrap_i64]; omega
                          have hl : (dnK M t bo (q + 1)).length = rn := by rw [dnK_len, HMM.out.1]
                          obtain ⟨s1, z1, _, ho1⟩ := V.out.row (i := q) (by rw [hl]; omega)
                          obtain ⟨s0, z0, f0, _⟩ := V.out.row (i := q + 1) (by rw [hl]; omega)
                          have HZ := Lib.hid (show ClrSt w p cn rn A n k b g (dnK M t bo q) (wr.setCell ⟨g, q + 1, none⟩ (.slice s1.A s1.n s1.k)) from by
                            have h9 := V.out.set (i := q + 1) (by rw [hl]; omega) ho1 HGB.out
                            rw [dn_set (by rw [HMM.out.1]; omega) (by omega) hq2] at h9
                            exact h9)
                          clear ho1 hl
                          obtain ⟨Q, hQ⟩ : ∃ Q, Q = q + 1 := ⟨_, rfl⟩
                          rw [← hQ] at hqi hqr v6 z0 f0 HZ ⊢
                          have HQ := Lib.hid hQ
                          clear hQ
                          go_wp2_with fail
                          go_roundw
                          case rel => exact ⟨q, by omega, by omega, by go_num, HZ.out⟩
                          case measure => simp [intOf]; have := HQ.out; omega
                        · obtain rfl : q = t := by omega
                          obtain ⟨d0, d1, d2, d3, _⟩ := V.out.p4
                          obtain ⟨c0, c1, c2, _⟩ := V.out.g3
                          go_wp2_with fail
                          refine (refBlanks_any p (by omega)).mono ?_
                          rintro e w9 ⟨hb, g2, k2, rfl, hg2, hm1, hm3, hR⟩
                          have e9 : (blanksS cn p).length = cn := blanks_len _ _
                          rw [e9] at hm1 ⊢
                          have V9 := Lib.hid (show ClrSt w p cn rn A n k b g (dnK M q bo q) w9 ∧ OwnRow w9 w.heap.size ⟨some ⟨g2, 0, none⟩, cn, k2⟩ (blanksS cn p) from ⟨V.out.below hb, OwnRow.mk' (Nat.le_trans V.out.bel.size hg2) e9.symm hm1 hm3 hR⟩)
                          clear hb hg2 hm1 hm3 hR e9 c0 c1 c2 d0 d1 d2 d3
                          have hl : (dnK M q bo q).length = rn := by rw [dnK_len, HMM.out.1]
                          have hqr : (q : Int) < (rn : Int) := by omega
                          obtain ⟨s0, z0, f0, _⟩ := V9.out.1.row (i := q) (by rw [hl]; omega)
                          have HZ := Lib.hid (show ClrSt w p cn rn A n k b g (scrollS cn LL' (q : Int) (bo : Int) (-((kk + 1 : Nat) : Int)) p) (w9.setCell ⟨g, q, none⟩ (.slice (some ⟨g2, 0, none⟩) cn k2)) from by
                            have h9 := V9.out.1.set (i := q) (by rw [hl]; omega) V9.out.2 HGB.out
                            rw [HMM.out.2.1] at h9
                            exact h9)
                          clear hl
                          go_wp2_with fail
                          go_roundw
                          case rel => exact ⟨kk + 1, by omega, by omega, by go_num, HZ.out⟩
                          case measure => simp [intOf]; omega
                    · have HK := Lib.hid (show scrollS cn LL' (t : Int) (bo : Int) z p = scrollS cn LL' (t : Int) (bo : Int) (-(kk : Int)) p from scroll_far HP.out.2.1.box p htb hbr (by omega))
                      have e2' : -(kk : Int) ≤ (-24 : Int) := by omega
                      have HE := Lib.hid (show G = some (cn, rn, scrollS cn LL' (t : Int) (bo : Int) (-(kk : Int)) p) from by rw [HP.out.2.2, HK.out])
                      obtain ⟨S9, htb9⟩ := Y.out.tb
                      have HTB9 := Lib.hid htb9
                      clear htb9
                      go_wp2_with fail
                      refine (refOf_any (k := k') HTB9.out (scroll_box HP.out.2.1.box _ _ _ _) HP.out.2.1.c1 HP.out.2.1.c80 HP.out.2.1.r1 HP.out.2.1.r24).mono ?_
                      rintro e w7 ⟨hb, g3, k3, rfl, hg3, hk3, hk4, hR⟩
                      have Y7 := Lib.hid (show Below w.heap.size w w7 ∧ Gb w7 (b + 1 + 1) gr0 ∧ Rw ceV 41 w7 g3 (scrollS cn LL' (t : Int) (bo : Int) (-(kk : Int)) p).flatten ∧ wo.heap.size ≤ g3 from ⟨Y.out.bel.trans (hb.mono Y.out.bel.size), Y.out.gb.below hb, hR, hg3⟩)
                      obtain ⟨N, hN⟩ : ∃ N, N = (scrollS cn LL' (t : Int) (bo : Int) (-(kk : Int)) p).flatten.length := ⟨_, rfl⟩
                      rw [← hN] at hk3 ⊢
                      have HN := Lib.hid hN
                      have hlt6 := Y.out.gb.lt
                      clear hb hR hg3 hN
                      go_wp2_with (refine wpList_store_G rfl (.tmp 10) (.tmp 106) rfl (b + 1 + 1) gr0 ⟨cn, rn, some ⟨g3, 0, none⟩, N, k3⟩ rfl rfl Y7.out.2.1 ?_; intro w8 hG8 hg8)
                      refine bodyPost_ret (retG Tryd.results35 hG8 rfl) rfl ?_
                      rw [HE.out]
                      exact GPost.yes ⟨Y7.out.1.grown hg8 Y7.out.1.size (by intro k hk; injection hk with hk; have := H.out.be; omega), g3, k3, by rw [HN.out], by have := Y7.out.2.2.2; have := Y.out.bel.size; omega, by rw [← HN.out]; exact hk3, hk4, Y7.out.2.2.1.grown hg8 (by have := Y7.out.2.2.2; simp; omega)⟩
                  · have HK := Lib.hid (show scrollS cn LL' (t : Int) (bo : Int) z p = scrollS cn LL' (t : Int) (bo : Int) (-(kk : Int)) p from scroll_far HP.out.2.1.box p htb hbr (by omega))
                    have e1' : -(kk : Int) ≤ z := by omega
                    have HE := Lib.hid (show G = some (cn, rn, scrollS cn LL' (t : Int) (bo : Int) (-(kk : Int)) p) from by rw [HP.out.2.2, HK.out])
                    obtain ⟨S9, htb9⟩ := Y.out.tb
                    have HTB9 := Lib.hid htb9
                    clear htb9
                    go_wp2_with fail
                    refine (refOf_any (k := k') HTB9.out (scroll_box HP.out.2.1.box _ _ _ _) HP.out.2.1.c1 HP.out.2.1.c80 HP.out.2.1.r1 HP.out.2.1.r24).mono ?_
                    rintro e w7 ⟨hb, g3, k3, rfl, hg3, hk3, hk4, hR⟩
                    have Y7 := Lib.hid (show Below w.heap.size w w7 ∧ Gb w7 (b + 1 + 1) gr0 ∧ Rw ceV 41 w7 g3 (scrollS cn LL' (t : Int) (bo : Int) (-(kk : Int)) p).flatten ∧ wo.heap.size ≤ g3 from ⟨Y.out.bel.trans (hb.mono Y.out.bel.size), Y.out.gb.below hb, hR, hg3⟩)
                    obtain ⟨N, hN⟩ : ∃ N, N = (scrollS cn LL' (t : Int) (bo : Int) (-(kk : Int)) p).flatten.length := ⟨_, rfl⟩
                    rw [← hN] at hk3 ⊢
                    have HN := Lib.hid hN
                    have hlt6 := Y.out.gb.lt
                    clear hb hR hg3 hN
                    go_wp2_with (refine wpList_store_G rfl (.tmp 10) (.tmp 106) rfl (b + 1 + 1) gr0 ⟨cn, rn, some ⟨g3, 0, none⟩, N, k3⟩ rfl rfl Y7.out.2.1 ?_; intro w8 hG8 hg8)
                    refine bodyPost_ret (retG Tryd.results35 hG8 rfl) rfl ?_
                    rw [HE.out]
                    exact GPost.yes ⟨Y7.out.1.grown hg8 Y7.out.1.size (by intro k hk; injection hk with hk; have := H.out.be; omega), g3, k3, by rw [HN.out], by have := Y7.out.2.2.2; have := Y.out.bel.size; omega, by rw [← HN.out]; exact hk3, hk4, Y7.out.2.2.1.grown hg8 (by have := Y7.out.2.2.2; simp; omega)⟩
          · have hyx : y < x := by omega
            have HE := Lib.hid (show G = some (cn, rn, LL') from by rw [HP.out.2.2, scroll_none z p (by right; right; exact hyx)])
            clear hxy
            obtain ⟨S9, htb9⟩ := X4.out.tb
            have HTB9 := Lib.hid htb9
            clear htb9
            go_wp2_with fail
            refine (refOf_any (k := k') HTB9.out (HP.out.2.1.box) HP.out.2.1.c1 HP.out.2.1.c80 HP.out.2.1.r1 HP.out.2.1.r24).mono ?_
            rintro e w7 ⟨hb, g3, k3, rfl, hg3, hk3, hk4, hR⟩
            have Y7 := Lib.hid (show Below w.heap.size w w7 ∧ Gb w7 (b + 1 + 1) gr0 ∧ Rw ceV 41 w7 g3 LL'.flatten ∧ w2.heap.size ≤ g3 from ⟨X4.out.bel.trans (hb.mono X4.out.bel.size), X4.out.gb.below hb, hR, hg3⟩)
            obtain ⟨N, hN⟩ : ∃ N, N = LL'.flatten.length := ⟨_, rfl⟩
            rw [← hN] at hk3 ⊢
            have HN := Lib.hid hN
            have hlt6 := X4.out.gb.lt
            clear hb hR hg3 hN
            go_wp2_with (refine wpList_store_G rfl (.tmp 10) (.tmp 44) rfl (b + 1 + 1) gr0 ⟨cn, rn, some ⟨g3, 0, none⟩, N, k3⟩ rfl rfl Y7.out.2.1 ?_; intro w8 hG8 hg8)
            refine bodyPost_ret (retG Tryd.results35 hG8 rfl) rfl ?_
            rw [HE.out]
            exact GPost.yes ⟨Y7.out.1.grown hg8 Y7.out.1.size (by intro k hk; injection hk with hk; have := H.out.be; omega), g3, k3, by rw [HN.out], by have := Y7.out.2.2.2; have := X4.out.bel.size; omega, by rw [← HN.out]; exact hk3, hk4, Y7.out.2.2.1.grown hg8 (by have := Y7.out.2.2.2; simp; omega)⟩
        · have hry : (rn : Int) ≤ y := by omega
          have HE := Lib.hid (show G = some (cn, rn, LL') from by rw [HP.out.2.2, scroll_none z p (by right; left; rw [HLN.out]; exact hry)])
          clear hyr
          obtain ⟨S9, htb9⟩ := X4.out.tb
          have HTB9 := Lib.hid htb9
          clear htb9
          go_wp2_with fail
          refine (refOf_any (k := k') HTB9.out (HP.out.2.1.box) HP.out.2.1.c1 HP.out.2.1.c80 HP.out.2.1.r1 HP.out.2.1.r24).mono ?_
          rintro e w7 ⟨hb, g3, k3, rfl, hg3, hk3, hk4, hR⟩
          have Y7 := Lib.hid (show Below w.heap.size w w7 ∧ Gb w7 (b + 1 + 1) gr0 ∧ Rw ceV 41 w7 g3 LL'.flatten ∧ w2.heap.size ≤ g3 from ⟨X4.out.bel.trans (hb.mono X4.out.bel.size), X4.out.gb.below hb, hR, hg3⟩)
          obtain ⟨N, hN⟩ : ∃ N, N = LL'.flatten.length := ⟨_, rfl⟩
          rw [← hN] at hk3 ⊢
          have HN := Lib.hid hN
          have hlt6 := X4.out.gb.lt
          clear hb hR hg3 hN
          go_wp2_with (refine wpList_store_G rfl (.tmp 10) (.tmp 44) rfl (b + 1 + 1) gr0 ⟨cn, rn, some ⟨g3, 0, none⟩, N, k3⟩ rfl rfl Y7.out.2.1 ?_; intro w8 hG8 hg8)
          refine bodyPost_ret (retG Tryd.results35 hG8 rfl) rfl ?_
          rw [HE.out]
          exact GPost.yes ⟨Y7.out.1.grown hg8 Y7.out.1.size (by intro k hk; injection hk with hk; have := H.out.be; omega), g3, k3, by rw [HN.out], by have := Y7.out.2.2.2; have := X4.out.bel.size; omega, by rw [← HN.out]; exact hk3, hk4, Y7.out.2.2.1.grown hg8 (by have := Y7.out.2.2.2; simp; omega)⟩
      · have hx1 : x < 0 := by omega
        have HE := Lib.hid (show G = some (cn, rn, LL') from by rw [HP.out.2.2, scroll_none z p (.inl hx1)])
        clear hx0
        obtain ⟨S9, htb9⟩ := X4.out.tb
        have HTB9 := Lib.hid htb9
        clear htb9
        go_wp2_with fail
        refine (refOf_any (k := k') HTB9.out (HP.out.2.1.box) HP.out.2.1.c1 HP.out.2.1.c80 HP.out.2.1.r1 HP.out.2.1.r24).mono ?_
        rintro e w7 ⟨hb, g3, k3, rfl, hg3, hk3, hk4, hR⟩
        have Y7 := Lib.hid (show Below w.heap.size w w7 ∧ Gb w7 (b + 1 + 1) gr0 ∧ Rw ceV 41 w7 g3 LL'.flatten ∧ w2.heap.size ≤ g3 from ⟨X4.out.bel.trans (hb.mono X4.out.bel.size), X4.out.gb.below hb, hR, hg3⟩)
        obtain ⟨N, hN⟩ : ∃ N, N = LL'.flatten.length := ⟨_, rfl⟩
        rw [← hN] at hk3 ⊢
        have HN := Lib.hid hN
        have hlt6 := X4.out.gb.lt
        clear hb hR hg3 hN
        go_wp2_with (refine wpList_store_G rfl (.tmp 10) (.tmp 44) rfl (b + 1 + 1) gr0 ⟨cn, rn, some ⟨g3, 0, none⟩, N, k3⟩ rfl rfl Y7.out.2.1 ?_; intro w8 hG8 hg8)
        refine bodyPost_ret (retG Tryd.results35 hG8 rfl) rfl ?_
        rw [HE.out]
        exact GPost.yes ⟨Y7.out.1.grown hg8 Y7.out.1.size (by intro k hk; injection hk with hk; have := H.out.be; omega), g3, k3, by rw [HN.out], by have := Y7.out.2.2.2; have := X4.out.bel.size; omega, by rw [← HN.out]; exact hk3, hk4, Y7.out.2.2.1.grown hg8 (by have := Y7.out.2.2.2; simp; omega)⟩
end Go.Proofs.YtflnocgahdlojaaDoor
