/-
  cell.Erase.
-/
import Derived.Test.YtflnocgahdlojaaDoorCellPut
import Derived.Test.YtflnocgahdlojaaDoorCellFill
import Derived.StillTailTactics
namespace Go.Proofs.YtflnocgahdlojaaDoor
open Go.RowKit

set_option maxHeartbeats 1600000 in
theorem erase_at {w : World} {A : Option Addr} {n c : Nat} {L R : List Ce} (x y : Int) (p : Pn) (h : Vs ceV w A n L) (hT : Tabs w) (hn : n ≤ 1000000) {ok : Bool} (hok : (rowMay L && penMayS p) = ok) (hres : eraseS L x y p = R) :
    Calls Tryd.prog 46 #[.slice A n c, .int .i64 x, .int .i64 y, .agg (pnA p)] w (OpPost R ok w) := by
  have HK := Lib.hid hok
  have HR := Lib.hid hres
  obtain ⟨w0, hw0⟩ : ∃ w0, w0 = w.alloc (.cells (pnA p) 29) := ⟨_, rfl⟩
  obtain ⟨b, hbe⟩ : ∃ b, b = w.heap.size := ⟨_, rfl⟩
  have H := Lib.hid (show Vs ceV w0 A n L ∧ Tabs w0 ∧ Pen4 w0 b p ∧ Below w.heap.size w w0 ∧ w.heap.size = b from by
    rw [hw0, hbe]
    exact ⟨h.alloc _, hT.below ((Below.refl _ _).alloc (Nat.le_refl _) _) (Nat.le_refl _), pen4_new w p _, (Below.refl _ _).alloc (Nat.le_refl _) _, rfl⟩)
  have HL := Lib.hid h.len
  clear h hT hok hres
  obtain ⟨c0, c1, c2, c3, _⟩ := H.out.2.2.1
  unfold pnA at hw0
  go_enter Tryd.func46, Tryd.ntmps46
  unfold pnA
  go_upto_region 1 with fail
  rw [← hw0, ← hbe]
  clear hw0 hbe
  go_wp2_with fail
  refine (writable_any p H.out.1 H.out.2.1 hn).mono ?_
  rintro e w1 ⟨hyes, hno⟩
  rw [HK.out] at hyes hno
  clear c0 c1 c2 c3
  cases ok
  · obtain ⟨rfl, hb⟩ := hno rfl
    have X := Lib.hid (show Below w.heap.size w w1 from H.out.2.2.2.1.trans (hb.mono H.out.2.2.2.1.size))
    clear hyes hno hb
    have HP : Hid (OpPost R false w (.returned (.slice none 0 0)) w1) := ⟨fun e => (by cases e), fun _ => ⟨rfl, X.out⟩⟩
    have hf : min y 0 ≤ max x 0 := by omega
    go_wp2_with fail
    go_ret
    exact HP.out
  · obtain ⟨hb, g, c', rfl, hg, hc1, hc2, hR⟩ := hyes rfl
    have hLl := HL.out
    rw [hLl] at hc1 ⊢
    have X := Lib.hid (show Wr w g c' b p L L w1 from ⟨H.out.2.2.2.1.trans (hb.mono H.out.2.2.2.1.size), hR, H.out.2.2.1.below hb, Nat.le_trans H.out.2.2.2.1.size hg, by have := H.out.2.2.1.lt; omega, rfl, by rw [hLl]; exact hc1, hc2⟩)
    have HO := Lib.hid ((rowMay_iff L).1 (by have := HK.out; simp at this; exact this.1))
    clear hyes hno hb hR hg H HK hLl
    obtain ⟨f, hmax⟩ : ∃ f : Nat, max x 0 = (f : Int) := ⟨(max x 0).toNat, by omega⟩
    obtain ⟨t, hmin⟩ : ∃ t : Int, min y (n : Int) = t := ⟨_, rfl⟩
    have HF := Lib.hid (And.intro hmax hmin)
    by_cases hft : t ≤ (f : Int)
    · have HP : Hid (OpPost R true w (.returned (.slice (some ⟨g, 0, none⟩) n c')) w1) := by
        have e : eraseS L x y p = L := by unfold eraseS; simp only []; rw [if_neg (by have := HF.out; have := HL.out; omega)]
        rw [← HR.out, e, ← HL.out]
        exact ⟨fun _ => X.out.made, fun e => (by cases e)⟩
      go_wp2_with fail
      go_ret
      exact HP.out
    · obtain ⟨u, rfl⟩ : ∃ u : Nat, t = (u : Int) := ⟨t.toNat, by omega⟩
      have hu1 : f < u := by omega
      have hu2 : u ≤ n := by omega
      have HE := Lib.hid (show R = overS (cutS (cutS L f) u) f (List.replicate (u - f) (blankS p)) from by
        rw [← HR.out]
        unfold eraseS
        simp only []
        rw [show (max x 0).toNat = f by have := HF.out; omega, show (min y (L.length : Int)).toNat = u by have := HF.out; have := HL.out; omega, if_pos hu1])
      go_wp2_with fail
      refine (cut_any (c := c') f X.out.rw_ HL.out (by omega) (fun h1 h2 => HO.out.prev h1 h2)).mono ?_
      rintro e w2 ⟨rfl, hR, hg⟩
      have Y2 := Lib.hid (X.out.grown hR hg (cutS_length _ _))
      clear hR hg X
      go_wp2_with fail
      refine (cut_any (c := c') u Y2.out.rw_ (by rw [cutS_length]; exact HL.out) (by omega) (fun _ _ => by omega)).mono ?_
      rintro e w3 ⟨rfl, hR, hg⟩
      have Y3 := Lib.hid (Y2.out.grown hR hg (by rw [cutS_length, cutS_length]))
      obtain ⟨c0, c1, c2, c3, _⟩ := Y3.out.pen
      have k1 : (f : Int) ≤ (u : Int) := by omega
      have k2 : (u : Int) ≤ (c' : Int) := by omega
      have k3 : ¬ (c' = f) := by omega
      have k4 : u ≤ c' := by omega
      clear hR hg Y2 hmax hmin
      go_wp2_with fail
      go_still_tail 5, (by kernel_rfl)
      change wpList _ _ _ _ _ w3.drew
      have Y4 := Lib.hid (Y3.out.below (Below.refl _ _).drew)
      clear c0 c1 c2 c3 Y3
      generalize w3.drew = w4 at Y4 ⊢
      go_wp2_with fail
      refine (fill_any (o := f) p Y4.out.rw_ (by rw [cutS_length, cutS_length]; have := HL.out; omega) (by omega) rfl).mono ?_
      rintro e w5 ⟨rfl, hR, hg⟩
      have Y5 := Lib.hid (Y4.out.grown hR hg (by rw [overS_length (by rw [List.length_replicate, cutS_length, cutS_length]; have := HL.out; omega), cutS_length, cutS_length]))
      clear hR hg Y4
      have HP : Hid (OpPost R true w (.returned (.slice (some ⟨g, 0, none⟩) n c')) w5) := by
        rw [HE.out, ← HL.out]
        exact ⟨fun _ => Y5.out.made, fun e => (by cases e)⟩
      go_wp2_with fail
      go_ret
      exact HP.out
theorem erase_any {w : World} {A : Option Addr} {n c : Nat} {L : List Ce} (x y : Int) (p : Pn) (h : Vs ceV w A n L) (hT : Tabs w) (hn : n ≤ 1000000) :
    Calls Tryd.prog 46 #[.slice A n c, .int .i64 x, .int .i64 y, .agg (pnA p)] w (OpPost (eraseS L x y p) (rowMay L && penMayS p) w) := erase_at x y p h hT hn rfl rfl
end Go.Proofs.YtflnocgahdlojaaDoor
