/-
  cell.Put.
-/
import Derived.Test.YtflnocgahdlojaaDoorCellsOf
namespace Go.Proofs.YtflnocgahdlojaaDoor
open Go.RowKit

/-- A row, if it may be written; none else. -/
def OpPost (M : List Ce) (ok : Bool) (w : World) (e : Ending) (w' : World) : Prop := (ok = true → MadeC M w e w') ∧ (ok = false → e = .returned (.slice none 0 0) ∧ Below w.heap.size w w')
/-- What stays known while a call writes on its row: where it began, its row, its pen. -/
structure Wr (w : World) (g c b : Nat) (p : Pn) (L M : List Ce) (wx : World) : Prop where
  bel : Below w.heap.size w wx
  rw_ : Rw ceV 41 wx g M
  pen : Pen4 wx b p
  ge : w.heap.size ≤ g
  ne : b ≠ g
  len : M.length = L.length
  le : L.length ≤ c
  mx : c ≤ maxLen
theorem Wr.below {w wx w' : World} {g c b : Nat} {p : Pn} {L M : List Ce} (h : Wr w g c b p L M wx) (hb : Below wx.heap.size wx w') : Wr w g c b p L M w' :=
  ⟨h.bel.trans (hb.mono h.bel.size), h.rw_.below hb, h.pen.below hb, h.ge, h.ne, h.len, h.le, h.mx⟩
theorem Wr.grown {w wx w' : World} {g c b : Nat} {p : Pn} {L M M' : List Ce} (h : Wr w g c b p L M wx) (hR : Rw ceV 41 w' g M') (hg : wx.grownBy w' (some g)) (hl : M'.length = L.length) : Wr w g c b p L M' w' :=
  ⟨h.bel.grown hg h.bel.size (fun k hk => by injection hk with hk; have := h.ge; omega), hR, h.pen.grown hg (by intro e; injection e with e; exact h.ne e.symm), h.ge, h.ne, hl, h.le, h.mx⟩
theorem Wr.made {w wx : World} {g c b : Nat} {p : Pn} {L M : List Ce} (h : Wr w g c b p L M wx) : MadeC M w (.returned (.slice (some ⟨g, 0, none⟩) L.length c)) wx :=
  ⟨h.bel, g, c, by rw [h.len], h.ge, by rw [h.len]; exact h.le, h.mx, h.rw_⟩

set_option maxHeartbeats 1600000 in
theorem put_at {w : World} {A : Option Addr} {n c : Nat} {L R : List Ce} (x r : Int) (p : Pn) (h : Vs ceV w A n L) (hT : Tabs w) (hn : n ≤ 1000000) {ok : Bool} (hok : (rowMay L && penMayS p) = ok) (hres : putS L x r p = R) :
    Calls Tryd.prog 49 #[.slice A n c, .int .i64 x, .int .i32 r, .agg (pnA p)] w (OpPost R ok w) := by
  have HK := Lib.hid hok
  have HR := Lib.hid hres
  obtain ⟨w0, hw0⟩ : ∃ w0, w0 = w.alloc (.cells (pnA p) 29) := ⟨_, rfl⟩
  obtain ⟨b, hbe⟩ : ∃ b, b = w.heap.size := ⟨_, rfl⟩
  have H := Lib.hid (show Vs ceV w0 A n L ∧ Tabs w0 ∧ Pen4 w0 b p ∧ Below w.heap.size w w0 ∧ w.heap.size = b from by
    rw [hw0, hbe]
    exact ⟨h.alloc _, hT.below ((Below.refl _ _).alloc (Nat.le_refl _) _) (Nat.le_refl _), pen4_new w p _, (Below.refl _ _).alloc (Nat.le_refl _) _, rfl⟩)
  have HL := Lib.hid h.len
  clear h hT hok hres
  obtain ⟨c0, c1, c2, c3, _⟩ := H.out.2.2.1
  unfold pnA at hw0
  go_enter Tryd.func49, Tryd.ntmps49
  unfold pnA
  go_upto_region 1 with fail
  rw [← hw0, ← hbe]
  clear hw0 hbe
  go_wp2_with fail
  refine (writable_any p H.out.1 H.out.2.1 hn).mono ?_
  rintro e w1 ⟨hyes, hno⟩
  rw [HK.out] at hyes hno
  clear c0 c1 c2 c3
  cases ok
  · obtain ⟨rfl, hb⟩ := hno rfl
    obtain ⟨c0, c1, c2, c3, _⟩ := H.out.2.2.1.below hb
    have X := Lib.hid (show Below w.heap.size w w1 ∧ Tabs w1 from ⟨H.out.2.2.2.1.trans (hb.mono H.out.2.2.2.1.size), H.out.2.1.below hb (Nat.le_refl _)⟩)
    clear hyes hno hb
    go_wp2_with fail
    refine (cellsOf_any r p X.out.2).mono ?_
    rintro e w2 ⟨hb, A2, k2, rfl, _, _, _, _⟩
    have X2 := Lib.hid (X.out.1.trans (hb.mono X.out.1.size))
    clear hb c0 c1 c2 c3
    go_wp2_with fail
    refine (hasPlace_any x w2).mono ?_
    rintro e w3 ⟨rfl, rfl⟩
    have hd : decide (0 ≤ x ∧ x < ((0 : Nat) : Int)) = false := by simp
    rw [hd]
    clear hd
    have HP : Hid (OpPost R false w (.returned (.slice none 0 0)) w2) := ⟨fun e => (by cases e), fun _ => ⟨rfl, X2.out⟩⟩
    go_wp2_with fail
    go_ret
    exact HP.out
  · obtain ⟨hb, g, c', rfl, hg, hc1, hc2, hR⟩ := hyes rfl
    have hLl := HL.out
    rw [hLl] at hc1 ⊢
    have X := Lib.hid (show Wr w g c' b p L L w1 ∧ Tabs w1 ∧ g < w1.heap.size from ⟨⟨H.out.2.2.2.1.trans (hb.mono H.out.2.2.2.1.size), hR, H.out.2.2.1.below hb, Nat.le_trans H.out.2.2.2.1.size hg, by have := H.out.2.2.1.lt; omega, rfl, by rw [hLl]; exact hc1, hc2⟩, H.out.2.1.below hb (Nat.le_refl _), hR.lt⟩)
    have HO := Lib.hid ((rowMay_iff L).1 (by have := HK.out; simp at this; exact this.1))
    obtain ⟨c0, c1, c2, c3, _⟩ := X.out.1.pen
    clear hyes hno hb hR hg H HK hLl
    go_wp2_with fail
    refine (cellsOf_any r p X.out.2.1).mono ?_
    rintro e w2 ⟨hb, A2, k2, rfl, hk1, hk2, hv, hnew⟩
    have Y := Lib.hid (show Wr w g c' b p L L w2 ∧ Vs ceV w2 A2 (lettS r p).length (lettS r p) ∧ (∀ ad, A2 = some ad → some g ≠ some ad.block) from ⟨X.out.1.below hb, hv, fun ad e e2 => by injection e2 with e2; have := hnew ad e; have := X.out.2.2; omega⟩)
    obtain ⟨m, hm⟩ : ∃ m, m = (lettS r p).length := ⟨_, rfl⟩
    rw [← hm] at hk1 ⊢
    have HM := Lib.hid hm
    have hm2 : m ≤ 2 := by rw [hm]; unfold lettS; (repeat' split) <;> simp
    clear hb hv hnew hm c0 c1 c2 c3 X
    go_wp2_with fail
    refine (hasPlace_any x w2).mono ?_
    rintro e w3 ⟨rfl, rfl⟩
    by_cases hx : 0 ≤ x ∧ x < (n : Int)
    · obtain ⟨a, rfl⟩ : ∃ a : Nat, x = (a : Int) := ⟨x.toNat, by omega⟩
      rw [decide_eq_true hx]
      have ha : a < n := by omega
      by_cases hm0 : m = 0
      · subst hm0
        have HP : Hid (OpPost R true w (.returned (.slice (some ⟨g, 0, none⟩) n c')) w2) := by
          have e : putS L (a : Int) r p = L := by unfold putS; simp only []; rw [if_neg (by have := HM.out; omega)]
          rw [← HR.out, e, ← HL.out]
          exact ⟨fun _ => Y.out.1.made, fun e => (by cases e)⟩
        go_wp2_with fail
        go_ret
        exact HP.out
      · have hm1 : ((m : Int) == 0) = false := by simp; omega
        by_cases hfit : (m : Int) ≤ (n : Int) - (a : Int)
        · have he : putS L (a : Int) r p = overS (cutS (cutS L a) (a + m)) a (lettS r p) := by
            unfold putS; simp only []; rw [if_pos (by have := HM.out; have := HL.out; omega), ← HM.out]; rfl
          have HE := Lib.hid (HR.out.symm.trans he)
          clear he
          go_wp2_with fail
          refine (cut_any (c := c') a Y.out.1.rw_ HL.out (by omega) (fun h1 h2 => HO.out.prev h1 h2)).mono ?_
          rintro e w3 ⟨rfl, hR, hg⟩
          have Y2 := Lib.hid (show Wr w g c' b p L (cutS L a) w3 ∧ Vs ceV w3 A2 m (lettS r p) from ⟨Y.out.1.grown hR hg (cutS_length _ _), by rw [HM.out]; exact Y.out.2.1.grown hg (fun ad e _ => Y.out.2.2 ad e)⟩)
          clear hR hg
          go_wp2_with fail
          refine (cut_any (c := c') (a + m) Y2.out.1.rw_ (by rw [cutS_length]; exact HL.out) (by omega) (fun _ _ => by omega)).mono ?_
          rintro e w4 ⟨rfl, hR, hg⟩
          have Y3 := Lib.hid (show Wr w g c' b p L (cutS (cutS L a) (a + m)) w4 ∧ Vs ceV w4 A2 m (lettS r p) from ⟨Y2.out.1.grown hR hg (by rw [cutS_length, cutS_length]), Y2.out.2.grown hg (fun ad e _ => Y.out.2.2 ad e)⟩)
          have HF := Lib.hid (show a + (lettS r p).length ≤ (cutS (cutS L a) (a + m)).length ∧ (lettS r p).length = Nat.min m (n - a) from by
            rw [← HM.out, cutS_length, cutS_length, HL.out]
            exact ⟨by omega, (Nat.min_eq_left (by omega)).symm⟩)
          clear hR hg Y2
          go_wp2_with (refine wpList_copy_V rfl (.tmp 47) (.tmp 48) 22 22 rfl 41 ceV_len one_ce Tryd.underlying22 infoCe g a (n - a) (c' - a) (some ⟨g, a * 6, none⟩) A2 m k2 rfl rfl 41 _ (lettS r p) Y3.out.1.rw_ HF.out.2 (by rw [← HM.out]; exact Y3.out.2) (fun _ => rfl) HF.out.1 ?_; intro w5 hR5 hg5)
          have Y5 := Lib.hid (Y3.out.1.grown hR5 hg5 (show (overS (cutS (cutS L a) (a + m)) a (lettS r p)).length = L.length by rw [overS_length HF.out.1, cutS_length, cutS_length]))
          clear hR5 hg5
          have HP : Hid (OpPost R true w (.returned (.slice (some ⟨g, 0, none⟩) n c')) w5) := by
            rw [HE.out, ← HL.out]
            exact ⟨fun _ => Y5.out.made, fun e => (by cases e)⟩
          go_wp2_with fail
          go_ret
          exact HP.out
        · have hm3 : (n : Int) - (a : Int) < (m : Int) := by omega
          have HP : Hid (OpPost R true w (.returned (.slice (some ⟨g, 0, none⟩) n c')) w2) := by
            have e : putS L (a : Int) r p = L := by unfold putS; simp only []; rw [if_neg (by have := HM.out; have := HL.out; omega)]
            rw [← HR.out, e, ← HL.out]
            exact ⟨fun _ => Y.out.1.made, fun e => (by cases e)⟩
          go_wp2_with fail
          go_ret
          exact HP.out
    · rw [decide_eq_false hx]
      have HP : Hid (OpPost R true w (.returned (.slice (some ⟨g, 0, none⟩) n c')) w2) := by
        have e : putS L x r p = L := by unfold putS; simp only []; rw [if_neg (by have := HL.out; omega)]
        rw [← HR.out, e, ← HL.out]
        exact ⟨fun _ => Y.out.1.made, fun e => (by cases e)⟩
      go_wp2_with fail
      go_ret
      exact HP.out
theorem put_any {w : World} {A : Option Addr} {n c : Nat} {L : List Ce} (x r : Int) (p : Pn) (h : Vs ceV w A n L) (hT : Tabs w) (hn : n ≤ 1000000) :
    Calls Tryd.prog 49 #[.slice A n c, .int .i64 x, .int .i32 r, .agg (pnA p)] w (OpPost (putS L x r p) (rowMay L && penMayS p) w) := put_at x r p h hT hn rfl rfl
end Go.Proofs.YtflnocgahdlojaaDoor
