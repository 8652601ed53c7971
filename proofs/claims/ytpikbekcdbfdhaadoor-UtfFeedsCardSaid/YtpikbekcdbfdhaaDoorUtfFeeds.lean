/-
  Proved: UtfFeeds answers true for all bytes, over the tables that the library and the program lay (a tied card).
-/
import Derived.Test.YtpikbekcdbfdhaaDoorOpen
import Derived.Test.YtpikbekcdbfdhaaDoorCards
import Derived.Test.YtpikbekcdbfdhaaDoorTie
import Derived.SevenTiedAt
import Derived.Test.YtpikbekcdbfdhaaDoorUtfTab
import Derived.Test.YtpikbekcdbfdhaaDoorUtfRefFeed
import Derived.WalkKit
namespace Go.Proofs.YtpikbekcdbfdhaaDoor.utfFeeds
open Go.ChangeShapes Go.WideShapes Go.ChangeAt Go.RowKit

/-- Both decoders have o: the code's at d, the reference's in the variable at m. -/
structure Two (w0 w : World) (d m : Nat) (o : List Int) (A : Option Addr) (n c : Nat) : Prop where
  op : Op o
  u8 : U8s o
  blk : w.heap[m]? = some (.cells #[.slice A n c] 26 (0, 0))
  sb : Sb w A n o
  far : ∀ ad, A = some ad → 0 < n → m < ad.block
  dc : Dc w d o
  bel : Below w0.heap.size w0 w
theorem Two.lt {w0 w : World} {d m : Nat} {o : List Int} {A : Option Addr} {n c : Nat} (h : Two w0 w d m o A n c) : m < w.heap.size := (Array.getElem?_eq_some_iff.1 h.blk).1
theorem Two.below {w0 w w' : World} {d m : Nat} {o : List Int} {A : Option Addr} {n c : Nat} (h : Two w0 w d m o A n c) (hb : Below w.heap.size w w') : Two w0 w' d m o A n c :=
  ⟨h.op, h.u8, (hb.block _ h.lt).trans h.blk, h.sb.below hb, h.far, h.dc.below hb, h.bel.trans (hb.mono h.bel.size)⟩
theorem endS_len (o : List Int) : (endS o).length ≤ 1 := by unfold endS; split <;> simp
theorem feedS_u8 {o : List Int} {b : Int} (h8 : U8s o) (hb : 0 ≤ b ∧ b ≤ 255) : U8s (feedS o b).2 := by
  have h1 : U8s (o ++ [b]) := h8.append (fun z hz => by simp at hz; subst hz; exact hb)
  have h2 : U8s (feed1 b).2 := by
    unfold feed1
    split
    · exact U8s.nil
    · split
      · exact fun z hz => by simp at hz; subst hz; exact hb
      · exact U8s.nil
  unfold feedS
  split
  · exact U8s.nil
  · split
    · exact h1
    · split
      · exact U8s.nil
      · exact h2

set_option maxHeartbeats 3200000 in
set_option maxRecDepth 100000 in
/-- The walk. -/
theorem walk {A : Option Addr} {nn cc : Nat} {zs : List Int} (w : World) (hT : Tabs w) (hs : Sb w A nn zs) (h8 : U8s zs) (_ : nn ≤ 140737488351232) :
    Calls Tryd.prog 3 #[.slice A nn cc] w fun e w' => e = .returned (.bool true) ∧ Below w.heap.size w w' := by
  have H := Lib.hid (show Tabs w ∧ Sb w A nn zs ∧ U8s zs from ⟨hT, hs, h8⟩)
  clear hT hs h8
  go_enter Tryd.func3, Tryd.ntmps3
  go_wp2_with fail
  refine (new_any' w).mono ?_
  rintro e w1 ⟨rfl, hd1, hb1⟩
  obtain ⟨d, hd⟩ : ∃ d, d = w.heap.size := ⟨_, rfl⟩
  rw [← hd] at hd1 ⊢
  have X1 := Lib.hid (And.intro hd1 (And.intro hb1 hd))
  clear hd1 hb1 hd
  go_upto_region 3 with fail
  have hm2 : Two w (w1.alloc (.cells #[.slice none 0 0] 26)) d w1.heap.size [] none 0 0 :=
    ⟨.inl rfl, U8s.nil, heap_alloc_new _ _, Sb.nil _ _, (fun ad e => by cases e), X1.out.1.below ((Below.refl _ _).alloc (Nat.le_refl _) _), X1.out.2.1.alloc X1.out.2.1.size _⟩
  obtain ⟨m, hm⟩ : ∃ m, m = w1.heap.size := ⟨_, rfl⟩
  rw [← hm] at hm2 ⊢
  have hmd : w.heap.size ≤ d ∧ d < m := ⟨by rw [X1.out.2.2]; exact Nat.le_refl _, by rw [hm]; exact X1.out.1.lt⟩
  generalize w1.alloc (.cells #[.slice none 0 0] 26) = w2 at hm2 ⊢
  have X2 := Lib.hid (And.intro hm2 hmd)
  clear hm2 hmd hm X1
  go_wp2_with fail
  refine (utfFixed_any (H.out.1.below X2.out.1.bel (Nat.le_refl _))).mono ?_
  rintro e w3 ⟨rfl, hb3⟩
  have X3 := Lib.hid (And.intro (X2.out.1.below hb3) X2.out.2)
  clear hb3 X2
  go_wp2_with fail
  go_loopw [18] (fun i wr => ∃ (k : Nat) (o : List Int) (A1 : Option Addr) (n1 c1 : Nat), k ≤ nn ∧ i = .int .i64 k ∧ Two w wr d m o A1 n1 c1) (fun i _ => nn - (iOf i).toNat)
  case atStart => exact ⟨0, [], none, 0, 0, by omega, rfl, X3.out.1⟩
  case round =>
    obtain ⟨k, o, A1, n1, c1, hk, rfl, htwo⟩ := hrel
    have T := Lib.hid htwo
    clear htwo
    by_cases hlt : k < nn
    · obtain ⟨ad, rfl⟩ := H.out.2.1.addr (by omega)
      have hcell := (H.out.2.1.below T.out.bel).cell hlt
      have hb := H.out.2.2.getD k
      obtain ⟨b, hbe⟩ : ∃ b, b = zs.getD k 0 := ⟨_, rfl⟩
      rw [← hbe] at hcell hb
      clear hbe
      by_cases hbig : (400 : Int) < (k : Int)
      · have hB := Lib.hid hb
        clear hb
        go_wp2_with fail
        have TR := Lib.hid (T.out.below (below_drewN' (Below.refl _ _) 1))
        refine wp_region_held_drew (S := fun w' => Below w.heap.size w w' ∧ w'.heap[m]? = some (.cells #[.slice A1 n1 c1] 26 (0, 0))) (by kernel_rfl) ⟨T.out.bel.drew, T.out.blk⟩ (fun hHeld => ?_)
        refine wpAnyH_take (i := 0) (v := .pointer (some ⟨d, 0, none⟩)) rfl (by kernel_rfl) (by kernel_rfl) (by kernel_rfl) (fun _ _ _ h => h) (yieldsIf_moveU (by rfl) (.tmp 3) rfl _ rfl) hHeld ?_
        simp only [Act.put, List.getElem_toArray, List.getElem_cons_zero, List.setIfInBounds_toArray, List.set_cons_succ, List.set_cons_zero]
        refine wpAnyH_take (i := 2) (v := .agg #[.slice A1 n1 c1]) rfl (by kernel_rfl) (by kernel_rfl) (by kernel_rfl) (fun _ _ _ h => h) (yieldsIf_load_row (by rfl) 26 (.tmp 4) rfl m rfl #[.slice A1 n1 c1] _ (fun _ h => h.2) Tryd.underlying26 rfl infoD) hHeld ?_
        simp only [Act.put, List.getElem_toArray, List.getElem_cons_succ, List.getElem_cons_zero, List.setIfInBounds_toArray, List.set_cons_succ, List.set_cons_zero]
        refine wpAnyH_ready (rs := [1]) (by kernel_rfl) (by simp) (AllReadyH.cons rfl (fun K hK => ?_) AllReadyH.nil)
        rw [if_pos (by rfl)]
        go_simp
        refine (end_any' (w := wr.drew) (d := d) (o := o) (TR.out.dc)).mono ?_
        rintro e w4 ⟨A4, n4, c4, rfl, hk4, hd4, hg4⟩
        have hdm := X3.out.2
        have S4 : Below w.heap.size w w4 ∧ w4.heap[m]? = some (.cells #[.slice A1 n1 c1] 26 (0, 0)) := ⟨hHeld.1.grown hg4 hHeld.1.size (fun k hk => by cases hk; exact hdm.1), (hg4.block _ (Array.getElem?_eq_some_iff.1 hHeld.2).1 (fun e => by simp at e; omega)).trans hHeld.2⟩
        have V4 := Lib.hid (show Sb w4 A1 n1 o ∧ n1 ≤ 3 from ⟨TR.out.sb.grown hg4 (fun ad e h0 e2 => by have := T.out.far ad e h0; simp at e2; omega), by rw [← T.out.sb.len]; exact T.out.op.len⟩)
        have I4 := Lib.hid (And.intro hk4 hd4)
        refine hK.out _ _ S4 (fun hHeld => ?_)
        clear hK K hk4 hd4 hg4 hdm
        refine wpAnyH_ready (rs := [3]) (by kernel_rfl) (by simp) (AllReadyH.cons rfl (fun K hK => ?_) AllReadyH.nil)
        rw [if_pos (by rfl)]
        go_simp
        refine (refEnd_any (c := c1) V4.out.1 (by have := V4.out.2; omega)).mono ?_
        rintro e w5 ⟨A5, n5, c5, rfl, hk5, hb5⟩
        have S5 : Below w.heap.size w w5 ∧ w5.heap[m]? = some (.cells #[.slice A1 n1 c1] 26 (0, 0)) := ⟨S4.1.trans (hb5.mono S4.1.size), (hb5.block _ (Array.getElem?_eq_some_iff.1 S4.2).1).trans S4.2⟩
        have I5 := Lib.hid (show Ik .i32 w5 A4 n4 (endS o) ∧ Ik .i32 w5 A5 n5 (endS o) ∧ Dc w5 d [] ∧ n4 ≤ 1 ∧ n5 ≤ 1 from ⟨I4.out.1.below hb5, hk5, I4.out.2.below hb5, by rw [← I4.out.1.len]; exact endS_len o, by rw [← hk5.len]; exact endS_len o⟩)
        refine hK.out _ _ S5 (fun hHeld => ?_)
        clear hK K hk5 hb5 S4
        refine wpAnyH_ready (rs := [4]) (by kernel_rfl) (by simp) (AllReadyH.cons rfl (fun K hK => ?_) AllReadyH.nil)
        rw [if_pos (by rfl)]
        go_simp
        have HSM := utfSame_any (c := c4) (c' := c5) I5.out.1 I5.out.2.1 (by have := I5.out.2.2.2; omega) (by have := I5.out.2.2.2; omega)
        rw [decide_eq_true rfl] at HSM
        refine HSM.mono ?_
        rintro e w6 ⟨rfl, q, rfl⟩
        have S6 : Below w.heap.size w (w5.drewN q) ∧ (w5.drewN q).heap[m]? = some (.cells #[.slice A1 n1 c1] 26 (0, 0)) := ⟨below_drewN' S5.1 q, S5.2⟩
        refine hK.out _ _ S6 (fun hHeld => ?_)
        clear hK K HSM
        refine wpAnyH_take (i := 5) (v := .bool true) rfl (by kernel_rfl) (by kernel_rfl) (by kernel_rfl) (fun _ _ _ h => h) (yieldsIf_moveU (by rfl) (.tmp 42) rfl _ rfl) hHeld ?_
        simp only [Act.put, List.getElem_toArray, List.getElem_cons_succ, List.getElem_cons_zero, List.setIfInBounds_toArray, List.set_cons_succ, List.set_cons_zero]
        refine wpAnyH_take (i := 6) (v := .pointer (some ⟨d, 0, none⟩)) rfl (by kernel_rfl) (by kernel_rfl) (by kernel_rfl) (fun _ _ _ h => h) (yieldsIf_moveU (by rfl) (.tmp 3) rfl _ rfl) hHeld ?_
        simp only [Act.put, List.getElem_toArray, List.getElem_cons_succ, List.getElem_cons_zero, List.setIfInBounds_toArray, List.set_cons_succ, List.set_cons_zero]
        refine wpAnyH_ready (rs := [7]) (by kernel_rfl) (by simp) (AllReadyH.cons rfl (fun K hK => ?_) AllReadyH.nil)
        rw [if_pos (by rfl)]
        go_simp
        refine (end_any' (w := w5.drewN q) (d := d) (o := []) (I5.out.2.2.1.drewN q)).mono ?_
        rintro e w7 ⟨A7, n7, c7, rfl, hk7, _, hg7⟩
        have hdm := X3.out.2
        have S7 : Below w.heap.size w w7 ∧ w7.heap[m]? = some (.cells #[.slice A1 n1 c1] 26 (0, 0)) := ⟨S6.1.grown hg7 S6.1.size (fun k hk => by cases hk; exact hdm.1), (hg7.block _ (Array.getElem?_eq_some_iff.1 S6.2).1 (fun e => by simp at e; omega)).trans S6.2⟩
        obtain rfl : n7 = 0 := hk7.len.symm
        refine hK.out _ _ S7 (fun hHeld => ?_)
        clear hK K hk7 hg7 hdm S5 S6
        refine wpAnyH_ready (rs := [8]) (by kernel_rfl) (by simp) (AllReadyH.cons rfl (fun K hK => ?_) AllReadyH.nil)
        rw [if_pos (by rfl)]
        go_simp
        refine hK.out _ _ S7 (fun hHeld => ?_)
        clear hK K
        refine wpAnyH_ready (rs := [9]) (by kernel_rfl) (by simp) (AllReadyH.cons rfl (fun K hK => ?_) AllReadyH.nil)
        rw [if_pos (by rfl)]
        go_simp
        refine hK.out _ _ S7 (fun hHeld => ?_)
        clear hK K
        refine wpAnyH_ready (rs := [10]) (by kernel_rfl) (by simp) (AllReadyH.cons rfl (fun K hK => ?_) AllReadyH.nil)
        rw [if_pos (by rfl)]
        go_simp
        refine hK.out _ _ S7 (fun hHeld => ?_)
        clear hK K
        refine wpAnyH_ready (rs := [11]) (by kernel_rfl) (by simp) (AllReadyH.cons rfl (fun K hK => ?_) AllReadyH.nil)
        rw [if_pos (by rfl)]
        go_simp
        refine hK.out _ _ S7 (fun hHeld => ?_)
        clear hK K
        refine wpAnyH_done (by kernel_rfl) ?_ _
        have Z := Lib.hid S7.1
        clear S7 hHeld
        go_wp2_with fail
        go_ret
        exact ⟨rfl, Z.out⟩
      · have hcm : wr.cell? ⟨m, 0, none⟩ = some (.slice A1 n1 c1) := by rw [cell_of_row _ _ 0 _ _ _ T.out.blk]; rfl
        have hB := Lib.hid hb
        clear hb
        go_wp2_with fail
        refine (refFeed_any T.out.sb T.out.op T.out.u8 hB.out).mono ?_
        rintro e w4 ⟨A4, n4, c4, A5, n5, c5, rfl, hk4, hs5, hb4, hf4, hf5⟩
        have T4 := Lib.hid (T.out.below hb4)
        have hmlt := T.out.lt
        have hset := heap_setCell_same w4 m 0 _ _ (.slice A5 n5 c5) T4.out.blk
        have hc4 : w4.cell? ⟨m, 0, none⟩ = some (.slice A1 n1 c1) := by rw [cell_of_row _ _ 0 _ _ _ T4.out.blk]; rfl
        have hfz4 : w4.frozen? ⟨m, 0, none⟩ = false := frozen_of_row _ _ 0 _ _ T4.out.blk
        have hdm := X3.out.2
        have V := Lib.hid (show Ik .i32 (w4.setCell ⟨m, 0, none⟩ (.slice A5 n5 c5)) A4 n4 (feedS o b).1 ∧ Sb (w4.setCell ⟨m, 0, none⟩ (.slice A5 n5 c5)) A5 n5 (feedS o b).2 ∧
            (w4.setCell ⟨m, 0, none⟩ (.slice A5 n5 c5)).heap[m]? = some (.cells #[.slice A5 n5 c5] 26 (0, 0)) ∧ Dc (w4.setCell ⟨m, 0, none⟩ (.slice A5 n5 c5)) d o ∧ Below w.heap.size w (w4.setCell ⟨m, 0, none⟩ (.slice A5 n5 c5)) ∧
            (∀ ad, A4 = some ad → 0 < n4 → m < ad.block) ∧ (∀ ad, A5 = some ad → 0 < n5 → m < ad.block) ∧ n4 ≤ 2 from by
          refine ⟨hk4.grown (grownBy_set w4 ⟨m, 0, none⟩ _) (fun ad e h0 e2 => ?_), ikSb ((sbIk hs5).grown (grownBy_set w4 ⟨m, 0, none⟩ _) (fun ad e h0 e2 => ?_)), hset.trans rfl, ?_, T4.out.bel.setCell (p := ⟨m, 0, none⟩) (by simp; omega) _, fun ad e h0 => Nat.lt_of_lt_of_le hmlt (hf4 ad e h0), fun ad e h0 => Nat.lt_of_lt_of_le hmlt (hf5 ad e h0), by rw [← hk4.len]; exact feedS_len o b⟩
          · have := hf4 ad e h0; simp at e2; omega
          · have := hf5 ad e h0; simp at e2; omega
          · obtain ⟨s, h1, h2⟩ := T4.out.dc
            exact ⟨s, (heap_setCell_other w4 ⟨m, 0, none⟩ d _ (by simp; omega)).trans h1, h2⟩)
        clear hk4 hs5 hb4 hf4 hf5 hset hmlt hdm hcm
        go_wp2_with fail
        generalize w4.setCell ⟨m, 0, none⟩ (.slice A5 n5 c5) = w5 at V ⊢
        clear hc4 hfz4 T4
        refine (feed_any H.out.1 V.out.2.2.2.2.1 X3.out.2.1 V.out.2.2.2.1 T.out.op hB.out).mono ?_
        rintro e w6 ⟨A6, n6, c6, rfl, hk6, hd6, hg6, _⟩
        have hdm := X3.out.2
        have T6 := Lib.hid (show Two w w6 d m (feedS o b).2 A5 n5 c5 from
          ⟨feedS_op o b, feedS_u8 T.out.u8 hB.out, (hg6.block _ (Array.getElem?_eq_some_iff.1 V.out.2.2.1).1 (fun e => by simp at e; omega)).trans V.out.2.2.1,
            V.out.2.1.grown hg6 (fun ad e h0 e2 => by have := V.out.2.2.2.2.2.2.1 ad e h0; simp at e2; omega), V.out.2.2.2.2.2.2.1, hd6, V.out.2.2.2.2.1.grown hg6 V.out.2.2.2.2.1.size (fun k hk => by cases hk; exact hdm.1)⟩)
        have I6 := Lib.hid (show Ik .i32 w6 A6 n6 (feedS o b).1 ∧ Ik .i32 w6 A4 n4 (feedS o b).1 ∧ n4 ≤ 2 ∧ n6 ≤ 2 from
          ⟨hk6, V.out.1.grown hg6 (fun ad e h0 e2 => by have := V.out.2.2.2.2.2.1 ad e h0; simp at e2; omega), V.out.2.2.2.2.2.2.2, by rw [← hk6.len]; exact feedS_len o b⟩)
        clear hk6 hd6 hg6 hdm V
        go_wp2_with fail
        refine (utfSame_any (c := c6) (c' := c4) I6.out.1 I6.out.2.1 (by have := I6.out.2.2; omega) (by have := I6.out.2.2; omega)).mono ?_
        rintro e w7 ⟨rfl, q, rfl⟩
        rw [decide_eq_true rfl]
        have T7 := Lib.hid (T6.out.below (below_drewN' (Below.refl _ _) q))
        clear T6 I6
        go_wp2_with fail
        go_roundw
        case rel => exact ⟨k + 1, _, _, _, _, by omega, by go_num, T7.out⟩
        case measure => simp [iOf]; omega
    · go_wp2_with fail
      have TR := Lib.hid (T.out.below (below_drewN' (Below.refl _ _) 1))
      refine wp_region_held_drew (S := fun w' => Below w.heap.size w w' ∧ w'.heap[m]? = some (.cells #[.slice A1 n1 c1] 26 (0, 0))) (by kernel_rfl) ⟨T.out.bel.drew, T.out.blk⟩ (fun hHeld => ?_)
      refine wpAnyH_take (i := 0) (v := .pointer (some ⟨d, 0, none⟩)) rfl (by kernel_rfl) (by kernel_rfl) (by kernel_rfl) (fun _ _ _ h => h) (yieldsIf_moveU (by rfl) (.tmp 3) rfl _ rfl) hHeld ?_
      simp only [Act.put, List.getElem_toArray, List.getElem_cons_zero, List.setIfInBounds_toArray, List.set_cons_succ, List.set_cons_zero]
      refine wpAnyH_take (i := 2) (v := .agg #[.slice A1 n1 c1]) rfl (by kernel_rfl) (by kernel_rfl) (by kernel_rfl) (fun _ _ _ h => h) (yieldsIf_load_row (by rfl) 26 (.tmp 4) rfl m rfl #[.slice A1 n1 c1] _ (fun _ h => h.2) Tryd.underlying26 rfl infoD) hHeld ?_
      simp only [Act.put, List.getElem_toArray, List.getElem_cons_succ, List.getElem_cons_zero, List.setIfInBounds_toArray, List.set_cons_succ, List.set_cons_zero]
      refine wpAnyH_ready (rs := [1]) (by kernel_rfl) (by simp) (AllReadyH.cons rfl (fun K hK => ?_) AllReadyH.nil)
      rw [if_pos (by rfl)]
      go_simp
      refine (end_any' (w := wr.drew) (d := d) (o := o) (TR.out.dc)).mono ?_
      rintro e w4 ⟨A4, n4, c4, rfl, hk4, hd4, hg4⟩
      have hdm := X3.out.2
      have S4 : Below w.heap.size w w4 ∧ w4.heap[m]? = some (.cells #[.slice A1 n1 c1] 26 (0, 0)) := ⟨hHeld.1.grown hg4 hHeld.1.size (fun k hk => by cases hk; exact hdm.1), (hg4.block _ (Array.getElem?_eq_some_iff.1 hHeld.2).1 (fun e => by simp at e; omega)).trans hHeld.2⟩
      have V4 := Lib.hid (show Sb w4 A1 n1 o ∧ n1 ≤ 3 from ⟨TR.out.sb.grown hg4 (fun ad e h0 e2 => by have := T.out.far ad e h0; simp at e2; omega), by rw [← T.out.sb.len]; exact T.out.op.len⟩)
      have I4 := Lib.hid (And.intro hk4 hd4)
      refine hK.out _ _ S4 (fun hHeld => ?_)
      clear hK K hk4 hd4 hg4 hdm
      refine wpAnyH_ready (rs := [3]) (by kernel_rfl) (by simp) (AllReadyH.cons rfl (fun K hK => ?_) AllReadyH.nil)
      rw [if_pos (by rfl)]
      go_simp
      refine (refEnd_any (c := c1) V4.out.1 (by have := V4.out.2; omega)).mono ?_
      rintro e w5 ⟨A5, n5, c5, rfl, hk5, hb5⟩
      have S5 : Below w.heap.size w w5 ∧ w5.heap[m]? = some (.cells #[.slice A1 n1 c1] 26 (0, 0)) := ⟨S4.1.trans (hb5.mono S4.1.size), (hb5.block _ (Array.getElem?_eq_some_iff.1 S4.2).1).trans S4.2⟩
      have I5 := Lib.hid (show Ik .i32 w5 A4 n4 (endS o) ∧ Ik .i32 w5 A5 n5 (endS o) ∧ Dc w5 d [] ∧ n4 ≤ 1 ∧ n5 ≤ 1 from ⟨I4.out.1.below hb5, hk5, I4.out.2.below hb5, by rw [← I4.out.1.len]; exact endS_len o, by rw [← hk5.len]; exact endS_len o⟩)
      refine hK.out _ _ S5 (fun hHeld => ?_)
      clear hK K hk5 hb5 S4
      refine wpAnyH_ready (rs := [4]) (by kernel_rfl) (by simp) (AllReadyH.cons rfl (fun K hK => ?_) AllReadyH.nil)
      rw [if_pos (by rfl)]
      go_simp
      have HSM := utfSame_any (c := c4) (c' := c5) I5.out.1 I5.out.2.1 (by have := I5.out.2.2.2; omega) (by have := I5.out.2.2.2; omega)
      rw [decide_eq_true rfl] at HSM
      refine HSM.mono ?_
      rintro e w6 ⟨rfl, q, rfl⟩
      have S6 : Below w.heap.size w (w5.drewN q) ∧ (w5.drewN q).heap[m]? = some (.cells #[.slice A1 n1 c1] 26 (0, 0)) := ⟨below_drewN' S5.1 q, S5.2⟩
      refine hK.out _ _ S6 (fun hHeld => ?_)
      clear hK K HSM
      refine wpAnyH_take (i := 5) (v := .bool true) rfl (by kernel_rfl) (by kernel_rfl) (by kernel_rfl) (fun _ _ _ h => h) (yieldsIf_moveU (by rfl) (.tmp 42) rfl _ rfl) hHeld ?_
      simp only [Act.put, List.getElem_toArray, List.getElem_cons_succ, List.getElem_cons_zero, List.setIfInBounds_toArray, List.set_cons_succ, List.set_cons_zero]
      refine wpAnyH_take (i := 6) (v := .pointer (some ⟨d, 0, none⟩)) rfl (by kernel_rfl) (by kernel_rfl) (by kernel_rfl) (fun _ _ _ h => h) (yieldsIf_moveU (by rfl) (.tmp 3) rfl _ rfl) hHeld ?_
      simp only [Act.put, List.getElem_toArray, List.getElem_cons_succ, List.getElem_cons_zero, List.setIfInBounds_toArray, List.set_cons_succ, List.set_cons_zero]
      refine wpAnyH_ready (rs := [7]) (by kernel_rfl) (by simp) (AllReadyH.cons rfl (fun K hK => ?_) AllReadyH.nil)
      rw [if_pos (by rfl)]
      go_simp
      refine (end_any' (w := w5.drewN q) (d := d) (o := []) (I5.out.2.2.1.drewN q)).mono ?_
      rintro e w7 ⟨A7, n7, c7, rfl, hk7, _, hg7⟩
      have hdm := X3.out.2
      have S7 : Below w.heap.size w w7 ∧ w7.heap[m]? = some (.cells #[.slice A1 n1 c1] 26 (0, 0)) := ⟨S6.1.grown hg7 S6.1.size (fun k hk => by cases hk; exact hdm.1), (hg7.block _ (Array.getElem?_eq_some_iff.1 S6.2).1 (fun e => by simp at e; omega)).trans S6.2⟩
      obtain rfl : n7 = 0 := hk7.len.symm
      refine hK.out _ _ S7 (fun hHeld => ?_)
      clear hK K hk7 hg7 hdm S5 S6
      refine wpAnyH_ready (rs := [8]) (by kernel_rfl) (by simp) (AllReadyH.cons rfl (fun K hK => ?_) AllReadyH.nil)
      rw [if_pos (by rfl)]
      go_simp
      refine hK.out _ _ S7 (fun hHeld => ?_)
      clear hK K
      refine wpAnyH_ready (rs := [9]) (by kernel_rfl) (by simp) (AllReadyH.cons rfl (fun K hK => ?_) AllReadyH.nil)
      rw [if_pos (by rfl)]
      go_simp
      refine hK.out _ _ S7 (fun hHeld => ?_)
      clear hK K
      refine wpAnyH_ready (rs := [10]) (by kernel_rfl) (by simp) (AllReadyH.cons rfl (fun K hK => ?_) AllReadyH.nil)
      rw [if_pos (by rfl)]
      go_simp
      refine hK.out _ _ S7 (fun hHeld => ?_)
      clear hK K
      refine wpAnyH_ready (rs := [11]) (by kernel_rfl) (by simp) (AllReadyH.cons rfl (fun K hK => ?_) AllReadyH.nil)
      rw [if_pos (by rfl)]
      go_simp
      refine hK.out _ _ S7 (fun hHeld => ?_)
      clear hK K
      refine wpAnyH_done (by kernel_rfl) ?_ _
      have Z := Lib.hid S7.1
      clear S7 hHeld
      go_wp2_with fail
      go_ret
      exact ⟨rfl, Z.out⟩

set_option maxRecDepth 100000 in
theorem lifted (os : Os) (started : os.Started) (H : Type) (enc : TypeId × Value → H) :
    ReturnsInHanded {} Tryd.checked os 3 .any (fun w args => (Rows.utfFeedsSpec.pre enc Tryd.prog Tryd.f3 [] false w args ∧ laidMetH Tryd.prog laidL w) ∧ sizedMet enc Tryd.prog Tryd.f3 (OpenSpec.ofChange Rows.utfFeedsSpec) false w args)
      (Rows.utfFeedsSpec.post enc Tryd.prog Tryd.f3 false true false false) := by
  refine returnsInHanded_of_change_and (C := Tryd.checked) (X := fun w _ => laidMetH Tryd.prog laidL w) (fun _ _ _ hh h => h.of_heap hh) own started (by kernel_rfl) Tryd.func3
    (ChangeSpec.witness_shaped (enc := enc) (C := Tryd.checked) (os := os) (X := fun w _ => laidMetH Tryd.prog laidL w) false (World.laidAll Tryd.prog os laidL) #[.slice none 0 0] 8 (World.laidAll_os _ _ _) (start_shaped os) (by kernel_rfl) (by kernel_rfl) (by kernel_rfl) (start_met os _)) ?_
  intro W base args ds gs before hval0 hW _ hsz0 hL _
  have hsz : (DataW.weightsEach Tryd.prog (Tryd.f3.params.toList ++ Rows.utfFeedsSpec.plain.varTypes Tryd.prog) (ds ++ gs)).all (· ≤ reachBytes) = true := hsz0
  clear hsz0
  have hval : ∀ (j : Nat) t v, Tryd.f3.params[j]? = some t → args[j]? = some v → Value.okWide Tryd.prog W .any base t v := hval0
  have hW' := hW
  obtain ⟨p, q, hA0, hV, rfl, _, _⟩ := hW
  have hA : DataW.TrodAll enc Tryd.prog W 0 (fun _ => true) true Tryd.f3.params.toList args.toList ds p := hA0
  rw [Tryd.params3] at hA hval hsz
  obtain ⟨v0, vs0, d0, ds0, p0, q0, hargs, rfl, rfl, h0, r0⟩ := trodAll_cons hA
  obtain ⟨rfl, rfl, rfl⟩ := trodAll_nil r0
  obtain rfl : args = #[v0] := by cases args; simp_all
  obtain ⟨rfl, rfl⟩ := trodVars_none hV
  have lt0 : ∀ x ∈ p0, x.block < W.heap.size := by obtain ⟨m, hm⟩ := h0; exact DataW.trod_lt m _ _ _ hm
  obtain ⟨A0, n0, c0, z0, rfl, s0, u0, g0⟩ := open_bytes (hval 0 22 v0 rfl rfl) h0
  have m0 := g0 _ _ 0 hsz rfl rfl
  clear hA0 hval0
  refine (walk W (tabs_of_laid hL) s0 u0 m0).mono fun e W' ⟨he, bel⟩ => ?_
  subst he
  exact ⟨_, rfl, _, _, _, [], _, [], hW', trodAll_mk1 (shut_bool Tryd.underlying4 _), (trodAll_cons_mk (Below.trod laidOut (by kernel_rfl) (of_decide_eq_true (by kernel_rfl)) h0 bel lt0) trodAll_mk0), rfl, bel.frame _, fun h => by cases h⟩

theorem over : Rows.utfFeedsRow.holds Tryd.pinned (OpenSpec.ofChange Rows.utfFeedsSpec) :=
  OpenClaim.holds_of_wide 3 Tryd.f3 rfl rfl rfl rfl rfl rfl rfl ⟨rfl, rfl, rfl, rfl, rfl⟩ rfl rfl rfl rfl rfl (by kernel_rfl) Tryd.func3 (by kernel_rfl)
    (of_decide_eq_true (by kernel_rfl)) (by unfold Func.isWrapper; first | (rw [if_pos (by decide +kernel)]; kernel_rfl) | (rw [if_neg (by decide +kernel)]; exact ⟨rfl, rfl⟩))
    (fun os started H enc _ => lifted os started H enc)

theorem proved : Rows.UtfFeedsCardSaid :=
  Claim7.holds_tied_plain_at .later [] [.data, .data, .pinned] true Rows.utfFeedsCard.stood.harness false
    over (fun _ h => by cases h) (by kernel_rfl) (fun _ h => by cases h) utfFeeds_row_tie rfl ⟨rfl, rfl⟩ (by kernel_rfl) rfl
    (fun f fn hf hfn => by
      obtain rfl : f = 3 := Option.some.inj ((show Tryd.prog.funcNamed "spyglass/spyglasslaw07.UtfFeeds" = some 3 by kernel_rfl).symm.trans hf) |>.symm
      obtain rfl : fn = Tryd.f3 := (Option.some.inj (Tryd.func3.symm.trans hfn)).symm
      exact ⟨by kernel_rfl, fun j t ht => by
        rw [Tryd.params3] at ht
        have hm : t ∈ [22] := by simpa using Array.mem_of_getElem? ht
        have hall : ([22].all fun u => !Tryd.prog.wantsStandIn u) = true := by kernel_rfl
        exact (show Tryd.prog.wantsStandIn t = false by simpa using List.all_eq_true.1 hall t hm)⟩)
    (by kernel_rfl)
end Go.Proofs.YtpikbekcdbfdhaaDoor.utfFeeds
