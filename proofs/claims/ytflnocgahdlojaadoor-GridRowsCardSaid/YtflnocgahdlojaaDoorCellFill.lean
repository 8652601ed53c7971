/-
  cell.fill: blanks of a pen.
-/
import Derived.Test.YtflnocgahdlojaaDoorCellCut
namespace Go.Proofs.YtflnocgahdlojaaDoor
open Go.RowKit

theorem over_next {L : List Ce} {o i m : Nat} {b : Ce} (h : o + m ≤ L.length) (hi : i < m) : (overS L o (List.replicate i b)).set (o + i) b = overS L o (List.replicate (i + 1) b) := by
  have h1 : o + (List.replicate i b).length ≤ L.length := by rw [List.length_replicate]; omega
  have h2 : o + (List.replicate (i + 1) b).length ≤ L.length := by rw [List.length_replicate]; omega
  refine row_ext (by rw [List.length_set, overS_length h1, overS_length h2]) fun j hj => ?_
  rw [List.length_set, overS_length h1] at hj
  rw [cAt_set, overS_length h1, cAt_overS h1, cAt_overS h2, List.length_replicate, List.length_replicate, cAt_replicate, cAt_replicate]
  by_cases e : j = o + i
  · subst e
    rw [if_pos ⟨rfl, hj⟩, if_pos (by omega), if_pos (by omega)]
  · rw [if_neg (fun e2 => e e2.1)]
    by_cases e2 : o ≤ j ∧ j < o + i
    · rw [if_pos e2, if_pos (by omega), if_pos (by omega), if_pos (by omega)]
    · rw [if_neg e2, if_neg (by omega)]
theorem over_none (L : List Ce) (o : Nat) (b : Ce) : overS L o (List.replicate 0 b) = L := by simp [overS]

/-- What fill leaves. -/
def FillPost (L : List Ce) (o m g : Nat) (p : Pn) (w : World) (e : Ending) (w' : World) : Prop := e = .returned (.tuple #[]) ∧ Rw ceV 41 w' g (overS L o (List.replicate m (blankS p))) ∧ w.grownBy w' (some g)
set_option maxHeartbeats 800000 in
theorem fill_any {w : World} {g o off m c : Nat} {L : List Ce} (p : Pn) (h : Rw ceV 41 w g L) (hl : o + m ≤ L.length) (hn : m ≤ 1000000) (ho : off = o * 6) :
    Calls Tryd.prog 65 #[.slice (some ⟨g, off, none⟩) m c, .agg (pnA p)] w (FillPost L o m g p w) := by
  obtain ⟨w0, hw0⟩ : ∃ w0, w0 = w.alloc (.cells (pnA p) 29) := ⟨_, rfl⟩
  have H := Lib.hid (show Pen4 w0 w.heap.size p ∧ Rw ceV 41 w0 g L ∧ w.grownBy w0 (some g) ∧ g ≠ w.heap.size ∧ o + m ≤ L.length ∧ off = o * 6 from by
    have hlt := h.lt
    rw [hw0]
    exact ⟨pen4_new w p _, h.below ((Below.refl _ _).alloc (Nat.le_refl _) _), World.grownBy_alloc w _ _, by omega, hl, ho⟩)
  unfold pnA at hw0
  clear h hl ho
  go_enter Tryd.func65, Tryd.ntmps65
  unfold pnA
  go_wp2_with fail
  rw [← hw0]
  go_loopw [7] (fun i wr => ∃ k : Nat, k ≤ m ∧ i = .int .i64 k ∧ Rw ceV 41 wr g (overS L o (List.replicate k (blankS p))) ∧ w0.grownBy wr (some g)) (fun i _ => m - (intOf i).toNat)
  case atStart => exact ⟨0, Nat.zero_le _, rfl, by rw [over_none]; exact H.out.2.1, World.grownBy.refl _ _⟩
  case round =>
    obtain ⟨k, hk, rfl, hR, hg⟩ := hrel
    have X := Lib.hid (And.intro hR hg)
    clear hR hg
    by_cases hlt : k < m
    · have hkl : (k : Int) < (m : Int) := by omega
      obtain ⟨c0, c1, c2, c3, _⟩ := H.out.1.grown X.out.2 (by have := H.out.2.2.2.1; simp; exact this)
      go_wp2_with fail
      refine (blank_any p wr).mono ?_
      rintro e w1 ⟨rfl, hb⟩
      have hR := X.out.1.below hb
      have Y := Lib.hid (show w0.grownBy w1 (some g) from X.out.2.trans (grownBy_below hb))
      clear hb c0 c1 c2 c3
      go_wp2_with (refine wpList_store_V rfl 41 (.tmp 14) (.tmp 13) rfl ceV_len one_ce infoCe g _ (o + k) (blankS p) _ rfl (by have := H.out.2.2.2.2.2; omega) rfl rfl 41 _ hR (by rw [overS_length (by rw [List.length_replicate]; have := H.out.2.2.2.2.1; omega)]; have := H.out.2.2.2.2.1; omega) ?_; intro w2 hR2 hg2; rw [over_next H.out.2.2.2.2.1 hlt] at hR2)
      have Y2 := Lib.hid (And.intro hR2 (Y.out.trans hg2))
      clear hR hR2 hg2 Y X
      go_wp2_with fail
      go_roundw
      case rel => exact ⟨k + 1, by omega, by go_num, Y2.out⟩
      case measure => simp [intOf]; omega
    · obtain rfl : k = m := by omega
      go_wp2_with fail
      go_end0
      exact ⟨rfl, X.out.1, H.out.2.2.1.trans X.out.2⟩
end Go.Proofs.YtflnocgahdlojaaDoor
