/-
  cell.cellsOf: the cells of a letter.
-/
import Derived.Test.YtflnocgahdlojaaDoorCellCut
import Derived.Deep.RegionHeld3
namespace Go.Proofs.YtflnocgahdlojaaDoor
open Go.RowKit

/-- A slice of new memory with the cells of a letter. -/
def LetPost (L : List Ce) (w : World) (e : Ending) (w' : World) : Prop := Below w.heap.size w w' ∧ ∃ A c, e = .returned (.slice A L.length c) ∧ L.length ≤ c ∧ c ≤ maxLen ∧ Vs ceV w' A L.length L ∧ ∀ ad, A = some ad → w.heap.size ≤ ad.block
theorem one_vs (w : World) (c : Ce) (t : TypeId) : Vs ceV (w.alloc (.cells (ceA c) t)) (some ⟨w.heap.size, 0, none⟩) 1 [c] := by
  have h := (made_rw (f := ceV) w t [c]).vs
  have e : rowV ceV [c] = (ceA c).toList := by simp [rowV, ceV, ceA]
  rw [e] at h
  simpa using h
theorem cellsOf_any {w : World} (r : Int) (p : Pn) (hT : Tabs w) : Calls Tryd.prog 66 #[.int .i32 r, .agg (pnA p)] w (LetPost (lettS r p) w) := by
  have H := Lib.hid (show Tabs (w.alloc (.cells (pnA p) 29)) ∧ Pen4 (w.alloc (.cells (pnA p) 29)) w.heap.size p from ⟨hT.below ((Below.refl _ _).alloc (Nat.le_refl _) _) (Nat.le_refl _), pen4_new w p _⟩)
  clear hT
  go_enter Tryd.func66, Tryd.ntmps66
  unfold pnA
  go_wp2_with fail
  refine (width_any r H.out.1).mono ?_
  rintro e w1 ⟨rfl, hb⟩
  obtain ⟨c0, c1, c2, c3, _⟩ := H.out.2.below hb
  have X := Lib.hid (show Below w.heap.size w w1 from ((Below.refl _ _).alloc (Nat.le_refl _) _).trans (hb.mono (by simp)))
  clear hb
  by_cases h1 : widthS r = 1
  · have HP := Lib.hid (show LetPost (lettS r p) w (.returned (.slice (some ⟨w1.heap.size, 0, none⟩) 1 1)) (w1.alloc (.cells (ceA ⟨r, 0, p⟩) 41)) from by rw [lett_one h1]; exact ⟨X.out.alloc X.out.size _, _, 1, rfl, Nat.le_refl _, by unfold maxLen; omega, one_vs w1 ⟨r, 0, p⟩ _, fun ad e => by cases e; exact X.out.size⟩)
    rw [h1]
    clear h1
    go_wp2_with fail
    go_ret
    exact HP.out
  · have t1 : decide (widthS r = 1) = false := by simpa using h1
    by_cases h2 : widthS r = 2
    · have HL := Lib.hid (lett_two (p := p) h2)
      rw [h2]
      clear h1 h2 t1
      go_upto_region 6 with fail
      obtain ⟨w2, hw2⟩ : ∃ w2, w2 = w1.alloc (.cells (ceA ⟨r, 1, p⟩) 41) := ⟨_, rfl⟩
      have X2 := Lib.hid (show Below w.heap.size w w2 ∧ Six w2 ⟨w1.heap.size, 0, none⟩ ⟨r, 1, p⟩ ∧ w1.heap.size < w2.heap.size from by rw [hw2]; exact ⟨X.out.alloc X.out.size _, six_new w1 _ _, by simp⟩)
      unfold ceA at hw2
      dsimp only at hw2
      rw [← hw2]
      obtain ⟨b, hb⟩ : ∃ b, b = w1.heap.size := ⟨_, rfl⟩
      rw [← hb] at X2 ⊢
      clear hw2 hb c0 c1 c2 c3 X H
      have SX := Lib.hid (show ∀ w', Below w2.heap.size w2 w' → (Below w2.heap.size w2 w' ∧ (w'.cell? ⟨b, 0, none⟩ = some (.int .i32 r) ∧ w'.cell? ⟨b, 1, none⟩ = some (.int .u8 1) ∧ w'.cell? ⟨b, 2, none⟩ = some (.int .u32 p.fg) ∧ w'.cell? ⟨b, 3, none⟩ = some (.int .u32 p.bg) ∧ w'.cell? ⟨b, 4, none⟩ = some (.int .u8 p.st) ∧ w'.cell? ⟨b, 5, none⟩ = some (.int .u16 p.lk))) from fun w' hb => ⟨hb, (X2.out.2.1.below hb X2.out.2.2).blk⟩)
      have hcall := fun w => rightOf_any ⟨r, 1, p⟩ w
      unfold ceA at hcall
      have HC := Lib.hid hcall
      clear hcall
      have hb0 : Below w2.heap.size w2 w2 := Below.refl _ _
      go_region_held3 (fun w' => Below w2.heap.size w2 w' ∧ (w'.cell? ⟨b, 0, none⟩ = some (.int .i32 r) ∧ w'.cell? ⟨b, 1, none⟩ = some (.int .u8 1) ∧ w'.cell? ⟨b, 2, none⟩ = some (.int .u32 p.fg) ∧ w'.cell? ⟨b, 3, none⟩ = some (.int .u32 p.bg) ∧ w'.cell? ⟨b, 4, none⟩ = some (.int .u8 p.st) ∧ w'.cell? ⟨b, 5, none⟩ = some (.int .u16 p.lk)))
        ((refine SX.out _ ?_; (try go_split_ands); first | assumption | exact belowN (by assumption) 1 | exact Below.alloc (by assumption) (Below.size (by assumption)) _))
        ((first | (go_at_call 56; refine (HC.out _).mono ?_; rintro e w4 ⟨rfl, hb4⟩; (try go_split_ands); have hb5 := Below.trans (B := w2.heap.size) (by assumption) (hb4.mono (below_sz (a := w2) (B := w2.heap.size) (by assumption))))))
      have HP := Lib.hid (show LetPost (lettS r p) w (.returned (.slice (some ⟨w4.heap.size, 0, none⟩) 2 2)) (w4.alloc (.cells (rowV ceV [⟨r, 1, p⟩, rightS ⟨r, 1, p⟩]).toArray 41)) from by
        rw [HL.out]
        exact ⟨(X2.out.1.trans (hb5.mono X2.out.1.size)).alloc (X2.out.1.trans (hb5.mono X2.out.1.size)).size _, _, 2, rfl, Nat.le_refl _, by unfold maxLen; omega, (made_rw w4 _ _).vs, fun ad e => by cases e; exact (X2.out.1.trans (hb5.mono X2.out.1.size)).size⟩)
      go_wp2_with fail
      go_ret
      exact HP.out
    · have t2 : decide (widthS r = 2) = false := by simpa using h2
      have HP := Lib.hid (show LetPost (lettS r p) w (.returned (.slice none 0 0)) w1 from by rw [lett_none h1 h2]; exact ⟨X.out, none, 0, rfl, Nat.le_refl _, by unfold maxLen; omega, Vs.nil _ _, fun ad e => by cases e⟩)
      generalize widthS r = V at h1 h2 t1 t2 ⊢
      go_wp2_with fail
      go_ret
      exact HP.out
end Go.Proofs.YtflnocgahdlojaaDoor
