/-
  The reference's Same and Copy of grids.
-/
import Derived.Test.YtflnocgahdlojaaDoorGridBase
import Derived.Test.YtflnocgahdlojaaDoorGridMove
namespace Go.Proofs.YtflnocgahdlojaaDoor
open Go.RowKit

/-- The blocks of two grids, just made. -/
theorem two_new (w : World) (c r : Int) (A : Option Addr) (n k : Nat) (c' r' : Int) (A' : Option Addr) (n' k' : Nat) :
    G3 ((w.alloc (.cells (gV c r A n k) 24)).alloc (.cells (gV c' r' A' n' k') 24)) w.heap.size c r A n k ∧
    G3 ((w.alloc (.cells (gV c r A n k) 24)).alloc (.cells (gV c' r' A' n' k') 24)) (w.heap.size + 1) c' r' A' n' k' ∧
    Below w.heap.size w ((w.alloc (.cells (gV c r A n k) 24)).alloc (.cells (gV c' r' A' n' k') 24)) := by
  have h2 := g3_new (w.alloc (.cells (gV c r A n k) 24)) c' r' A' n' k' 24
  rw [alloc_size] at h2
  exact ⟨(g3_new w c r A n k 24).below (below1 _ _), h2, (below1 w _).alloc (below1 w _).size _⟩

set_option maxHeartbeats 1600000 in
theorem sameG_any {w : World} {A A' : Option Addr} {n n' k k' : Nat} {c r c' r' : Int} {L L' : List Ce} (h : Vs ceV w A n L) (h' : Vs ceV w A' n' L') (hn : n ≤ 1000000) (hn' : n' ≤ 9223372036854775807) {B : Bool} (hB : decide (c = c' ∧ r = r' ∧ L = L') = B) :
    Calls Tryd.prog 14 #[.agg (gV c r A n k), .agg (gV c' r' A' n' k')] w fun e w' => e = .returned (.bool B) ∧ Below w.heap.size w w' := by
  obtain ⟨w0, hw0⟩ : ∃ w0, w0 = (w.alloc (.cells (gV c r A n k) 24)).alloc (.cells (gV c' r' A' n' k') 24) := ⟨_, rfl⟩
  obtain ⟨b, hbe⟩ : ∃ b, b = w.heap.size := ⟨_, rfl⟩
  have H := Lib.hid (show G3 w0 b c r A n k ∧ G3 w0 (b + 1) c' r' A' n' k' ∧ Below w.heap.size w w0 ∧ Vs ceV w0 A n L ∧ Vs ceV w0 A' n' L' from by
    obtain ⟨h1, h2, h3⟩ := two_new w c r A n k c' r' A' n' k'
    rw [hw0, hbe]
    exact ⟨h1, h2, h3, h.below h3, h'.below h3⟩)
  clear h h'
  obtain ⟨c0, c1, c2, _⟩ := H.out.1
  obtain ⟨d0, d1, d2, _⟩ := H.out.2.1
  unfold gV at hw0
  by_cases e1 : c = c'
  · subst e1
    by_cases e2 : r = r'
    · subst e2
      obtain ⟨B2, hB2⟩ : ∃ B2, decide (L = L') = B2 := ⟨_, rfl⟩
      have HB := Lib.hid (show B2 = B from by rw [← hB, ← hB2]; simp)
      have HB2 := Lib.hid hB2
      clear hB hB2
      go_enter Tryd.func14, Tryd.ntmps14
      unfold gV
      go_upto_region 1 with fail
      rw [← hw0, ← hbe]
      clear hw0 hbe
      go_wp2_with fail
      refine (sameC_any H.out.2.2.2.1 H.out.2.2.2.2 hn hn').mono ?_
      rintro e w1 ⟨rfl, q, rfl⟩
      rw [HB2.out]
      clear c0 c1 c2 d0 d1 d2
      go_wp2_with fail
      go_ret
      exact ⟨by rw [HB.out]; rfl, belowN H.out.2.2.1 q⟩
    · have HB := Lib.hid (show B = false from by rw [← hB]; simp [e2])
      have e3 : (r == r') = false := by simpa using e2
      clear hB
      go_enter Tryd.func14, Tryd.ntmps14
      unfold gV
      go_upto_region 1 with fail
      rw [← hw0, ← hbe]
      clear hw0 hbe
      go_wp2_with fail
      go_ret
      exact ⟨by rw [HB.out]; rfl, H.out.2.2.1⟩
  · have HB := Lib.hid (show B = false from by rw [← hB]; simp [e1])
    have e3 : (c == c') = false := by simpa using e1
    clear hB
    go_enter Tryd.func14, Tryd.ntmps14
    unfold gV
    go_upto_region 1 with fail
    rw [← hw0, ← hbe]
    clear hw0 hbe
    go_wp2_with fail
    go_ret
    exact ⟨by rw [HB.out]; rfl, H.out.2.2.1⟩

set_option maxHeartbeats 1600000 in
theorem copyG_any {w : World} {A : Option Addr} {n k : Nat} {c r : Int} {L : List Ce} (h : Vs ceV w A n L) (hn : n ≤ 1000000) :
    Calls Tryd.prog 10 #[.agg (gV c r A n k)] w (MadeG c r L w) := by
  obtain ⟨w0, hw0⟩ : ∃ w0, w0 = (w.alloc (.cells (gV c r A n k) 24)).alloc (.cells (gV 0 0 none 0 0) 24) := ⟨_, rfl⟩
  obtain ⟨b, hbe⟩ : ∃ b, b = w.heap.size := ⟨_, rfl⟩
  have H := Lib.hid (show Gb w0 b ⟨c, r, A, n, k⟩ ∧ Gb w0 (b + 1) gr0 ∧ Below w.heap.size w w0 ∧ Vs ceV w0 A n L ∧ b = w.heap.size from by
    have h3 := gb_new (w.alloc (.cells (gV c r A n k) 24)) gr0
    rw [alloc_size] at h3
    have b3 := (below1 w (.cells (gV c r A n k) 24)).alloc (below1 w _).size (.cells (gV 0 0 none 0 0) 24)
    rw [hw0, hbe]
    exact ⟨(gb_new w ⟨c, r, A, n, k⟩).below (below1 _ _), h3, b3, h.below b3, rfl⟩)
  have HL := Lib.hid h.len
  clear h
  obtain ⟨c0, c1, c2, _⟩ := H.out.1.g3
  unfold gV at hw0
  go_enter Tryd.func10, Tryd.ntmps10
  unfold gV
  go_upto_region 1 with fail
  rw [← hw0, ← hbe]
  clear hw0 hbe
  go_wp2_with fail
  refine (copyC_any H.out.2.2.2.1 hn).mono ?_
  rintro e w1 ⟨hb, g, k2, rfl, hg, hk1, hk2, hR⟩
  rw [HL.out] at hk1 ⊢
  have X := Lib.hid (show Gb w1 b ⟨c, r, A, n, k⟩ ∧ Gb w1 (b + 1) gr0 ∧ Below w.heap.size w w1 ∧ Rw ceV 41 w1 g L ∧ w0.heap.size ≤ g from ⟨H.out.1.below hb, H.out.2.1.below hb, H.out.2.2.1.trans (hb.mono H.out.2.2.1.size), hR, hg⟩)
  clear hb hg hR c0 c1 c2
  obtain ⟨c0, c1, c2, _⟩ := X.out.1.g3
  have f2 := X.out.1.rw.free 2
  have hlt := H.out.2.1.lt
  have HS := Lib.hid (show Gb (w1.setCell ⟨b, 2, none⟩ (.slice (some ⟨g, 0, none⟩) n k2)) b ⟨c, r, some ⟨g, 0, none⟩, n, k2⟩ ∧ Gb (w1.setCell ⟨b, 2, none⟩ (.slice (some ⟨g, 0, none⟩) n k2)) (b + 1) gr0 ∧ Below w.heap.size w (w1.setCell ⟨b, 2, none⟩ (.slice (some ⟨g, 0, none⟩) n k2)) ∧ Rw ceV 41 (w1.setCell ⟨b, 2, none⟩ (.slice (some ⟨g, 0, none⟩) n k2)) g L from by
    have hg2 : w1.grownBy (w1.setCell ⟨b, 2, none⟩ (.slice (some ⟨g, 0, none⟩) n k2)) (some b) := ⟨rfl, rfl, rfl, by simp [World.setCell], fun i _ hne => heap_setCell_other w1 _ i _ (fun e => hne (by rw [e]))⟩
    have h7 := X.out.2.2.2.2
    exact ⟨(heap_setCell_same w1 _ _ _ _ _ X.out.1).trans rfl, X.out.2.1.grown hg2 (by simp), X.out.2.2.1.grown hg2 X.out.2.2.1.size (by intro k hk; injection hk with hk; have := H.out.2.2.2.2; omega), X.out.2.2.2.1.grown hg2 (by simp; omega)⟩)
  go_upto_region 2 with fail
  generalize w1.setCell ⟨b, 2, none⟩ (.slice (some ⟨g, 0, none⟩) n k2) = w2 at HS ⊢
  clear c0 c1 c2 f2
  obtain ⟨c0, c1, c2, _⟩ := HS.out.1.g3
  go_wp2_with (refine wpList_store_G rfl (.tmp 2) (.tmp 7) rfl (b + 1) gr0 ⟨c, r, some ⟨g, 0, none⟩, n, k2⟩ rfl rfl HS.out.2.1 ?_; intro w5 hG5 hg5)
  refine bodyPost_ret (retG Tryd.results10 hG5 rfl) rfl ?_
  exact ⟨HS.out.2.2.1.grown hg5 HS.out.2.2.1.size (by intro k hk; injection hk with hk; have := H.out.2.2.2.2; omega), g, k2, by rw [HL.out], by have := X.out.2.2.2.2; have := H.out.2.2.1.size; omega, by rw [HL.out]; exact hk1, hk2, HS.out.2.2.2.grown hg5 (by have := X.out.2.2.2.2; simp; omega)⟩
end Go.Proofs.YtflnocgahdlojaaDoor
