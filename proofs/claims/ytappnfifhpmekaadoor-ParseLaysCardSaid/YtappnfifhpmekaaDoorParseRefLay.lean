/-
  The reference's Lay: all kinds.
-/
import Derived.Test.YtappnfifhpmekaaDoorParseLayA
import Derived.Test.YtappnfifhpmekaaDoorParseLayB
import Derived.Test.YtappnfifhpmekaaDoorParseLayC
import Derived.Test.YtappnfifhpmekaaDoorParseLayD
import Derived.Test.YtappnfifhpmekaaDoorParseLayE
namespace Go.Proofs.YtappnfifhpmekaaDoor
open Go.RowKit

set_option maxRecDepth 100000 in
set_option maxHeartbeats 8000000 in
theorem refLay_else {w : World} {k r m f : Int} {ps tx : List Int} {P T : Option Addr} {np cp nt ct : Nat} (hk : k ≠ 1 ∧ k ≠ 2 ∧ k ≠ 3 ∧ k ≠ 4 ∧ k ≠ 5) (h : RdA w ⟨⟨k, r, m, f, ps, tx⟩, P, np, cp, T, nt, ct⟩) (ha : AcW ⟨k, r, m, f, ps, tx⟩) :
    Calls Tryd.prog 10 #[.agg #[.int .i64 k, .int .i32 r, .int .u8 m, .int .u8 f, .slice P np cp, .slice T nt ct]] w (LyPost ⟨k, r, m, f, ps, tx⟩ w) := by
  have hpn : np ≤ 9223372036854775807 := by have := h.lp; have := h.mp; unfold maxLen at this; simp only at *; omega
  have htn : nt ≤ 9223372036854775807 := by have := h.lt; have := h.mt; unfold maxLen at this; simp only at *; omega
  have HN := Lib.hid (And.intro h.p.len h.t.len)
  obtain ⟨b, hb⟩ : ∃ b, b = w.heap.size := ⟨_, rfl⟩
  have HB := Lib.hid hb
  have H0 : Hid (Ly w b ⟨⟨k, r, m, f, ps, tx⟩, P, np, cp, T, nt, ct⟩ (((w.alloc (.cells #[.int .i64 k, .int .i32 r, .int .u8 m, .int .u8 f, .slice P np cp, .slice T nt ct] 25)).alloc (.cells #[.int .i64 k, .int .i32 r, .int .u8 m, .int .u8 f, .slice none 0 0, .slice none 0 0] 25)).alloc (.cells #[] 5))) := Lib.hid (by
    have h1 := Bx.new w ⟨⟨k, r, m, f, ps, tx⟩, P, np, cp, T, nt, ct⟩
    have h2 := Bx.new (w.alloc (.cells #[.int .i64 k, .int .i32 r, .int .u8 m, .int .u8 f, .slice P np cp, .slice T nt ct] 25)) ⟨⟨k, r, m, f, ps, tx⟩, none, 0, 0, none, 0, 0⟩
    rw [World.size_alloc] at h2
    have hl : Below w.heap.size w (((w.alloc (.cells #[.int .i64 k, .int .i32 r, .int .u8 m, .int .u8 f, .slice P np cp, .slice T nt ct] 25)).alloc (.cells #[.int .i64 k, .int .i32 r, .int .u8 m, .int .u8 f, .slice none 0 0, .slice none 0 0] 25)).alloc (.cells #[] 5)) := ((((Below.refl _ _).alloc (Nat.le_refl _) _).alloc (by simp) _).alloc (by simp; omega) _)
    rw [hb]
    exact ⟨(h1.below ((Below.refl _ _).alloc (Nat.le_refl _) _)).below ((Below.refl _ _).alloc (Nat.le_refl _) _), h2.below ((Below.refl _ _).alloc (Nat.le_refl _) _), hl, rfl, h⟩)
  have hm0 := ha.m0
  have hm1 := ha.m1
  have hf0 := ha.f0
  have hf1 := ha.f1
  simp only at hm0 hm1 hf0 hf1
  have HA := Lib.hid ha
  clear h hb ha
  go_enter Tryd.func10, Tryd.ntmps10
  go_upto_region 6 with fail
  rw [← HB.out]
  generalize (((w.alloc (.cells #[.int .i64 k, .int .i32 r, .int .u8 m, .int .u8 f, .slice P np cp, .slice T nt ct] 25)).alloc (.cells #[.int .i64 k, .int .i32 r, .int .u8 m, .int .u8 f, .slice none 0 0, .slice none 0 0] 25)).alloc (.cells #[] 5)) = w1 at H0 ⊢
  obtain ⟨_, p0, p1, p2, p3, p4, p5⟩ := bx_cells H0.out.bx
  obtain ⟨_, q0, q1, q2, q3, _, _⟩ := bx_cells H0.out.by_
  simp only at p0 p1 p2 p3 p4 p5 q0 q1 q2 q3
  have HO : Hid (layOk ⟨k, r, m, f, ps, tx⟩ = false) := Lib.hid (by
    obtain ⟨h1, h2, h3, h4, h5⟩ := hk
    unfold layOk
    dsimp only
    rw [if_neg h1, if_neg h2, if_neg h3, if_neg h4, if_neg h5])
  obtain ⟨h1, h2, h3, h4, h5⟩ := hk
  have e1 : (k == 1) = false := by rw [beq_eq_false_iff_ne]; exact h1
  have e2 : (k == 2) = false := by rw [beq_eq_false_iff_ne]; exact h2
  have e3 : (k == 3) = false := by rw [beq_eq_false_iff_ne]; exact h3
  have e4 : (k == 4) = false := by rw [beq_eq_false_iff_ne]; exact h4
  have e5 : (k == 5) = false := by rw [beq_eq_false_iff_ne]; exact h5
  clear h1 h2 h3 h4 h5
  go_wp2_with fail
  go_ret2
  exact LyPost.no HO.out H0.out.bel

theorem refLay_any {w : World} {x : AcR} (h : RdA w x) (ha : AcW x.a) : Calls Tryd.prog 10 #[.agg (acA x)] w (LyPost x.a w) := by
  obtain ⟨⟨k, r, m, f, ps, tx⟩, P, np, cp, T, nt, ct⟩ := x
  by_cases h1 : k = 1
  · subst h1; exact refLay_1 h ha
  by_cases h2 : k = 2
  · subst h2; exact refLay_2 h ha
  by_cases h3 : k = 3
  · subst h3; exact refLay_3 h ha
  by_cases h4 : k = 4
  · subst h4; exact refLay_4 h ha
  by_cases h5 : k = 5
  · subst h5; exact refLay_5 h ha
  exact refLay_else ⟨h1, h2, h3, h4, h5⟩ h ha
end Go.Proofs.YtappnfifhpmekaaDoor
