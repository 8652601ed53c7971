/-
  The reference's Lay: control bytes.
-/
import Derived.Test.YtappnfifhpmekaaDoorParseLayBase
namespace Go.Proofs.YtappnfifhpmekaaDoor
open Go.RowKit

theorem lay2_is (r m f : Int) (ps tx : List Int) : layOk ⟨2, r, m, f, ps, tx⟩ = decide (r = 0 ∧ m = 0 ∧ ps = [] ∧ tx = [] ∧ f < 32 ∧ f ≠ 24 ∧ f ≠ 26 ∧ f ≠ 27) := rfl
set_option maxRecDepth 100000 in
set_option maxHeartbeats 8000000 in
theorem refLay_2 {w : World} {r m f : Int} {ps tx : List Int} {P T : Option Addr} {np cp nt ct : Nat} (h : RdA w ⟨⟨2, r, m, f, ps, tx⟩, P, np, cp, T, nt, ct⟩) (ha : AcW ⟨2, r, m, f, ps, tx⟩) :
    Calls Tryd.prog 10 #[.agg #[.int .i64 2, .int .i32 r, .int .u8 m, .int .u8 f, .slice P np cp, .slice T nt ct]] w (LyPost ⟨2, r, m, f, ps, tx⟩ w) := by
  have hpn : np ≤ 9223372036854775807 := by have := h.lp; have := h.mp; unfold maxLen at this; simp only at *; omega
  have htn : nt ≤ 9223372036854775807 := by have := h.lt; have := h.mt; unfold maxLen at this; simp only at *; omega
  have HN := Lib.hid (And.intro h.p.len h.t.len)
  obtain ⟨b, hb⟩ : ∃ b, b = w.heap.size := ⟨_, rfl⟩
  have HB := Lib.hid hb
  have H0 : Hid (Ly w b ⟨⟨2, r, m, f, ps, tx⟩, P, np, cp, T, nt, ct⟩ (((w.alloc (.cells #[.int .i64 2, .int .i32 r, .int .u8 m, .int .u8 f, .slice P np cp, .slice T nt ct] 25)).alloc (.cells #[.int .i64 2, .int .i32 r, .int .u8 m, .int .u8 f, .slice none 0 0, .slice none 0 0] 25)).alloc (.cells #[] 5))) := Lib.hid (by
    have h1 := Bx.new w ⟨⟨2, r, m, f, ps, tx⟩, P, np, cp, T, nt, ct⟩
    have h2 := Bx.new (w.alloc (.cells #[.int .i64 2, .int .i32 r, .int .u8 m, .int .u8 f, .slice P np cp, .slice T nt ct] 25)) ⟨⟨2, r, m, f, ps, tx⟩, none, 0, 0, none, 0, 0⟩
    rw [World.size_alloc] at h2
    have hl : Below w.heap.size w (((w.alloc (.cells #[.int .i64 2, .int .i32 r, .int .u8 m, .int .u8 f, .slice P np cp, .slice T nt ct] 25)).alloc (.cells #[.int .i64 2, .int .i32 r, .int .u8 m, .int .u8 f, .slice none 0 0, .slice none 0 0] 25)).alloc (.cells #[] 5)) := ((((Below.refl _ _).alloc (Nat.le_refl _) _).alloc (by simp) _).alloc (by simp; omega) _)
    rw [hb]
    exact ⟨(h1.below ((Below.refl _ _).alloc (Nat.le_refl _) _)).below ((Below.refl _ _).alloc (Nat.le_refl _) _), h2.below ((Below.refl _ _).alloc (Nat.le_refl _) _), hl, rfl, h⟩)
  have hm0 := ha.m0
  have hm1 := ha.m1
  have hf0 := ha.f0
  have hf1 := ha.f1
  simp only at hm0 hm1 hf0 hf1
  have HA := Lib.hid ha
  clear h hb ha
  go_enter Tryd.func10, Tryd.ntmps10
  go_upto_region 6 with fail
  rw [← HB.out]
  generalize (((w.alloc (.cells #[.int .i64 2, .int .i32 r, .int .u8 m, .int .u8 f, .slice P np cp, .slice T nt ct] 25)).alloc (.cells #[.int .i64 2, .int .i32 r, .int .u8 m, .int .u8 f, .slice none 0 0, .slice none 0 0] 25)).alloc (.cells #[] 5)) = w1 at H0 ⊢
  obtain ⟨_, p0, p1, p2, p3, p4, p5⟩ := bx_cells H0.out.bx
  obtain ⟨_, q0, q1, q2, q3, _, _⟩ := bx_cells H0.out.by_
  simp only at p0 p1 p2 p3 p4 p5 q0 q1 q2 q3
  go_upto_region 11 with fail
  go_cut [6] from 60 to 99 (fun v wc => v = .bool (layOk ⟨2, r, m, f, ps, tx⟩) ∧ wc = w1)
  case first =>
    by_cases c0 : r = 0
    case neg =>
      have e0 : (r == 0) = false := by rw [beq_eq_false_iff_ne]; exact c0
      have HC := Lib.hid c0
      clear c0
      go_wp2_with fail
      go_meet
      exact ⟨congrArg Value.bool ((lay2_is _ _ _ _ _).trans (decide_eq_false fun x => by have y := HC.out; obtain ⟨x1, x2, x3, x4, x5, x6, x7, x8⟩ := x; have x9 := (len0 HN.out.1).2 x3; have x10 := (len0 HN.out.2).2 x4; omega)).symm, rfl⟩
    have e0 : (r == 0) = true := by rw [beq_iff_eq]; exact c0
    have D0 := Lib.hid c0
    clear c0
    by_cases c1 : m = 0
    case neg =>
      have e1 : (m == 0) = false := by rw [beq_eq_false_iff_ne]; exact c1
      have HC := Lib.hid c1
      clear c1
      go_wp2_with fail
      go_meet
      exact ⟨congrArg Value.bool ((lay2_is _ _ _ _ _).trans (decide_eq_false fun x => by have y := HC.out; obtain ⟨x1, x2, x3, x4, x5, x6, x7, x8⟩ := x; have x9 := (len0 HN.out.1).2 x3; have x10 := (len0 HN.out.2).2 x4; omega)).symm, rfl⟩
    have e1 : (m == 0) = true := by rw [beq_iff_eq]; exact c1
    have D1 := Lib.hid c1
    clear c1
    by_cases c2 : np = 0
    case neg =>
      have e2 : ((np : Int) == 0) = false := by rw [beq_eq_false_iff_ne]; omega
      have HC := Lib.hid c2
      clear c2
      go_wp2_with fail
      go_meet
      exact ⟨congrArg Value.bool ((lay2_is _ _ _ _ _).trans (decide_eq_false fun x => by have y := HC.out; obtain ⟨x1, x2, x3, x4, x5, x6, x7, x8⟩ := x; have x9 := (len0 HN.out.1).2 x3; have x10 := (len0 HN.out.2).2 x4; omega)).symm, rfl⟩
    have e2 : ((np : Int) == 0) = true := by rw [beq_iff_eq]; omega
    have D2 := Lib.hid c2
    clear c2
    by_cases c3 : nt = 0
    case neg =>
      have e3 : ((nt : Int) == 0) = false := by rw [beq_eq_false_iff_ne]; omega
      have HC := Lib.hid c3
      clear c3
      go_wp2_with fail
      go_meet
      exact ⟨congrArg Value.bool ((lay2_is _ _ _ _ _).trans (decide_eq_false fun x => by have y := HC.out; obtain ⟨x1, x2, x3, x4, x5, x6, x7, x8⟩ := x; have x9 := (len0 HN.out.1).2 x3; have x10 := (len0 HN.out.2).2 x4; omega)).symm, rfl⟩
    have e3 : ((nt : Int) == 0) = true := by rw [beq_iff_eq]; omega
    have D3 := Lib.hid c3
    clear c3
    by_cases c4 : f < 32
    case neg =>
      have e4 : decide (f < 32) = false := decide_eq_false c4
      have HC := Lib.hid c4
      clear c4
      go_wp2_with fail
      go_meet
      exact ⟨congrArg Value.bool ((lay2_is _ _ _ _ _).trans (decide_eq_false fun x => by have y := HC.out; obtain ⟨x1, x2, x3, x4, x5, x6, x7, x8⟩ := x; have x9 := (len0 HN.out.1).2 x3; have x10 := (len0 HN.out.2).2 x4; omega)).symm, rfl⟩
    have e4 : decide (f < 32) = true := decide_eq_true c4
    have D4 := Lib.hid c4
    clear c4
    by_cases c5 : f ≠ 24
    case neg =>
      have e5 : (f != 24) = false := by simpa using c5
      have HC := Lib.hid c5
      clear c5
      go_wp2_with fail
      go_meet
      exact ⟨congrArg Value.bool ((lay2_is _ _ _ _ _).trans (decide_eq_false fun x => by have y := HC.out; obtain ⟨x1, x2, x3, x4, x5, x6, x7, x8⟩ := x; have x9 := (len0 HN.out.1).2 x3; have x10 := (len0 HN.out.2).2 x4; omega)).symm, rfl⟩
    have e5 : (f != 24) = true := by rw [bne_iff_ne]; exact c5
    have D5 := Lib.hid c5
    clear c5
    by_cases c6 : f ≠ 26
    case neg =>
      have e6 : (f != 26) = false := by simpa using c6
      have HC := Lib.hid c6
      clear c6
      go_wp2_with fail
      go_meet
      exact ⟨congrArg Value.bool ((lay2_is _ _ _ _ _).trans (decide_eq_false fun x => by have y := HC.out; obtain ⟨x1, x2, x3, x4, x5, x6, x7, x8⟩ := x; have x9 := (len0 HN.out.1).2 x3; have x10 := (len0 HN.out.2).2 x4; omega)).symm, rfl⟩
    have e6 : (f != 26) = true := by rw [bne_iff_ne]; exact c6
    have D6 := Lib.hid c6
    clear c6
    by_cases c7 : f ≠ 27
    case neg =>
      have e7 : (f != 27) = false := by simpa using c7
      have HC := Lib.hid c7
      clear c7
      go_wp2_with fail
      go_meet
      exact ⟨congrArg Value.bool ((lay2_is _ _ _ _ _).trans (decide_eq_false fun x => by have y := HC.out; obtain ⟨x1, x2, x3, x4, x5, x6, x7, x8⟩ := x; have x9 := (len0 HN.out.1).2 x3; have x10 := (len0 HN.out.2).2 x4; omega)).symm, rfl⟩
    have e7 : (f != 27) = true := by rw [bne_iff_ne]; exact c7
    have D7 := Lib.hid c7
    clear c7
    go_wp2_with fail
    go_meet
    exact ⟨congrArg Value.bool ((lay2_is _ _ _ _ _).trans (decide_eq_true ⟨D0.out, D1.out, (len0 HN.out.1).1 D2.out, (len0 HN.out.2).1 D3.out, D4.out, D5.out, D6.out, D7.out⟩)).symm, rfl⟩
  case rest =>
    obtain ⟨rfl, rfl⟩ := hcut
    obtain ⟨B, hB⟩ : ∃ B, layOk ⟨2, r, m, f, ps, tx⟩ = B := ⟨_, rfl⟩
    rw [hB]
    have HO := Lib.hid hB
    clear hB
    have HL : Hid (Sb (wc.alloc (.cells #[.int .u8 f] 5)) (some ⟨wc.heap.size, 0, none⟩) 1 [f] ∧ Below w.heap.size w (wc.alloc (.cells #[.int .u8 f] 5))) := Lib.hid ⟨Sb.one wc _ f, H0.out.bel.alloc H0.out.bel.size _⟩
    cases B
    · go_wp2_with fail
      go_ret2
      exact LyPost.no HO.out HL.out.2
    · go_wp2_with fail
      go_ret2
      exact LyPost.yes HO.out HL.out.1 HL.out.2
end Go.Proofs.YtappnfifhpmekaaDoor
