/-
  The reference's Lay: runes.
-/
import Derived.Test.YtappnfifhpmekaaDoorParseLayBase
namespace Go.Proofs.YtappnfifhpmekaaDoor
open Go.RowKit

theorem lay1_is (r m f : Int) (ps tx : List Int) : layOk ⟨1, r, m, f, ps, tx⟩ = decide (m = 0 ∧ f = 0 ∧ ps = [] ∧ tx = [] ∧ mayS r = true ∧ 32 ≤ r ∧ r ≠ 127) := by
  have e : layOk ⟨1, r, m, f, ps, tx⟩ = (decide (m = 0 ∧ f = 0 ∧ ps = [] ∧ tx = []) && mayS r && decide (32 ≤ r ∧ r ≠ 127)) := rfl
  rw [e, Bool.eq_iff_iff]
  simp only [Bool.and_eq_true, decide_eq_true_eq]
  constructor
  · rintro ⟨⟨⟨h1, h2, h3, h4⟩, h5⟩, h6, h7⟩; exact ⟨h1, h2, h3, h4, h5, h6, h7⟩
  · rintro ⟨h1, h2, h3, h4, h5, h6, h7⟩; exact ⟨⟨⟨h1, h2, h3, h4⟩, h5⟩, h6, h7⟩
set_option maxRecDepth 100000 in
set_option maxHeartbeats 8000000 in
theorem refLay_1 {w : World} {r m f : Int} {ps tx : List Int} {P T : Option Addr} {np cp nt ct : Nat} (h : RdA w ⟨⟨1, r, m, f, ps, tx⟩, P, np, cp, T, nt, ct⟩) (ha : AcW ⟨1, r, m, f, ps, tx⟩) :
    Calls Tryd.prog 10 #[.agg #[.int .i64 1, .int .i32 r, .int .u8 m, .int .u8 f, .slice P np cp, .slice T nt ct]] w (LyPost ⟨1, r, m, f, ps, tx⟩ w) := by
  have hpn : np ≤ 9223372036854775807 := by have := h.lp; have := h.mp; unfold maxLen at this; simp only at *; omega
  have htn : nt ≤ 9223372036854775807 := by have := h.lt; have := h.mt; unfold maxLen at this; simp only at *; omega
  have HN := Lib.hid (And.intro h.p.len h.t.len)
  obtain ⟨b, hb⟩ : ∃ b, b = w.heap.size := ⟨_, rfl⟩
  have HB := Lib.hid hb
  have H0 : Hid (Ly w b ⟨⟨1, r, m, f, ps, tx⟩, P, np, cp, T, nt, ct⟩ (((w.alloc (.cells #[.int .i64 1, .int .i32 r, .int .u8 m, .int .u8 f, .slice P np cp, .slice T nt ct] 25)).alloc (.cells #[.int .i64 1, .int .i32 r, .int .u8 m, .int .u8 f, .slice none 0 0, .slice none 0 0] 25)).alloc (.cells #[] 5))) := Lib.hid (by
    have h1 := Bx.new w ⟨⟨1, r, m, f, ps, tx⟩, P, np, cp, T, nt, ct⟩
    have h2 := Bx.new (w.alloc (.cells #[.int .i64 1, .int .i32 r, .int .u8 m, .int .u8 f, .slice P np cp, .slice T nt ct] 25)) ⟨⟨1, r, m, f, ps, tx⟩, none, 0, 0, none, 0, 0⟩
    rw [World.size_alloc] at h2
    have hl : Below w.heap.size w (((w.alloc (.cells #[.int .i64 1, .int .i32 r, .int .u8 m, .int .u8 f, .slice P np cp, .slice T nt ct] 25)).alloc (.cells #[.int .i64 1, .int .i32 r, .int .u8 m, .int .u8 f, .slice none 0 0, .slice none 0 0] 25)).alloc (.cells #[] 5)) := ((((Below.refl _ _).alloc (Nat.le_refl _) _).alloc (by simp) _).alloc (by simp; omega) _)
    rw [hb]
    exact ⟨(h1.below ((Below.refl _ _).alloc (Nat.le_refl _) _)).below ((Below.refl _ _).alloc (Nat.le_refl _) _), h2.below ((Below.refl _ _).alloc (Nat.le_refl _) _), hl, rfl, h⟩)
  have hm0 := ha.m0
  have hm1 := ha.m1
  have hf0 := ha.f0
  have hf1 := ha.f1
  simp only at hm0 hm1 hf0 hf1
  have HA := Lib.hid ha
  clear h hb ha
  go_enter Tryd.func10, Tryd.ntmps10
  go_upto_region 6 with fail
  rw [← HB.out]
  generalize (((w.alloc (.cells #[.int .i64 1, .int .i32 r, .int .u8 m, .int .u8 f, .slice P np cp, .slice T nt ct] 25)).alloc (.cells #[.int .i64 1, .int .i32 r, .int .u8 m, .int .u8 f, .slice none 0 0, .slice none 0 0] 25)).alloc (.cells #[] 5)) = w1 at H0 ⊢
  obtain ⟨_, p0, p1, p2, p3, p4, p5⟩ := bx_cells H0.out.bx
  obtain ⟨_, q0, q1, q2, q3, _, _⟩ := bx_cells H0.out.by_
  simp only at p0 p1 p2 p3 p4 p5 q0 q1 q2 q3
  go_upto_region 8 with fail
  go_cut [6] from 20 to 54 (fun v wc => v = .bool (layOk ⟨1, r, m, f, ps, tx⟩) ∧ wc = w1)
  case first =>
    by_cases c0 : m = 0
    case neg =>
      have e0 : (m == 0) = false := by rw [beq_eq_false_iff_ne]; exact c0
      have HC := Lib.hid c0
      clear c0
      go_wp2_with fail
      go_meet
      exact ⟨congrArg Value.bool ((lay1_is _ _ _ _ _).trans (decide_eq_false fun x => by have y := HC.out; obtain ⟨x1, x2, x3, x4, x5, x6, x7⟩ := x; have x9 := (len0 HN.out.1).2 x3; have x10 := (len0 HN.out.2).2 x4; first | exact y x5 | omega)).symm, rfl⟩
    have e0 : (m == 0) = true := by rw [beq_iff_eq]; exact c0
    have D0 := Lib.hid c0
    clear c0
    by_cases c1 : f = 0
    case neg =>
      have e1 : (f == 0) = false := by rw [beq_eq_false_iff_ne]; exact c1
      have HC := Lib.hid c1
      clear c1
      go_wp2_with fail
      go_meet
      exact ⟨congrArg Value.bool ((lay1_is _ _ _ _ _).trans (decide_eq_false fun x => by have y := HC.out; obtain ⟨x1, x2, x3, x4, x5, x6, x7⟩ := x; have x9 := (len0 HN.out.1).2 x3; have x10 := (len0 HN.out.2).2 x4; first | exact y x5 | omega)).symm, rfl⟩
    have e1 : (f == 0) = true := by rw [beq_iff_eq]; exact c1
    have D1 := Lib.hid c1
    clear c1
    by_cases c2 : np = 0
    case neg =>
      have e2 : ((np : Int) == 0) = false := by rw [beq_eq_false_iff_ne]; omega
      have HC := Lib.hid c2
      clear c2
      go_wp2_with fail
      go_meet
      exact ⟨congrArg Value.bool ((lay1_is _ _ _ _ _).trans (decide_eq_false fun x => by have y := HC.out; obtain ⟨x1, x2, x3, x4, x5, x6, x7⟩ := x; have x9 := (len0 HN.out.1).2 x3; have x10 := (len0 HN.out.2).2 x4; first | exact y x5 | omega)).symm, rfl⟩
    have e2 : ((np : Int) == 0) = true := by rw [beq_iff_eq]; omega
    have D2 := Lib.hid c2
    clear c2
    by_cases c3 : nt = 0
    case neg =>
      have e3 : ((nt : Int) == 0) = false := by rw [beq_eq_false_iff_ne]; omega
      have HC := Lib.hid c3
      clear c3
      go_wp2_with fail
      go_meet
      exact ⟨congrArg Value.bool ((lay1_is _ _ _ _ _).trans (decide_eq_false fun x => by have y := HC.out; obtain ⟨x1, x2, x3, x4, x5, x6, x7⟩ := x; have x9 := (len0 HN.out.1).2 x3; have x10 := (len0 HN.out.2).2 x4; first | exact y x5 | omega)).symm, rfl⟩
    have e3 : ((nt : Int) == 0) = true := by rw [beq_iff_eq]; omega
    have D3 := Lib.hid c3
    clear c3
    by_cases c4 : mayS r = true
    case neg =>
      have e4 : Hid (mayS r = false) := Lib.hid (by simpa using c4)
      have HC := Lib.hid c4
      clear c4
      go_wp2_with fail
      refine (may_any r _).mono ?_
      rintro e w' ⟨rfl, rfl⟩
      rw [e4.out]
      go_wp2_with fail
      go_meet
      exact ⟨congrArg Value.bool ((lay1_is _ _ _ _ _).trans (decide_eq_false fun x => by have y := HC.out; obtain ⟨x1, x2, x3, x4, x5, x6, x7⟩ := x; have x9 := (len0 HN.out.1).2 x3; have x10 := (len0 HN.out.2).2 x4; first | exact y x5 | omega)).symm, rfl⟩
    have e4 : Hid (mayS r = true) := Lib.hid c4
    have D4 := Lib.hid c4
    clear c4
    by_cases c5 : 32 ≤ r
    case neg =>
      have e5 : decide (32 ≤ r) = false := decide_eq_false c5
      have HC := Lib.hid c5
      clear c5
      go_wp2_with fail
      refine (may_any r _).mono ?_
      rintro e w' ⟨rfl, rfl⟩
      rw [e4.out]
      go_wp2_with fail
      go_meet
      exact ⟨congrArg Value.bool ((lay1_is _ _ _ _ _).trans (decide_eq_false fun x => by have y := HC.out; obtain ⟨x1, x2, x3, x4, x5, x6, x7⟩ := x; have x9 := (len0 HN.out.1).2 x3; have x10 := (len0 HN.out.2).2 x4; first | exact y x5 | omega)).symm, rfl⟩
    have e5 : decide (32 ≤ r) = true := decide_eq_true c5
    have D5 := Lib.hid c5
    clear c5
    by_cases c6 : r ≠ 127
    case neg =>
      have e6 : (r != 127) = false := by simpa using c6
      have HC := Lib.hid c6
      clear c6
      go_wp2_with fail
      refine (may_any r _).mono ?_
      rintro e w' ⟨rfl, rfl⟩
      rw [e4.out]
      go_wp2_with fail
      go_meet
      exact ⟨congrArg Value.bool ((lay1_is _ _ _ _ _).trans (decide_eq_false fun x => by have y := HC.out; obtain ⟨x1, x2, x3, x4, x5, x6, x7⟩ := x; have x9 := (len0 HN.out.1).2 x3; have x10 := (len0 HN.out.2).2 x4; first | exact y x5 | omega)).symm, rfl⟩
    have e6 : (r != 127) = true := by rw [bne_iff_ne]; exact c6
    have D6 := Lib.hid c6
    clear c6
    go_wp2_with fail
    refine (may_any r _).mono ?_
    rintro e w' ⟨rfl, rfl⟩
    rw [e4.out]
    go_wp2_with fail
    go_meet
    exact ⟨congrArg Value.bool ((lay1_is _ _ _ _ _).trans (decide_eq_true ⟨D0.out, D1.out, (len0 HN.out.1).1 D2.out, (len0 HN.out.2).1 D3.out, D4.out, D5.out, D6.out⟩)).symm, rfl⟩
  case rest =>
    obtain ⟨rfl, rfl⟩ := hcut
    obtain ⟨B, hB⟩ : ∃ B, layOk ⟨1, r, m, f, ps, tx⟩ = B := ⟨_, rfl⟩
    rw [hB]
    have HO := Lib.hid hB
    clear hB
    go_wp2_with fail
    refine (refEnc_any r _).mono ?_
    rintro e w2 ⟨A2, n2, c2, rfl, hs2, hb2⟩
    have HL : Hid (Sb w2 A2 n2 (encS r) ∧ Below w.heap.size w w2) := Lib.hid ⟨hs2, H0.out.bel.trans (hb2.mono H0.out.bel.size)⟩
    clear hs2 hb2
    cases B
    · go_wp2_with fail
      go_ret2
      exact LyPost.no HO.out HL.out.2
    · go_wp2_with fail
      go_ret2
      exact LyPost.yes HO.out HL.out.1 HL.out.2
end Go.Proofs.YtappnfifhpmekaaDoor
