/-
  The reference's Lay: escapes.
-/
import Derived.Test.YtappnfifhpmekaaDoorParseLayBase
namespace Go.Proofs.YtappnfifhpmekaaDoor
open Go.RowKit

theorem lay3_is (r m f : Int) (ps tx : List Int) : layOk ⟨3, r, m, f, ps, tx⟩ = (decide (r = 0 ∧ ps = [] ∧ tx = [] ∧ 48 ≤ f ∧ f ≤ 126) && (if m = 0 then decide (f ≠ 91 ∧ f ≠ 93 ∧ f ≠ 80 ∧ f ≠ 88 ∧ f ≠ 94 ∧ f ≠ 95) else decide (32 ≤ m ∧ m ≤ 47))) := rfl
set_option maxRecDepth 100000 in
set_option maxHeartbeats 8000000 in
theorem refLay_3 {w : World} {r m f : Int} {ps tx : List Int} {P T : Option Addr} {np cp nt ct : Nat} (h : RdA w ⟨⟨3, r, m, f, ps, tx⟩, P, np, cp, T, nt, ct⟩) (ha : AcW ⟨3, r, m, f, ps, tx⟩) :
    Calls Tryd.prog 10 #[.agg #[.int .i64 3, .int .i32 r, .int .u8 m, .int .u8 f, .slice P np cp, .slice T nt ct]] w (LyPost ⟨3, r, m, f, ps, tx⟩ w) := by
  have hpn : np ≤ 9223372036854775807 := by have := h.lp; have := h.mp; unfold maxLen at this; simp only at *; omega
  have htn : nt ≤ 9223372036854775807 := by have := h.lt; have := h.mt; unfold maxLen at this; simp only at *; omega
  have HN := Lib.hid (And.intro h.p.len h.t.len)
  obtain ⟨b, hb⟩ : ∃ b, b = w.heap.size := ⟨_, rfl⟩
  have HB := Lib.hid hb
  have H0 : Hid (Ly w b ⟨⟨3, r, m, f, ps, tx⟩, P, np, cp, T, nt, ct⟩ (((w.alloc (.cells #[.int .i64 3, .int .i32 r, .int .u8 m, .int .u8 f, .slice P np cp, .slice T nt ct] 25)).alloc (.cells #[.int .i64 3, .int .i32 r, .int .u8 m, .int .u8 f, .slice none 0 0, .slice none 0 0] 25)).alloc (.cells #[] 5))) := Lib.hid (by
    have h1 := Bx.new w ⟨⟨3, r, m, f, ps, tx⟩, P, np, cp, T, nt, ct⟩
    have h2 := Bx.new (w.alloc (.cells #[.int .i64 3, .int .i32 r, .int .u8 m, .int .u8 f, .slice P np cp, .slice T nt ct] 25)) ⟨⟨3, r, m, f, ps, tx⟩, none, 0, 0, none, 0, 0⟩
    rw [World.size_alloc] at h2
    have hl : Below w.heap.size w (((w.alloc (.cells #[.int .i64 3, .int .i32 r, .int .u8 m, .int .u8 f, .slice P np cp, .slice T nt ct] 25)).alloc (.cells #[.int .i64 3, .int .i32 r, .int .u8 m, .int .u8 f, .slice none 0 0, .slice none 0 0] 25)).alloc (.cells #[] 5)) := ((((Below.refl _ _).alloc (Nat.le_refl _) _).alloc (by simp) _).alloc (by simp; omega) _)
    rw [hb]
    exact ⟨(h1.below ((Below.refl _ _).alloc (Nat.le_refl _) _)).below ((Below.refl _ _).alloc (Nat.le_refl _) _), h2.below ((Below.refl _ _).alloc (Nat.le_refl _) _), hl, rfl, h⟩)
  have hm0 := ha.m0
  have hm1 := ha.m1
  have hf0 := ha.f0
  have hf1 := ha.f1
  simp only at hm0 hm1 hf0 hf1
  have HA := Lib.hid ha
  clear h hb ha
  go_enter Tryd.func10, Tryd.ntmps10
  go_upto_region 6 with fail
  rw [← HB.out]
  generalize (((w.alloc (.cells #[.int .i64 3, .int .i32 r, .int .u8 m, .int .u8 f, .slice P np cp, .slice T nt ct] 25)).alloc (.cells #[.int .i64 3, .int .i32 r, .int .u8 m, .int .u8 f, .slice none 0 0, .slice none 0 0] 25)).alloc (.cells #[] 5)) = w1 at H0 ⊢
  obtain ⟨_, p0, p1, p2, p3, p4, p5⟩ := bx_cells H0.out.bx
  obtain ⟨_, q0, q1, q2, q3, _, _⟩ := bx_cells H0.out.by_
  simp only at p0 p1 p2 p3 p4 p5 q0 q1 q2 q3
  go_upto_region 15 with fail
  go_cut [6] from 107 to 129 (fun v wc => v = .bool (decide (r = 0 ∧ ps = [] ∧ tx = [] ∧ 48 ≤ f ∧ f ≤ 126)) ∧ wc = w1)
  case first =>
    by_cases c0 : r = 0
    case neg =>
      have e0 : (r == 0) = false := by rw [beq_eq_false_iff_ne]; exact c0
      have HC := Lib.hid c0
      clear c0
      go_wp2_with fail
      go_meet
      exact ⟨congrArg Value.bool (decide_eq_false (fun x : r = 0 ∧ ps = [] ∧ tx = [] ∧ 48 ≤ f ∧ f ≤ 126 => by have y := HC.out; obtain ⟨x1, x2, x3, x4, x5⟩ := x; have x9 := (len0 HN.out.1).2 x2; have x10 := (len0 HN.out.2).2 x3; omega)).symm, rfl⟩
    have e0 : (r == 0) = true := by rw [beq_iff_eq]; exact c0
    have D0 := Lib.hid c0
    clear c0
    by_cases c1 : np = 0
    case neg =>
      have e1 : ((np : Int) == 0) = false := by rw [beq_eq_false_iff_ne]; omega
      have HC := Lib.hid c1
      clear c1
      go_wp2_with fail
      go_meet
      exact ⟨congrArg Value.bool (decide_eq_false (fun x : r = 0 ∧ ps = [] ∧ tx = [] ∧ 48 ≤ f ∧ f ≤ 126 => by have y := HC.out; obtain ⟨x1, x2, x3, x4, x5⟩ := x; have x9 := (len0 HN.out.1).2 x2; have x10 := (len0 HN.out.2).2 x3; omega)).symm, rfl⟩
    have e1 : ((np : Int) == 0) = true := by rw [beq_iff_eq]; omega
    have D1 := Lib.hid c1
    clear c1
    by_cases c2 : nt = 0
    case neg =>
      have e2 : ((nt : Int) == 0) = false := by rw [beq_eq_false_iff_ne]; omega
      have HC := Lib.hid c2
      clear c2
      go_wp2_with fail
      go_meet
      exact ⟨congrArg Value.bool (decide_eq_false (fun x : r = 0 ∧ ps = [] ∧ tx = [] ∧ 48 ≤ f ∧ f ≤ 126 => by have y := HC.out; obtain ⟨x1, x2, x3, x4, x5⟩ := x; have x9 := (len0 HN.out.1).2 x2; have x10 := (len0 HN.out.2).2 x3; omega)).symm, rfl⟩
    have e2 : ((nt : Int) == 0) = true := by rw [beq_iff_eq]; omega
    have D2 := Lib.hid c2
    clear c2
    by_cases c3 : 48 ≤ f
    case neg =>
      have e3 : decide (48 ≤ f) = false := decide_eq_false c3
      have HC := Lib.hid c3
      clear c3
      go_wp2_with fail
      go_meet
      exact ⟨congrArg Value.bool (decide_eq_false (fun x : r = 0 ∧ ps = [] ∧ tx = [] ∧ 48 ≤ f ∧ f ≤ 126 => by have y := HC.out; obtain ⟨x1, x2, x3, x4, x5⟩ := x; have x9 := (len0 HN.out.1).2 x2; have x10 := (len0 HN.out.2).2 x3; omega)).symm, rfl⟩
    have e3 : decide (48 ≤ f) = true := decide_eq_true c3
    have D3 := Lib.hid c3
    clear c3
    by_cases c4 : f ≤ 126
    case neg =>
      have e4 : decide (f ≤ 126) = false := decide_eq_false c4
      have HC := Lib.hid c4
      clear c4
      go_wp2_with fail
      go_meet
      exact ⟨congrArg Value.bool (decide_eq_false (fun x : r = 0 ∧ ps = [] ∧ tx = [] ∧ 48 ≤ f ∧ f ≤ 126 => by have y := HC.out; obtain ⟨x1, x2, x3, x4, x5⟩ := x; have x9 := (len0 HN.out.1).2 x2; have x10 := (len0 HN.out.2).2 x3; omega)).symm, rfl⟩
    have e4 : decide (f ≤ 126) = true := decide_eq_true c4
    have D4 := Lib.hid c4
    clear c4
    go_wp2_with fail
    go_meet
    exact ⟨congrArg Value.bool (decide_eq_true (show r = 0 ∧ ps = [] ∧ tx = [] ∧ 48 ≤ f ∧ f ≤ 126 from ⟨D0.out, (len0 HN.out.1).1 D1.out, (len0 HN.out.2).1 D2.out, D3.out, D4.out⟩)).symm, rfl⟩
  case rest =>
    obtain ⟨rfl, rfl⟩ := hcut
    obtain ⟨B1, hB1⟩ : ∃ B, decide (r = 0 ∧ ps = [] ∧ tx = [] ∧ 48 ≤ f ∧ f ≤ 126) = B := ⟨_, rfl⟩
    rw [hB1]
    have HB1 := Lib.hid hB1
    clear hB1
    by_cases hm : m = 0
    · have em : (m == 0) = true := by rw [beq_iff_eq]; exact hm
      have HM := Lib.hid hm
      clear hm
      go_upto_region 17 with fail
      go_cut [6] from 133 to 157 (fun v wd => v = .bool (B1 && decide (f ≠ 91 ∧ f ≠ 93 ∧ f ≠ 80 ∧ f ≠ 88 ∧ f ≠ 94 ∧ f ≠ 95)) ∧ wd = wc)
      case first =>
        cases B1
        · go_wp2_with fail
          go_meet
          exact ⟨rfl, rfl⟩
        · skip
          by_cases c0 : f ≠ 91
          case neg =>
            have e0 : (f != 91) = false := by simpa using c0
            have HC := Lib.hid c0
            clear c0
            go_wp2_with fail
            go_meet
            exact ⟨congrArg Value.bool (show (true && decide (f ≠ 91 ∧ f ≠ 93 ∧ f ≠ 80 ∧ f ≠ 88 ∧ f ≠ 94 ∧ f ≠ 95)) = false by rw [decide_eq_false (fun x : f ≠ 91 ∧ f ≠ 93 ∧ f ≠ 80 ∧ f ≠ 88 ∧ f ≠ 94 ∧ f ≠ 95 => by have y := HC.out; omega)]; rfl).symm, rfl⟩
          have e0 : (f != 91) = true := by rw [bne_iff_ne]; exact c0
          have D0 := Lib.hid c0
          clear c0
          by_cases c1 : f ≠ 93
          case neg =>
            have e1 : (f != 93) = false := by simpa using c1
            have HC := Lib.hid c1
            clear c1
            go_wp2_with fail
            go_meet
            exact ⟨congrArg Value.bool (show (true && decide (f ≠ 91 ∧ f ≠ 93 ∧ f ≠ 80 ∧ f ≠ 88 ∧ f ≠ 94 ∧ f ≠ 95)) = false by rw [decide_eq_false (fun x : f ≠ 91 ∧ f ≠ 93 ∧ f ≠ 80 ∧ f ≠ 88 ∧ f ≠ 94 ∧ f ≠ 95 => by have y := HC.out; omega)]; rfl).symm, rfl⟩
          have e1 : (f != 93) = true := by rw [bne_iff_ne]; exact c1
          have D1 := Lib.hid c1
          clear c1
          by_cases c2 : f ≠ 80
          case neg =>
            have e2 : (f != 80) = false := by simpa using c2
            have HC := Lib.hid c2
            clear c2
            go_wp2_with fail
            go_meet
            exact ⟨congrArg Value.bool (show (true && decide (f ≠ 91 ∧ f ≠ 93 ∧ f ≠ 80 ∧ f ≠ 88 ∧ f ≠ 94 ∧ f ≠ 95)) = false by rw [decide_eq_false (fun x : f ≠ 91 ∧ f ≠ 93 ∧ f ≠ 80 ∧ f ≠ 88 ∧ f ≠ 94 ∧ f ≠ 95 => by have y := HC.out; omega)]; rfl).symm, rfl⟩
          have e2 : (f != 80) = true := by rw [bne_iff_ne]; exact c2
          have D2 := Lib.hid c2
          clear c2
          by_cases c3 : f ≠ 88
          case neg =>
            have e3 : (f != 88) = false := by simpa using c3
            have HC := Lib.hid c3
            clear c3
            go_wp2_with fail
            go_meet
            exact ⟨congrArg Value.bool (show (true && decide (f ≠ 91 ∧ f ≠ 93 ∧ f ≠ 80 ∧ f ≠ 88 ∧ f ≠ 94 ∧ f ≠ 95)) = false by rw [decide_eq_false (fun x : f ≠ 91 ∧ f ≠ 93 ∧ f ≠ 80 ∧ f ≠ 88 ∧ f ≠ 94 ∧ f ≠ 95 => by have y := HC.out; omega)]; rfl).symm, rfl⟩
          have e3 : (f != 88) = true := by rw [bne_iff_ne]; exact c3
          have D3 := Lib.hid c3
          clear c3
          by_cases c4 : f ≠ 94
          case neg =>
            have e4 : (f != 94) = false := by simpa using c4
            have HC := Lib.hid c4
            clear c4
            go_wp2_with fail
            go_meet
            exact ⟨congrArg Value.bool (show (true && decide (f ≠ 91 ∧ f ≠ 93 ∧ f ≠ 80 ∧ f ≠ 88 ∧ f ≠ 94 ∧ f ≠ 95)) = false by rw [decide_eq_false (fun x : f ≠ 91 ∧ f ≠ 93 ∧ f ≠ 80 ∧ f ≠ 88 ∧ f ≠ 94 ∧ f ≠ 95 => by have y := HC.out; omega)]; rfl).symm, rfl⟩
          have e4 : (f != 94) = true := by rw [bne_iff_ne]; exact c4
          have D4 := Lib.hid c4
          clear c4
          by_cases c5 : f ≠ 95
          case neg =>
            have e5 : (f != 95) = false := by simpa using c5
            have HC := Lib.hid c5
            clear c5
            go_wp2_with fail
            go_meet
            exact ⟨congrArg Value.bool (show (true && decide (f ≠ 91 ∧ f ≠ 93 ∧ f ≠ 80 ∧ f ≠ 88 ∧ f ≠ 94 ∧ f ≠ 95)) = false by rw [decide_eq_false (fun x : f ≠ 91 ∧ f ≠ 93 ∧ f ≠ 80 ∧ f ≠ 88 ∧ f ≠ 94 ∧ f ≠ 95 => by have y := HC.out; omega)]; rfl).symm, rfl⟩
          have e5 : (f != 95) = true := by rw [bne_iff_ne]; exact c5
          have D5 := Lib.hid c5
          clear c5
          go_wp2_with fail
          go_meet
          exact ⟨congrArg Value.bool (show (true && decide (f ≠ 91 ∧ f ≠ 93 ∧ f ≠ 80 ∧ f ≠ 88 ∧ f ≠ 94 ∧ f ≠ 95)) = true by rw [decide_eq_true (show f ≠ 91 ∧ f ≠ 93 ∧ f ≠ 80 ∧ f ≠ 88 ∧ f ≠ 94 ∧ f ≠ 95 from ⟨D0.out, D1.out, D2.out, D3.out, D4.out, D5.out⟩)]; rfl).symm, rfl⟩
      case rest =>
        obtain ⟨rfl, rfl⟩ := hcut
        obtain ⟨B2, hB2⟩ : ∃ B, (B1 && decide (f ≠ 91 ∧ f ≠ 93 ∧ f ≠ 80 ∧ f ≠ 88 ∧ f ≠ 94 ∧ f ≠ 95)) = B := ⟨_, rfl⟩
        rw [hB2]
        have HO : Hid (layOk ⟨3, r, m, f, ps, tx⟩ = B2) := Lib.hid (by rw [← hB2]; exact (lay3_is r m f ps tx).trans (by rw [if_pos HM.out, HB1.out]))
        clear hB2
        have HL : Hid (Sb (wc.alloc (.cells #[.int .u8 27, .int .u8 f] 5)) (some ⟨wc.heap.size, 0, none⟩) 2 [27, f] ∧ Below w.heap.size w (wc.alloc (.cells #[.int .u8 27, .int .u8 f] 5))) := Lib.hid ⟨(By.lit wc [27, f] 2 #[.int .u8 27, .int .u8 f] rfl rfl (by omega)).sb, H0.out.bel.alloc H0.out.bel.size _⟩
        cases B2
        · go_wp2_with fail
          go_ret2
          exact LyPost.no HO.out HL.out.2
        · go_wp2_with fail
          go_ret2
          exact LyPost.yes HO.out (by unfold layS; simp only [HM.out, if_pos]; exact HL.out.1) HL.out.2
    · have em : (m == 0) = false := by rw [beq_eq_false_iff_ne]; exact hm
      have HM := Lib.hid hm
      clear hm
      go_upto_region 19 with fail
      go_cut [6] from 160 to 170 (fun v wd => v = .bool (B1 && decide (32 ≤ m ∧ m ≤ 47)) ∧ wd = wc)
      case first =>
        cases B1
        · go_wp2_with fail
          go_meet
          exact ⟨rfl, rfl⟩
        · skip
          by_cases c0 : 32 ≤ m
          case neg =>
            have e0 : decide (32 ≤ m) = false := decide_eq_false c0
            have HC := Lib.hid c0
            clear c0
            go_wp2_with fail
            go_meet
            exact ⟨congrArg Value.bool (show (true && decide (32 ≤ m ∧ m ≤ 47)) = false by rw [decide_eq_false (fun x : 32 ≤ m ∧ m ≤ 47 => by have y := HC.out; omega)]; rfl).symm, rfl⟩
          have e0 : decide (32 ≤ m) = true := decide_eq_true c0
          have D0 := Lib.hid c0
          clear c0
          by_cases c1 : m ≤ 47
          case neg =>
            have e1 : decide (m ≤ 47) = false := decide_eq_false c1
            have HC := Lib.hid c1
            clear c1
            go_wp2_with fail
            go_meet
            exact ⟨congrArg Value.bool (show (true && decide (32 ≤ m ∧ m ≤ 47)) = false by rw [decide_eq_false (fun x : 32 ≤ m ∧ m ≤ 47 => by have y := HC.out; omega)]; rfl).symm, rfl⟩
          have e1 : decide (m ≤ 47) = true := decide_eq_true c1
          have D1 := Lib.hid c1
          clear c1
          go_wp2_with fail
          go_meet
          exact ⟨congrArg Value.bool (show (true && decide (32 ≤ m ∧ m ≤ 47)) = true by rw [decide_eq_true (show 32 ≤ m ∧ m ≤ 47 from ⟨D0.out, D1.out⟩)]; rfl).symm, rfl⟩
      case rest =>
        obtain ⟨rfl, rfl⟩ := hcut
        obtain ⟨B2, hB2⟩ : ∃ B, (B1 && decide (32 ≤ m ∧ m ≤ 47)) = B := ⟨_, rfl⟩
        rw [hB2]
        have HO : Hid (layOk ⟨3, r, m, f, ps, tx⟩ = B2) := Lib.hid (by rw [← hB2]; exact (lay3_is r m f ps tx).trans (by rw [if_neg HM.out, HB1.out]))
        clear hB2
        have HL : Hid (Sb (wc.alloc (.cells #[.int .u8 27, .int .u8 m, .int .u8 f] 5)) (some ⟨wc.heap.size, 0, none⟩) 3 [27, m, f] ∧ Below w.heap.size w (wc.alloc (.cells #[.int .u8 27, .int .u8 m, .int .u8 f] 5))) := Lib.hid ⟨(By.lit wc [27, m, f] 3 #[.int .u8 27, .int .u8 m, .int .u8 f] rfl rfl (by omega)).sb, H0.out.bel.alloc H0.out.bel.size _⟩
        cases B2
        · go_wp2_with fail
          go_ret2
          exact LyPost.no HO.out HL.out.2
        · go_wp2_with fail
          go_ret2
          exact LyPost.yes HO.out (by unfold layS; simp only [if_neg HM.out]; exact HL.out.1) HL.out.2
end Go.Proofs.YtappnfifhpmekaaDoor
