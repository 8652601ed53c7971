/-
  The reference's Lay: control sequences.
-/
import Derived.Test.YtappnfifhpmekaaDoorParseLayBase
namespace Go.Proofs.YtappnfifhpmekaaDoor
open Go.RowKit

theorem lay4_first (r f : Int) {m : Int} {ps tx : List Int} (h : 60 ≤ m ∧ m ≤ 63) : layS ⟨4, r, m, f, ps, tx⟩ = ((27 :: 91 :: (if true = true then [m] else [])) ++ numsS ps) ++ [f] := by
  unfold layS
  simp [h]
theorem lay4_none (r f : Int) (ps tx : List Int) : layS ⟨4, r, 0, f, ps, tx⟩ = ((27 :: 91 :: (if false = true then [(0 : Int)] else [])) ++ numsS ps) ++ [f] := by
  unfold layS
  simp
theorem lay4_last (r f : Int) {m : Int} (ps tx : List Int) (h : ¬ (60 ≤ m ∧ m ≤ 63)) (h0 : m ≠ 0) : layS ⟨4, r, m, f, ps, tx⟩ = (((27 :: 91 :: (if false = true then [m] else [])) ++ numsS ps) ++ [m]) ++ [f] := by
  unfold layS
  simp [h, h0]
def inR (z : Int) : Bool := decide (0 ≤ z ∧ z ≤ 9999)
theorem nums_snoc (l : List Int) (n : Int) : numsS (l ++ [n]) = numsS l ++ (if l = [] then [] else [59]) ++ decS4 n := by
  induction l with
  | nil => simp [numsS]
  | cons a l ih =>
    cases l with
    | nil => simp [numsS]
    | cons b l =>
      rw [if_neg (by simp)] at ih ⊢
      show decS4 a ++ 59 :: numsS ((b :: l) ++ [n]) = (decS4 a ++ 59 :: numsS (b :: l)) ++ [59] ++ decS4 n
      rw [ih]
      simp [List.append_assoc]
set_option maxRecDepth 100000 in
set_option maxHeartbeats 8000000 in
theorem refLay_4 {w : World} {r m f : Int} {ps tx : List Int} {P T : Option Addr} {np cp nt ct : Nat} (h : RdA w ⟨⟨4, r, m, f, ps, tx⟩, P, np, cp, T, nt, ct⟩) (ha : AcW ⟨4, r, m, f, ps, tx⟩) :
    Calls Tryd.prog 10 #[.agg #[.int .i64 4, .int .i32 r, .int .u8 m, .int .u8 f, .slice P np cp, .slice T nt ct]] w (LyPost ⟨4, r, m, f, ps, tx⟩ w) := by
  have hpn : np ≤ 9223372036854775807 := by have := h.lp; have := h.mp; unfold maxLen at this; simp only at *; omega
  have htn : nt ≤ 9223372036854775807 := by have := h.lt; have := h.mt; unfold maxLen at this; simp only at *; omega
  have HN := Lib.hid (And.intro h.p.len h.t.len)
  obtain ⟨b, hb⟩ : ∃ b, b = w.heap.size := ⟨_, rfl⟩
  have HB := Lib.hid hb
  have H0 : Hid (Ly w b ⟨⟨4, r, m, f, ps, tx⟩, P, np, cp, T, nt, ct⟩ (((w.alloc (.cells #[.int .i64 4, .int .i32 r, .int .u8 m, .int .u8 f, .slice P np cp, .slice T nt ct] 25)).alloc (.cells #[.int .i64 4, .int .i32 r, .int .u8 m, .int .u8 f, .slice none 0 0, .slice none 0 0] 25)).alloc (.cells #[] 5))) := Lib.hid (by
    have h1 := Bx.new w ⟨⟨4, r, m, f, ps, tx⟩, P, np, cp, T, nt, ct⟩
    have h2 := Bx.new (w.alloc (.cells #[.int .i64 4, .int .i32 r, .int .u8 m, .int .u8 f, .slice P np cp, .slice T nt ct] 25)) ⟨⟨4, r, m, f, ps, tx⟩, none, 0, 0, none, 0, 0⟩
    rw [World.size_alloc] at h2
    have hl : Below w.heap.size w (((w.alloc (.cells #[.int .i64 4, .int .i32 r, .int .u8 m, .int .u8 f, .slice P np cp, .slice T nt ct] 25)).alloc (.cells #[.int .i64 4, .int .i32 r, .int .u8 m, .int .u8 f, .slice none 0 0, .slice none 0 0] 25)).alloc (.cells #[] 5)) := ((((Below.refl _ _).alloc (Nat.le_refl _) _).alloc (by simp) _).alloc (by simp; omega) _)
    rw [hb]
    exact ⟨(h1.below ((Below.refl _ _).alloc (Nat.le_refl _) _)).below ((Below.refl _ _).alloc (Nat.le_refl _) _), h2.below ((Below.refl _ _).alloc (Nat.le_refl _) _), hl, rfl, h⟩)
  have hm0 := ha.m0
  have hm1 := ha.m1
  have hf0 := ha.f0
  have hf1 := ha.f1
  simp only at hm0 hm1 hf0 hf1
  have HA := Lib.hid ha
  clear h hb ha
  go_enter Tryd.func10, Tryd.ntmps10
  go_upto_region 6 with fail
  rw [← HB.out]
  generalize (((w.alloc (.cells #[.int .i64 4, .int .i32 r, .int .u8 m, .int .u8 f, .slice P np cp, .slice T nt ct] 25)).alloc (.cells #[.int .i64 4, .int .i32 r, .int .u8 m, .int .u8 f, .slice none 0 0, .slice none 0 0] 25)).alloc (.cells #[] 5)) = w1 at H0 ⊢
  obtain ⟨_, p0, p1, p2, p3, p4, p5⟩ := bx_cells H0.out.bx
  obtain ⟨_, q0, q1, q2, q3, _, _⟩ := bx_cells H0.out.by_
  simp only at p0 p1 p2 p3 p4 p5 q0 q1 q2 q3
  go_upto_region 22 with fail
  go_cut [6] from 177 to 201 (fun v wc => v = .bool (decide (r = 0 ∧ tx = [] ∧ ps.length ≤ 16 ∧ 64 ≤ f ∧ f ≤ 126)) ∧ wc = w1)
  case first =>
    by_cases c0 : r = 0
    case neg =>
      have e0 : (r == 0) = false := by rw [beq_eq_false_iff_ne]; exact c0
      have HC := Lib.hid c0
      clear c0
      go_wp2_with fail
      go_meet
      exact ⟨congrArg Value.bool (decide_eq_false (fun x : r = 0 ∧ tx = [] ∧ ps.length ≤ 16 ∧ 64 ≤ f ∧ f ≤ 126 => by have y := HC.out; obtain ⟨x1, x2, x3, x4, x5⟩ := x; have x9 := (len0 HN.out.2).2 x2; have x10 : ps.length = np := HN.out.1; omega)).symm, rfl⟩
    have e0 : (r == 0) = true := by rw [beq_iff_eq]; exact c0
    have D0 := Lib.hid c0
    clear c0
    by_cases c1 : nt = 0
    case neg =>
      have e1 : ((nt : Int) == 0) = false := by rw [beq_eq_false_iff_ne]; omega
      have HC := Lib.hid c1
      clear c1
      go_wp2_with fail
      go_meet
      exact ⟨congrArg Value.bool (decide_eq_false (fun x : r = 0 ∧ tx = [] ∧ ps.length ≤ 16 ∧ 64 ≤ f ∧ f ≤ 126 => by have y := HC.out; obtain ⟨x1, x2, x3, x4, x5⟩ := x; have x9 := (len0 HN.out.2).2 x2; have x10 : ps.length = np := HN.out.1; omega)).symm, rfl⟩
    have e1 : ((nt : Int) == 0) = true := by rw [beq_iff_eq]; omega
    have D1 := Lib.hid c1
    clear c1
    by_cases c2 : np ≤ 16
    case neg =>
      have e2 : decide ((np : Int) ≤ 16) = false := by rw [decide_eq_false_iff_not]; omega
      have HC := Lib.hid c2
      clear c2
      go_wp2_with fail
      go_meet
      exact ⟨congrArg Value.bool (decide_eq_false (fun x : r = 0 ∧ tx = [] ∧ ps.length ≤ 16 ∧ 64 ≤ f ∧ f ≤ 126 => by have y := HC.out; obtain ⟨x1, x2, x3, x4, x5⟩ := x; have x9 := (len0 HN.out.2).2 x2; have x10 : ps.length = np := HN.out.1; omega)).symm, rfl⟩
    have e2 : decide ((np : Int) ≤ 16) = true := by rw [decide_eq_true_eq]; omega
    have D2 := Lib.hid c2
    clear c2
    by_cases c3 : 64 ≤ f
    case neg =>
      have e3 : decide (64 ≤ f) = false := decide_eq_false c3
      have HC := Lib.hid c3
      clear c3
      go_wp2_with fail
      go_meet
      exact ⟨congrArg Value.bool (decide_eq_false (fun x : r = 0 ∧ tx = [] ∧ ps.length ≤ 16 ∧ 64 ≤ f ∧ f ≤ 126 => by have y := HC.out; obtain ⟨x1, x2, x3, x4, x5⟩ := x; have x9 := (len0 HN.out.2).2 x2; have x10 : ps.length = np := HN.out.1; omega)).symm, rfl⟩
    have e3 : decide (64 ≤ f) = true := decide_eq_true c3
    have D3 := Lib.hid c3
    clear c3
    by_cases c4 : f ≤ 126
    case neg =>
      have e4 : decide (f ≤ 126) = false := decide_eq_false c4
      have HC := Lib.hid c4
      clear c4
      go_wp2_with fail
      go_meet
      exact ⟨congrArg Value.bool (decide_eq_false (fun x : r = 0 ∧ tx = [] ∧ ps.length ≤ 16 ∧ 64 ≤ f ∧ f ≤ 126 => by have y := HC.out; obtain ⟨x1, x2, x3, x4, x5⟩ := x; have x9 := (len0 HN.out.2).2 x2; have x10 : ps.length = np := HN.out.1; omega)).symm, rfl⟩
    have e4 : decide (f ≤ 126) = true := decide_eq_true c4
    have D4 := Lib.hid c4
    clear c4
    go_wp2_with fail
    go_meet
    exact ⟨congrArg Value.bool (decide_eq_true (show r = 0 ∧ tx = [] ∧ ps.length ≤ 16 ∧ 64 ≤ f ∧ f ≤ 126 from ⟨D0.out, (len0 HN.out.2).1 D1.out, by have := D2.out; have x10 : ps.length = np := HN.out.1; omega, D3.out, D4.out⟩)).symm, rfl⟩
  case rest =>
    obtain ⟨rfl, rfl⟩ := hcut
    obtain ⟨B1, hB1⟩ : ∃ B, decide (r = 0 ∧ tx = [] ∧ ps.length ≤ 16 ∧ 64 ≤ f ∧ f ≤ 126) = B := ⟨_, rfl⟩
    rw [hB1]
    have HB1 := Lib.hid hB1
    clear hB1
    go_upto_region 23 with fail
    go_cut [8] from 202 to 209 (fun v wd => v = .bool (decide (60 ≤ m ∧ m ≤ 63)) ∧ wd = wc)
    case first =>
      by_cases c0 : 60 ≤ m
      · by_cases c1 : m ≤ 63
        · have X : Hid (decide (60 ≤ m ∧ m ≤ 63) = true) := Lib.hid (decide_eq_true ⟨c0, c1⟩)
          have e0 : decide (60 ≤ m) = true := decide_eq_true c0
          have e1 : decide (m ≤ 63) = true := decide_eq_true c1
          go_wp2_with fail
          go_meet
          exact ⟨congrArg Value.bool X.out.symm, rfl⟩
        · have X : Hid (decide (60 ≤ m ∧ m ≤ 63) = false) := Lib.hid (decide_eq_false fun x => c1 x.2)
          have e0 : decide (60 ≤ m) = true := decide_eq_true c0
          have e1 : decide (m ≤ 63) = false := decide_eq_false c1
          go_wp2_with fail
          go_meet
          exact ⟨congrArg Value.bool X.out.symm, rfl⟩
      · have X : Hid (decide (60 ≤ m ∧ m ≤ 63) = false) := Lib.hid (decide_eq_false fun x => c0 x.1)
        have e0 : decide (60 ≤ m) = false := decide_eq_false c0
        go_wp2_with fail
        go_meet
        exact ⟨congrArg Value.bool X.out.symm, rfl⟩
    case rest =>
      obtain ⟨rfl, rfl⟩ := hcut
      obtain ⟨F, hF⟩ : ∃ F, decide (60 ≤ m ∧ m ≤ 63) = F := ⟨_, rfl⟩
      rw [hF]
      have HF := Lib.hid hF
      clear hF
      go_upto_region 24 with fail
      go_cut [6] from 210 to 228 (fun v wd => v = .bool (B1 && decide (m = 0 ∨ (60 ≤ m ∧ m ≤ 63) ∨ (32 ≤ m ∧ m ≤ 47))) ∧ wd = wc)
      case first =>
        cases B1
        · go_wp2_with fail
          go_meet
          exact ⟨rfl, rfl⟩
        by_cases c0 : m = 0
        · have X : Hid ((true && decide (m = 0 ∨ (60 ≤ m ∧ m ≤ 63) ∨ (32 ≤ m ∧ m ≤ 47))) = true) := Lib.hid (by rw [decide_eq_true (show (m = 0 ∨ (60 ≤ m ∧ m ≤ 63) ∨ (32 ≤ m ∧ m ≤ 47)) from Or.inl c0)]; rfl)
          have e0 : (m == 0) = true := by rw [beq_iff_eq]; exact c0
          clear c0
          go_wp2_with fail
          go_meet
          exact ⟨congrArg Value.bool X.out.symm, rfl⟩
        have e0 : (m == 0) = false := by rw [beq_eq_false_iff_ne]; exact c0
        have C0 := Lib.hid c0
        clear c0
        cases F
        · have HF2 := of_decide_eq_false HF.out
          by_cases c1 : 32 ≤ m
          · by_cases c2 : m ≤ 47
            · have X : Hid ((true && decide (m = 0 ∨ (60 ≤ m ∧ m ≤ 63) ∨ (32 ≤ m ∧ m ≤ 47))) = true) := Lib.hid (by rw [decide_eq_true (show (m = 0 ∨ (60 ≤ m ∧ m ≤ 63) ∨ (32 ≤ m ∧ m ≤ 47)) from Or.inr (Or.inr ⟨c1, c2⟩))]; rfl)
              have e1 : decide (32 ≤ m) = true := decide_eq_true c1
              have e2 : decide (m ≤ 47) = true := decide_eq_true c2
              clear HF2
              go_wp2_with fail
              go_meet
              exact ⟨congrArg Value.bool X.out.symm, rfl⟩
            · have X : Hid ((true && decide (m = 0 ∨ (60 ≤ m ∧ m ≤ 63) ∨ (32 ≤ m ∧ m ≤ 47))) = false) := Lib.hid (by rw [decide_eq_false (show ¬ (m = 0 ∨ (60 ≤ m ∧ m ≤ 63) ∨ (32 ≤ m ∧ m ≤ 47)) from fun x => by have := C0.out; omega)]; rfl)
              have e1 : decide (32 ≤ m) = true := decide_eq_true c1
              have e2 : decide (m ≤ 47) = false := decide_eq_false c2
              clear HF2
              go_wp2_with fail
              go_meet
              exact ⟨congrArg Value.bool X.out.symm, rfl⟩
          · have X : Hid ((true && decide (m = 0 ∨ (60 ≤ m ∧ m ≤ 63) ∨ (32 ≤ m ∧ m ≤ 47))) = false) := Lib.hid (by rw [decide_eq_false (show ¬ (m = 0 ∨ (60 ≤ m ∧ m ≤ 63) ∨ (32 ≤ m ∧ m ≤ 47)) from fun x => by have := C0.out; omega)]; rfl)
            have e1 : decide (32 ≤ m) = false := decide_eq_false c1
            clear HF2
            go_wp2_with fail
            go_meet
            exact ⟨congrArg Value.bool X.out.symm, rfl⟩
        · have X : Hid ((true && decide (m = 0 ∨ (60 ≤ m ∧ m ≤ 63) ∨ (32 ≤ m ∧ m ≤ 47))) = true) := Lib.hid (by rw [decide_eq_true (show (m = 0 ∨ (60 ≤ m ∧ m ≤ 63) ∨ (32 ≤ m ∧ m ≤ 47)) from Or.inr (Or.inl (of_decide_eq_true HF.out)))]; rfl)
          go_wp2_with fail
          go_meet
          exact ⟨congrArg Value.bool X.out.symm, rfl⟩
      case rest =>
        obtain ⟨rfl, rfl⟩ := hcut
        obtain ⟨B2, hB2⟩ : ∃ B, (B1 && decide (m = 0 ∨ (60 ≤ m ∧ m ≤ 63) ∨ (32 ≤ m ∧ m ≤ 47))) = B := ⟨_, rfl⟩
        rw [hB2]
        have HB2 := Lib.hid hB2
        clear hB2
        obtain ⟨g, hg⟩ : ∃ g, g = wc.heap.size := ⟨_, rfl⟩
        have HG := Lib.hid (And.intro (show b + 2 ≤ g from by have := H0.out.by_.lt; omega) hg)
        have HL : Hid (By wc.heap.size (wc.alloc (.cells #[.int .u8 27, .int .u8 91] 5)) (some ⟨wc.heap.size, 0, none⟩) 2 2 [27, 91] ∧ Ly w b ⟨⟨4, r, m, f, ps, tx⟩, P, np, cp, T, nt, ct⟩ (wc.alloc (.cells #[.int .u8 27, .int .u8 91] 5))) := Lib.hid ⟨By.lit wc [27, 91] 2 _ rfl rfl (by omega), H0.out.below ((Below.refl _ _).alloc (Nat.le_refl _) _)⟩
        clear hg
        go_upto_if 230 with fail
        rw [← HG.out.2] at HL ⊢
        generalize wc.alloc (.cells #[.int .u8 27, .int .u8 91] 5) = w2 at HL ⊢
        go_cut [5] from 231 to 235 (fun v wd => ∃ (A : Option Addr) (l c : Nat), v = .slice A l c ∧ l ≤ 3 ∧ By g wd A l c (27 :: 91 :: (if F = true then [m] else [])) ∧ g ≤ wd.heap.size ∧ Ly w b ⟨⟨4, r, m, f, ps, tx⟩, P, np, cp, T, nt, ct⟩ wd)
        case first =>
          have hgw : g ≤ w2.heap.size := by have := HL.out.2.bx.lt; have h2 := HL.out.1.own.2; rcases h2 with ⟨h3, _⟩ | ⟨g2, cap, cur, hv, hb2, hgg, _⟩; cases h3; have := (Array.getElem?_eq_some_iff.1 hgg).1; omega
          have HGW := Lib.hid hgw
          clear hgw
          cases F
          · go_wp2_with fail
            go_meet
            exact ⟨_, 2, 2, rfl, by omega, HL.out.1, HGW.out, HL.out.2⟩
          · obtain ⟨_, p0, p1, p2, p3, p4, p5⟩ := bx_cells HL.out.2.bx
            simp only at p0 p1 p2 p3 p4 p5
            go_wp2_with (at_builtin; refine wpList_appB _ rfl _ _ rfl g (some ⟨g, 0, none⟩) 2 2 _ rfl (HL.out.1.below ((Below.refl _ _).alloc (Nat.le_refl _) _)) (some ⟨w2.heap.size, 0, none⟩) 1 1 3 rfl [m] rfl (Sb.one w2 _ _) (by omega) (by have := HGW.out; simp; omega) ?_; intro A2 c2 w3 hown hg3)
            have HZ : Hid (By g w3 A2 3 c2 (27 :: 91 :: [m]) ∧ g ≤ w3.heap.size ∧ Ly w b ⟨⟨4, r, m, f, ps, tx⟩, P, np, cp, T, nt, ct⟩ w3) := Lib.hid (by
              have hz := hg3.size
              simp at hz
              have hgw := HGW.out
              exact ⟨hown, by omega, ly_grown HL.out.2 (grownBy_trans (World.grownBy_alloc w2 _ _) hg3) (fun k hk => by have := HL.out.1.ownB k hk; have := HG.out.1; omega)⟩)
            clear hown hg3
            go_wp2_with fail
            go_meet
            exact ⟨A2, 3, c2, rfl, by omega, HZ.out.1, HZ.out.2.1, HZ.out.2.2⟩
        case rest =>
          obtain ⟨A0, l0, c0, rfl, hl0, hby, hgw, hly⟩ := hcut
          have Y0 := Lib.hid (And.intro hby (And.intro hgw hly))
          clear hby hgw hly HL
          obtain ⟨pre, hpre⟩ : ∃ pre, 27 :: 91 :: (if F = true then [m] else []) = pre := ⟨_, rfl⟩
          rw [hpre] at Y0
          have HPRE := Lib.hid hpre
          clear hpre p0 p1 p2 p3 p4 p5 q0 q1 q2 q3
          go_wp2_with fail
          go_loopw [5, 6, 9] (fun bb o i wr => ∃ (k l c : Nat) (A : Option Addr) (zs : List Int), k ≤ np ∧ k ≤ 17 ∧ l ≤ 3 + 5 * k ∧ i = .int .i64 k ∧ o = .bool (B2 && (ps.take k).all inR) ∧ bb = .slice A l c ∧ By g wr A l c zs ∧ ((B2 && (ps.take k).all inR) = true → zs = pre ++ numsS (ps.take k)) ∧ g ≤ wr.heap.size ∧ Ly w b ⟨⟨4, r, m, f, ps, tx⟩, P, np, cp, T, nt, ct⟩ wr) (fun _ _ i _ => np - (intOf i).toNat)
          case atStart => exact ⟨0, l0, c0, A0, pre, Nat.zero_le _, Nat.zero_le _, by omega, rfl, by simp, rfl, Y0.out.1, fun _ => by simp [numsS], Y0.out.2.1, Y0.out.2.2⟩
          case round =>
            obtain ⟨k, l, c, A, zs, hk, hk17, hl, rfl, rfl, rfl, hby, hzs, hgw, hly⟩ := hrel
            have Y := Lib.hid (And.intro hby (And.intro hgw (And.intro hly hzs)))
            have hlb : l ≤ 88 := by omega
            have HLL := Lib.hid hl
            clear hby hgw hly Y0 hzs hl
            obtain ⟨_, p0, p1, p2, p3, p4, p5⟩ := bx_cells Y.out.2.2.1.bx
            simp only at p0 p1 p2 p3 p4 p5
            by_cases hlt : k < np ∧ k < 17
            · obtain ⟨hlt1, hlt2⟩ := hlt
              have hk9 : decide ((k : Int) < 17) = true := by rw [decide_eq_true_eq]; omega
              have HT := Lib.hid Y.out.2.2.1.rd.p
              obtain ⟨ad, had⟩ : ∃ ad, P = some ad := by obtain ⟨a, e, _⟩ := HT.out.at_ (show 0 < np by omega); exact ⟨a, e⟩
              have t0 : Ik .i64 wr P np ps := HT.out
              rw [had] at t0 p4
              have hc : wr.cell? (ad.add k) = some (.int .i64 (ps.getD k 0)) := t0.cell hlt1
              clear t0 had HT
              have hlen : ps.length = np := HN.out.1
              have HX : Hid (ps.take (k + 1) = ps.take k ++ [ps.getD k 0]) := Lib.hid (by
                rw [List.take_add_one, List.getElem?_eq_getElem (by omega), getD_lt (by omega)]
                rfl)
              have hnb := HA.out.ps (ps.getD k 0) (by rw [getD_lt (by omega)]; exact List.getElem_mem _)
              have HTN : Hid ((ps.take k = []) ↔ k = 0) := Lib.hid (by
                rw [← List.length_eq_zero_iff, List.length_take]
                omega)
              clear hlen
              generalize ps.getD k 0 = n at hc HX hnb
              obtain ⟨hn0, hn1⟩ := hnb
              obtain ⟨Bk, hBk⟩ : ∃ Bk, (B2 && (ps.take k).all inR) = Bk := ⟨_, rfl⟩
              rw [hBk] at Y ⊢
              have HBk := Lib.hid hBk
              clear hBk
              go_upto_region 32 with fail
              go_cut [6] from 252 to 260 (fun v wd => v = .bool (Bk && inR n) ∧ wd = wr)
              case first =>
                cases Bk
                · go_wp2_with fail
                  go_meet
                  exact ⟨rfl, rfl⟩
                by_cases c0 : 0 ≤ n
                · by_cases c1 : n ≤ 9999
                  · have X : Hid ((true && inR n) = true) := Lib.hid (by unfold inR; rw [decide_eq_true ⟨c0, c1⟩]; rfl)
                    have e0 : decide (0 ≤ n) = true := decide_eq_true c0
                    have e1 : decide (n ≤ 9999) = true := decide_eq_true c1
                    go_wp2_with fail
                    go_meet
                    exact ⟨congrArg Value.bool X.out.symm, rfl⟩
                  · have X : Hid ((true && inR n) = false) := Lib.hid (by unfold inR; rw [decide_eq_false (fun x => c1 x.2)]; rfl)
                    have e0 : decide (0 ≤ n) = true := decide_eq_true c0
                    have e1 : decide (n ≤ 9999) = false := decide_eq_false c1
                    go_wp2_with fail
                    go_meet
                    exact ⟨congrArg Value.bool X.out.symm, rfl⟩
                · have X : Hid ((true && inR n) = false) := Lib.hid (by unfold inR; rw [decide_eq_false (fun x => c0 x.1)]; rfl)
                  have e0 : decide (0 ≤ n) = false := decide_eq_false c0
                  go_wp2_with fail
                  go_meet
                  exact ⟨congrArg Value.bool X.out.symm, rfl⟩
              case rest =>
                obtain ⟨rfl, rfl⟩ := hcut
                have HN2 : Hid ((B2 && (ps.take (k + 1)).all inR) = (Bk && inR n)) := Lib.hid (by rw [HX.out, List.all_append, ← Bool.and_assoc, HBk.out]; simp)
                obtain ⟨Bn, hBn⟩ : ∃ Bn, (Bk && inR n) = Bn := ⟨_, rfl⟩
                rw [hBn] at HN2 ⊢
                have HBn := Lib.hid hBn
                clear hBn
                obtain ⟨D, hD⟩ : ∃ D, (if 0 ≤ n ∧ n ≤ 9999 then decS4 n else []) = D := ⟨_, rfl⟩
                have HD := Lib.hid hD
                have hDl : D.length ≤ 4 := by
                  rw [← hD]
                  split
                  · exact (decS4_len n).2
                  · simp
                have HFIN : Hid (∀ ys : List Int, (Bk = true → ys = (pre ++ numsS (ps.take k)) ++ (if k = 0 then [] else [59])) → (Bn = true → ys ++ D = pre ++ numsS (ps.take (k + 1)))) := Lib.hid (fun ys hys hb => by
                  rw [← HBn.out, Bool.and_eq_true] at hb
                  have hr := of_decide_eq_true hb.2
                  rw [hys hb.1, ← HD.out, if_pos hr, HX.out, nums_snoc]
                  by_cases h0 : k = 0
                  · rw [if_pos h0, if_pos (HTN.out.2 h0)]; simp [List.append_assoc]
                  · rw [if_neg h0, if_neg (fun x => h0 (HTN.out.1 x))]; simp [List.append_assoc])
                clear hD
                by_cases hk0 : 0 < k
                · have hk2 : decide ((0 : Int) < (k : Int)) = true := by rw [decide_eq_true_eq]; omega
                  obtain ⟨l4, hl4⟩ : ∃ l4, l + 1 = l4 := ⟨_, rfl⟩
                  have HL4 := Lib.hid hl4
                  have hl4b : l4 ≤ 89 := by omega
                  clear hl4
                  go_wp2_with (at_builtin; refine wpList_appB _ rfl _ _ rfl g A l c _ rfl (Y.out.1.below ((Below.refl _ _).alloc (Nat.le_refl _) _)) (some ⟨wc.heap.size, 0, none⟩) 1 1 l4 HL4.out [59] rfl (Sb.one wc _ _) (by have := HL4.out; omega) (by have := Y.out.2.1; simp; omega) ?_; intro A4 c4 w4 hown hg4)
                  have HZ4 : Hid (By g w4 A4 l4 c4 (zs ++ [59]) ∧ g ≤ w4.heap.size ∧ Ly w b ⟨⟨4, r, m, f, ps, tx⟩, P, np, cp, T, nt, ct⟩ w4) := Lib.hid (by
                    have hz := hg4.size
                    simp at hz
                    have hgw := Y.out.2.1
                    exact ⟨hown, by omega, ly_grown Y.out.2.2.1 (grownBy_trans (World.grownBy_alloc wc _ _) hg4) (fun k hk => by have := Y.out.1.ownB k hk; have := HG.out.1; omega)⟩)
                  clear hown hg4
                  go_wp2_with fail
                  refine (decimal_any n _ hn0 hn1).mono ?_
                  rw [HD.out]
                  rintro e w5 ⟨A5, c5, rfl, hs5, hb5⟩
                  obtain ⟨dl, hdl⟩ : ∃ dl, D.length = dl := ⟨_, rfl⟩
                  rw [hdl] at hs5 hDl ⊢
                  obtain ⟨l1, hl1⟩ : ∃ l1, l4 + dl = l1 := ⟨_, rfl⟩
                  have HL1 := Lib.hid hl1
                  have HZ5 : Hid (By g w5 A4 l4 c4 (zs ++ [59]) ∧ g ≤ w5.heap.size ∧ Ly w b ⟨⟨4, r, m, f, ps, tx⟩, P, np, cp, T, nt, ct⟩ w5 ∧ Sb w5 A5 dl D) := Lib.hid (by
                    have hgw := HZ4.out.2.1
                    exact ⟨HZ4.out.1.below hb5, by have := hb5.size; omega, HZ4.out.2.2.below hb5, hs5⟩)
                  have hl1b : l1 ≤ 100 := by omega
                  clear hl1 hs5 hb5 hdl p0 p1 p2 p3 p4 p5
                  go_wp2_with (at_builtin; refine wpList_appB _ rfl _ _ rfl g A4 l4 c4 _ rfl HZ5.out.1 A5 dl c5 l1 HL1.out D rfl HZ5.out.2.2.2 (by omega) HZ5.out.2.1 ?_; intro A6 c6 w6 hown hg6)
                  have HZ6 : Hid (By g w6 A6 l1 c6 ((zs ++ [59]) ++ D) ∧ g ≤ w6.heap.size ∧ Ly w b ⟨⟨4, r, m, f, ps, tx⟩, P, np, cp, T, nt, ct⟩ w6) := Lib.hid (by
                    have hz := hg6.size
                    have hgw := HZ5.out.2.1
                    exact ⟨hown, by omega, ly_grown HZ5.out.2.2.1 hg6 (fun k hk => by have := HZ5.out.1.ownB k hk; have := HG.out.1; omega)⟩)
                  have HNX : Hid ((B2 && (ps.take (k + 1)).all inR) = true → (zs ++ [59]) ++ D = pre ++ numsS (ps.take (k + 1))) := Lib.hid (fun hb => HFIN.out _ (fun h => by rw [if_neg (show ¬ k = 0 by omega), Y.out.2.2.2 h]) (by rw [← HN2.out]; exact hb))
                  clear hown hg6
                  go_wp2_with fail
                  go_roundw
                  case rel => exact ⟨k + 1, l1, c6, A6, _, by omega, by omega, by have := HLL.out; have := HL4.out; have := HL1.out; omega, by go_num, by rw [HN2.out], rfl, HZ6.out.1, HNX.out, HZ6.out.2.1, HZ6.out.2.2⟩
                  case measure => simp [intOf]; omega
                · have hk1 : k = 0 := by omega
                  have HK1 := Lib.hid hk1
                  have hk2 : decide ((0 : Int) < (k : Int)) = false := by rw [decide_eq_false_iff_not]; omega
                  clear hk1
                  go_wp2_with fail
                  refine (decimal_any n _ hn0 hn1).mono ?_
                  rw [HD.out]
                  rintro e w5 ⟨A5, c5, rfl, hs5, hb5⟩
                  obtain ⟨dl, hdl⟩ : ∃ dl, D.length = dl := ⟨_, rfl⟩
                  rw [hdl] at hs5 hDl ⊢
                  obtain ⟨l1, hl1⟩ : ∃ l1, l + dl = l1 := ⟨_, rfl⟩
                  have HL1 := Lib.hid hl1
                  have HZ5 : Hid (By g w5 A l c zs ∧ g ≤ w5.heap.size ∧ Ly w b ⟨⟨4, r, m, f, ps, tx⟩, P, np, cp, T, nt, ct⟩ w5 ∧ Sb w5 A5 dl D) := Lib.hid (by
                    have hgw := Y.out.2.1
                    exact ⟨Y.out.1.below hb5, by have := hb5.size; omega, Y.out.2.2.1.below hb5, hs5⟩)
                  have hl1b : l1 ≤ 100 := by omega
                  clear hl1 hs5 hb5 hdl p0 p1 p2 p3 p4 p5
                  go_wp2_with (at_builtin; refine wpList_appB _ rfl _ _ rfl g A l c _ rfl HZ5.out.1 A5 dl c5 l1 HL1.out D rfl HZ5.out.2.2.2 (by omega) HZ5.out.2.1 ?_; intro A6 c6 w6 hown hg6)
                  have HZ6 : Hid (By g w6 A6 l1 c6 (zs ++ D) ∧ g ≤ w6.heap.size ∧ Ly w b ⟨⟨4, r, m, f, ps, tx⟩, P, np, cp, T, nt, ct⟩ w6) := Lib.hid (by
                    have hz := hg6.size
                    have hgw := HZ5.out.2.1
                    exact ⟨hown, by omega, ly_grown HZ5.out.2.2.1 hg6 (fun k hk => by have := HZ5.out.1.ownB k hk; have := HG.out.1; omega)⟩)
                  have HNX : Hid ((B2 && (ps.take (k + 1)).all inR) = true → zs ++ D = pre ++ numsS (ps.take (k + 1))) := Lib.hid (fun hb => HFIN.out _ (fun h => by rw [if_pos HK1.out, List.append_nil]; exact Y.out.2.2.2 h) (by rw [← HN2.out]; exact hb))
                  clear hown hg6
                  go_wp2_with fail
                  go_roundw
                  case rel => exact ⟨k + 1, l1, c6, A6, _, by omega, by omega, by have := HLL.out; have := HL1.out; omega, by go_num, by rw [HN2.out], rfl, HZ6.out.1, HNX.out, HZ6.out.2.1, HZ6.out.2.2⟩
                  case measure => simp [intOf]; omega
            · have hex : Hid ((k = np ∧ (B2 && (ps.take k).all inR) = (B2 && ps.all inR)) ∨ B1 = false) := Lib.hid (by
                have x10 : ps.length = np := HN.out.1
                by_cases h9 : k = np
                · exact Or.inl ⟨h9, by rw [List.take_of_length_le (by omega)]⟩
                · exact Or.inr (by
                    rw [← HB1.out]
                    exact decide_eq_false fun x => by have := x.2.2.1; omega))
              obtain ⟨Bk, hBk⟩ : ∃ Bk, (B2 && (ps.take k).all inR) = Bk := ⟨_, rfl⟩
              rw [hBk] at Y hex ⊢
              have HO : Hid (layOk ⟨4, r, m, f, ps, tx⟩ = Bk ∧ (Bk = true → ps.take k = ps)) := Lib.hid (by
                have e : layOk ⟨4, r, m, f, ps, tx⟩ = (B2 && ps.all inR) := by rw [← HB2.out, ← HB1.out]; rfl
                have x10 : ps.length = np := HN.out.1
                rcases hex.out with ⟨h1, h2⟩ | h1
                · exact ⟨by rw [e, h2], fun _ => List.take_of_length_le (by omega)⟩
                · have h2 : B2 = false := by rw [← HB2.out, h1]; rfl
                  exact ⟨by rw [e, ← hBk, h2]; rfl, fun h => by rw [← hBk, h2] at h; cases h⟩)
              clear hex hBk
              have HYY := Lib.hid (show Bk = true → zs = pre ++ numsS ps from fun h => by rw [Y.out.2.2.2 h, HO.out.2 h])
              have hlt3 : ¬ (k < np) ∨ (k < np ∧ decide ((k : Int) < 17) = false) := by
                by_cases h9 : k < np
                · exact Or.inr ⟨h9, by rw [decide_eq_false_iff_not]; omega⟩
                · exact Or.inl h9
              clear hlt
              have hmk : (F = true ∧ (m != 0) = true) ∨ (F = false ∧ m = 0) ∨ (F = false ∧ (m != 0) = true) := by
                cases F
                · by_cases h : m = 0
                  · exact Or.inr (Or.inl ⟨rfl, h⟩)
                  · exact Or.inr (Or.inr ⟨rfl, by rw [bne_iff_ne]; exact h⟩)
                · have := of_decide_eq_true HF.out
                  exact Or.inl ⟨rfl, by rw [bne_iff_ne]; omega⟩
              obtain ⟨l1, hl1⟩ : ∃ l1, l + 1 = l1 := ⟨_, rfl⟩
              have HQ1 := Lib.hid hl1
              have hl1b : l1 ≤ 89 := by omega
              clear hl1
              obtain ⟨l2, hl2⟩ : ∃ l2, l1 + 1 = l2 := ⟨_, rfl⟩
              have HQ2 := Lib.hid hl2
              have hl2b : l2 ≤ 90 := by omega
              clear hl2
              rcases hlt3 with h9 | ⟨h9, h10⟩
              · rcases hmk with ⟨hF, hm9⟩ | ⟨hF, hm9⟩ | ⟨hF, hm9⟩
                · subst hF
                  cases Bk
                  · go_wp2_with (at_builtin; refine wpList_appB _ rfl _ _ rfl g A l c _ rfl (Y.out.1.below ((Below.refl _ _).alloc (Nat.le_refl _) _)) (some ⟨wr.heap.size, 0, none⟩) 1 1 l1 HQ1.out [f] rfl (Sb.one wr _ _) (by have := HQ1.out; omega) (by have := Y.out.2.1; simp; omega) ?_; intro A6 c6 w6 hown6 hg6)
                    have HZ6 : Hid (By g w6 A6 l1 c6 (zs ++ [f]) ∧ Below w.heap.size w w6) := Lib.hid (by
                      have hz := hg6.size
                      simp at hz
                      have hgw := Y.out.2.1
                      exact ⟨hown6, (ly_grown Y.out.2.2.1 (grownBy_trans (World.grownBy_alloc wr _ _) hg6) (fun k hk => by have := Y.out.1.ownB k hk; have := HG.out.1; omega)).bel⟩)
                    clear hown6 hg6
                    go_ret2
                    exact LyPost.no HO.out.1 HZ6.out.2
                  · go_wp2_with (at_builtin; refine wpList_appB _ rfl _ _ rfl g A l c _ rfl (Y.out.1.below ((Below.refl _ _).alloc (Nat.le_refl _) _)) (some ⟨wr.heap.size, 0, none⟩) 1 1 l1 HQ1.out [f] rfl (Sb.one wr _ _) (by have := HQ1.out; omega) (by have := Y.out.2.1; simp; omega) ?_; intro A6 c6 w6 hown6 hg6)
                    have HZ6 : Hid (By g w6 A6 l1 c6 (zs ++ [f]) ∧ Below w.heap.size w w6) := Lib.hid (by
                      have hz := hg6.size
                      simp at hz
                      have hgw := Y.out.2.1
                      exact ⟨hown6, (ly_grown Y.out.2.2.1 (grownBy_trans (World.grownBy_alloc wr _ _) hg6) (fun k hk => by have := Y.out.1.ownB k hk; have := HG.out.1; omega)).bel⟩)
                    clear hown6 hg6
                    go_ret2
                    have HR : Hid (Sb w6 A6 l1 (layS ⟨4, r, m, f, ps, tx⟩)) := Lib.hid (by
                      have h1 := HZ6.out.1.sb
                      rw [show zs ++ [f] = layS ⟨4, r, m, f, ps, tx⟩ from (by have e : zs = pre ++ numsS ps := (by first | exact HYY.out rfl | exact HYY.out trivial | exact HYY.out); rw [e, ← HPRE.out]; exact (lay4_first r f (tx := tx) (of_decide_eq_true HF.out)).symm)] at h1
                      exact h1)
                    exact LyPost.yes HO.out.1 HR.out HZ6.out.2
                · subst hF
                  subst hm9
                  cases Bk
                  · go_wp2_with (at_builtin; refine wpList_appB _ rfl _ _ rfl g A l c _ rfl (Y.out.1.below ((Below.refl _ _).alloc (Nat.le_refl _) _)) (some ⟨wr.heap.size, 0, none⟩) 1 1 l1 HQ1.out [f] rfl (Sb.one wr _ _) (by have := HQ1.out; omega) (by have := Y.out.2.1; simp; omega) ?_; intro A6 c6 w6 hown6 hg6)
                    have HZ6 : Hid (By g w6 A6 l1 c6 (zs ++ [f]) ∧ Below w.heap.size w w6) := Lib.hid (by
                      have hz := hg6.size
                      simp at hz
                      have hgw := Y.out.2.1
                      exact ⟨hown6, (ly_grown Y.out.2.2.1 (grownBy_trans (World.grownBy_alloc wr _ _) hg6) (fun k hk => by have := Y.out.1.ownB k hk; have := HG.out.1; omega)).bel⟩)
                    clear hown6 hg6
                    go_ret2
                    exact LyPost.no HO.out.1 HZ6.out.2
                  · go_wp2_with (at_builtin; refine wpList_appB _ rfl _ _ rfl g A l c _ rfl (Y.out.1.below ((Below.refl _ _).alloc (Nat.le_refl _) _)) (some ⟨wr.heap.size, 0, none⟩) 1 1 l1 HQ1.out [f] rfl (Sb.one wr _ _) (by have := HQ1.out; omega) (by have := Y.out.2.1; simp; omega) ?_; intro A6 c6 w6 hown6 hg6)
                    have HZ6 : Hid (By g w6 A6 l1 c6 (zs ++ [f]) ∧ Below w.heap.size w w6) := Lib.hid (by
                      have hz := hg6.size
                      simp at hz
                      have hgw := Y.out.2.1
                      exact ⟨hown6, (ly_grown Y.out.2.2.1 (grownBy_trans (World.grownBy_alloc wr _ _) hg6) (fun k hk => by have := Y.out.1.ownB k hk; have := HG.out.1; omega)).bel⟩)
                    clear hown6 hg6
                    go_ret2
                    have HR : Hid (Sb w6 A6 l1 (layS ⟨4, r, 0, f, ps, tx⟩)) := Lib.hid (by
                      have h1 := HZ6.out.1.sb
                      rw [show zs ++ [f] = layS ⟨4, r, 0, f, ps, tx⟩ from (by have e : zs = pre ++ numsS ps := (by first | exact HYY.out rfl | exact HYY.out trivial | exact HYY.out); rw [e, ← HPRE.out]; exact (lay4_none r f ps tx).symm)] at h1
                      exact h1)
                    exact LyPost.yes HO.out.1 HR.out HZ6.out.2
                · subst hF
                  have HM0 := Lib.hid (bne_iff_ne.1 hm9)
                  cases Bk
                  · go_wp2_with (first
                      | (at_builtin; refine wpList_appB _ rfl _ _ rfl g A l c _ rfl (Y.out.1.below ((Below.refl _ _).alloc (Nat.le_refl _) _)) (some ⟨wr.heap.size, 0, none⟩) 1 1 l1 HQ1.out [m] rfl (Sb.one wr _ _) (by have := HQ1.out; omega) (by have := Y.out.2.1; simp; omega) ?_; intro A5 c5 w5 hown5 hg5; have HZ5 : Hid (By g w5 A5 l1 c5 (zs ++ [m]) ∧ g ≤ w5.heap.size ∧ Ly w b ⟨⟨4, r, m, f, ps, tx⟩, P, np, cp, T, nt, ct⟩ w5) := Lib.hid (by
                           have hz := hg5.size
                           simp at hz
                           have hgw := Y.out.2.1
                           exact ⟨hown5, by omega, ly_grown Y.out.2.2.1 (grownBy_trans (World.grownBy_alloc wr _ _) hg5) (fun k hk => by have := Y.out.1.ownB k hk; have := HG.out.1; omega)⟩)
                         clear hown5 hg5
                         obtain ⟨_, r0, r1, r2, r3, r4, r5⟩ := bx_cells HZ5.out.2.2.bx
                         simp only at r0 r1 r2 r3 r4 r5)
                      | (at_builtin; refine wpList_appB _ rfl _ _ rfl g A5 l1 c5 _ rfl (HZ5.out.1.below ((Below.refl _ _).alloc (Nat.le_refl _) _)) (some ⟨w5.heap.size, 0, none⟩) 1 1 l2 HQ2.out [f] rfl (Sb.one w5 _ _) (by have := HQ2.out; omega) (by have := HZ5.out.2.1; simp; omega) ?_; intro A6 c6 w6 hown6 hg6))
                    have HZ6 : Hid (By g w6 A6 l2 c6 ((zs ++ [m]) ++ [f]) ∧ Below w.heap.size w w6) := Lib.hid (by
                      have hz := hg6.size
                      simp at hz
                      have hgw := HZ5.out.2.1
                      exact ⟨hown6, (ly_grown HZ5.out.2.2 (grownBy_trans (World.grownBy_alloc w5 _ _) hg6) (fun k hk => by have := HZ5.out.1.ownB k hk; have := HG.out.1; omega)).bel⟩)
                    clear hown6 hg6
                    go_ret2
                    exact LyPost.no HO.out.1 HZ6.out.2
                  · go_wp2_with (first
                      | (at_builtin; refine wpList_appB _ rfl _ _ rfl g A l c _ rfl (Y.out.1.below ((Below.refl _ _).alloc (Nat.le_refl _) _)) (some ⟨wr.heap.size, 0, none⟩) 1 1 l1 HQ1.out [m] rfl (Sb.one wr _ _) (by have := HQ1.out; omega) (by have := Y.out.2.1; simp; omega) ?_; intro A5 c5 w5 hown5 hg5; have HZ5 : Hid (By g w5 A5 l1 c5 (zs ++ [m]) ∧ g ≤ w5.heap.size ∧ Ly w b ⟨⟨4, r, m, f, ps, tx⟩, P, np, cp, T, nt, ct⟩ w5) := Lib.hid (by
                           have hz := hg5.size
                           simp at hz
                           have hgw := Y.out.2.1
                           exact ⟨hown5, by omega, ly_grown Y.out.2.2.1 (grownBy_trans (World.grownBy_alloc wr _ _) hg5) (fun k hk => by have := Y.out.1.ownB k hk; have := HG.out.1; omega)⟩)
                         clear hown5 hg5
                         obtain ⟨_, r0, r1, r2, r3, r4, r5⟩ := bx_cells HZ5.out.2.2.bx
                         simp only at r0 r1 r2 r3 r4 r5)
                      | (at_builtin; refine wpList_appB _ rfl _ _ rfl g A5 l1 c5 _ rfl (HZ5.out.1.below ((Below.refl _ _).alloc (Nat.le_refl _) _)) (some ⟨w5.heap.size, 0, none⟩) 1 1 l2 HQ2.out [f] rfl (Sb.one w5 _ _) (by have := HQ2.out; omega) (by have := HZ5.out.2.1; simp; omega) ?_; intro A6 c6 w6 hown6 hg6))
                    have HZ6 : Hid (By g w6 A6 l2 c6 ((zs ++ [m]) ++ [f]) ∧ Below w.heap.size w w6) := Lib.hid (by
                      have hz := hg6.size
                      simp at hz
                      have hgw := HZ5.out.2.1
                      exact ⟨hown6, (ly_grown HZ5.out.2.2 (grownBy_trans (World.grownBy_alloc w5 _ _) hg6) (fun k hk => by have := HZ5.out.1.ownB k hk; have := HG.out.1; omega)).bel⟩)
                    clear hown6 hg6
                    go_ret2
                    have HR : Hid (Sb w6 A6 l2 (layS ⟨4, r, m, f, ps, tx⟩)) := Lib.hid (by
                      have h1 := HZ6.out.1.sb
                      rw [show (zs ++ [m]) ++ [f] = layS ⟨4, r, m, f, ps, tx⟩ from (by have e : zs = pre ++ numsS ps := (by first | exact HYY.out rfl | exact HYY.out trivial | exact HYY.out); rw [e, ← HPRE.out]; exact (lay4_last r f ps tx (of_decide_eq_false HF.out) HM0.out).symm)] at h1
                      exact h1)
                    exact LyPost.yes HO.out.1 HR.out HZ6.out.2
              · rcases hmk with ⟨hF, hm9⟩ | ⟨hF, hm9⟩ | ⟨hF, hm9⟩
                · subst hF
                  cases Bk
                  · go_wp2_with (at_builtin; refine wpList_appB _ rfl _ _ rfl g A l c _ rfl (Y.out.1.below ((Below.refl _ _).alloc (Nat.le_refl _) _)) (some ⟨wr.heap.size, 0, none⟩) 1 1 l1 HQ1.out [f] rfl (Sb.one wr _ _) (by have := HQ1.out; omega) (by have := Y.out.2.1; simp; omega) ?_; intro A6 c6 w6 hown6 hg6)
                    have HZ6 : Hid (By g w6 A6 l1 c6 (zs ++ [f]) ∧ Below w.heap.size w w6) := Lib.hid (by
                      have hz := hg6.size
                      simp at hz
                      have hgw := Y.out.2.1
                      exact ⟨hown6, (ly_grown Y.out.2.2.1 (grownBy_trans (World.grownBy_alloc wr _ _) hg6) (fun k hk => by have := Y.out.1.ownB k hk; have := HG.out.1; omega)).bel⟩)
                    clear hown6 hg6
                    go_ret2
                    exact LyPost.no HO.out.1 HZ6.out.2
                  · go_wp2_with (at_builtin; refine wpList_appB _ rfl _ _ rfl g A l c _ rfl (Y.out.1.below ((Below.refl _ _).alloc (Nat.le_refl _) _)) (some ⟨wr.heap.size, 0, none⟩) 1 1 l1 HQ1.out [f] rfl (Sb.one wr _ _) (by have := HQ1.out; omega) (by have := Y.out.2.1; simp; omega) ?_; intro A6 c6 w6 hown6 hg6)
                    have HZ6 : Hid (By g w6 A6 l1 c6 (zs ++ [f]) ∧ Below w.heap.size w w6) := Lib.hid (by
                      have hz := hg6.size
                      simp at hz
                      have hgw := Y.out.2.1
                      exact ⟨hown6, (ly_grown Y.out.2.2.1 (grownBy_trans (World.grownBy_alloc wr _ _) hg6) (fun k hk => by have := Y.out.1.ownB k hk; have := HG.out.1; omega)).bel⟩)
                    clear hown6 hg6
                    go_ret2
                    have HR : Hid (Sb w6 A6 l1 (layS ⟨4, r, m, f, ps, tx⟩)) := Lib.hid (by
                      have h1 := HZ6.out.1.sb
                      rw [show zs ++ [f] = layS ⟨4, r, m, f, ps, tx⟩ from (by have e : zs = pre ++ numsS ps := (by first | exact HYY.out rfl | exact HYY.out trivial | exact HYY.out); rw [e, ← HPRE.out]; exact (lay4_first r f (tx := tx) (of_decide_eq_true HF.out)).symm)] at h1
                      exact h1)
                    exact LyPost.yes HO.out.1 HR.out HZ6.out.2
                · subst hF
                  subst hm9
                  cases Bk
                  · go_wp2_with (at_builtin; refine wpList_appB _ rfl _ _ rfl g A l c _ rfl (Y.out.1.below ((Below.refl _ _).alloc (Nat.le_refl _) _)) (some ⟨wr.heap.size, 0, none⟩) 1 1 l1 HQ1.out [f] rfl (Sb.one wr _ _) (by have := HQ1.out; omega) (by have := Y.out.2.1; simp; omega) ?_; intro A6 c6 w6 hown6 hg6)
                    have HZ6 : Hid (By g w6 A6 l1 c6 (zs ++ [f]) ∧ Below w.heap.size w w6) := Lib.hid (by
                      have hz := hg6.size
                      simp at hz
                      have hgw := Y.out.2.1
                      exact ⟨hown6, (ly_grown Y.out.2.2.1 (grownBy_trans (World.grownBy_alloc wr _ _) hg6) (fun k hk => by have := Y.out.1.ownB k hk; have := HG.out.1; omega)).bel⟩)
                    clear hown6 hg6
                    go_ret2
                    exact LyPost.no HO.out.1 HZ6.out.2
                  · go_wp2_with (at_builtin; refine wpList_appB _ rfl _ _ rfl g A l c _ rfl (Y.out.1.below ((Below.refl _ _).alloc (Nat.le_refl _) _)) (some ⟨wr.heap.size, 0, none⟩) 1 1 l1 HQ1.out [f] rfl (Sb.one wr _ _) (by have := HQ1.out; omega) (by have := Y.out.2.1; simp; omega) ?_; intro A6 c6 w6 hown6 hg6)
                    have HZ6 : Hid (By g w6 A6 l1 c6 (zs ++ [f]) ∧ Below w.heap.size w w6) := Lib.hid (by
                      have hz := hg6.size
                      simp at hz
                      have hgw := Y.out.2.1
                      exact ⟨hown6, (ly_grown Y.out.2.2.1 (grownBy_trans (World.grownBy_alloc wr _ _) hg6) (fun k hk => by have := Y.out.1.ownB k hk; have := HG.out.1; omega)).bel⟩)
                    clear hown6 hg6
                    go_ret2
                    have HR : Hid (Sb w6 A6 l1 (layS ⟨4, r, 0, f, ps, tx⟩)) := Lib.hid (by
                      have h1 := HZ6.out.1.sb
                      rw [show zs ++ [f] = layS ⟨4, r, 0, f, ps, tx⟩ from (by have e : zs = pre ++ numsS ps := (by first | exact HYY.out rfl | exact HYY.out trivial | exact HYY.out); rw [e, ← HPRE.out]; exact (lay4_none r f ps tx).symm)] at h1
                      exact h1)
                    exact LyPost.yes HO.out.1 HR.out HZ6.out.2
                · subst hF
                  have HM0 := Lib.hid (bne_iff_ne.1 hm9)
                  cases Bk
                  · go_wp2_with (first
                      | (at_builtin; refine wpList_appB _ rfl _ _ rfl g A l c _ rfl (Y.out.1.below ((Below.refl _ _).alloc (Nat.le_refl _) _)) (some ⟨wr.heap.size, 0, none⟩) 1 1 l1 HQ1.out [m] rfl (Sb.one wr _ _) (by have := HQ1.out; omega) (by have := Y.out.2.1; simp; omega) ?_; intro A5 c5 w5 hown5 hg5; have HZ5 : Hid (By g w5 A5 l1 c5 (zs ++ [m]) ∧ g ≤ w5.heap.size ∧ Ly w b ⟨⟨4, r, m, f, ps, tx⟩, P, np, cp, T, nt, ct⟩ w5) := Lib.hid (by
                           have hz := hg5.size
                           simp at hz
                           have hgw := Y.out.2.1
                           exact ⟨hown5, by omega, ly_grown Y.out.2.2.1 (grownBy_trans (World.grownBy_alloc wr _ _) hg5) (fun k hk => by have := Y.out.1.ownB k hk; have := HG.out.1; omega)⟩)
                         clear hown5 hg5
                         obtain ⟨_, r0, r1, r2, r3, r4, r5⟩ := bx_cells HZ5.out.2.2.bx
                         simp only at r0 r1 r2 r3 r4 r5)
                      | (at_builtin; refine wpList_appB _ rfl _ _ rfl g A5 l1 c5 _ rfl (HZ5.out.1.below ((Below.refl _ _).alloc (Nat.le_refl _) _)) (some ⟨w5.heap.size, 0, none⟩) 1 1 l2 HQ2.out [f] rfl (Sb.one w5 _ _) (by have := HQ2.out; omega) (by have := HZ5.out.2.1; simp; omega) ?_; intro A6 c6 w6 hown6 hg6))
                    have HZ6 : Hid (By g w6 A6 l2 c6 ((zs ++ [m]) ++ [f]) ∧ Below w.heap.size w w6) := Lib.hid (by
                      have hz := hg6.size
                      simp at hz
                      have hgw := HZ5.out.2.1
                      exact ⟨hown6, (ly_grown HZ5.out.2.2 (grownBy_trans (World.grownBy_alloc w5 _ _) hg6) (fun k hk => by have := HZ5.out.1.ownB k hk; have := HG.out.1; omega)).bel⟩)
                    clear hown6 hg6
                    go_ret2
                    exact LyPost.no HO.out.1 HZ6.out.2
                  · go_wp2_with (first
                      | (at_builtin; refine wpList_appB _ rfl _ _ rfl g A l c _ rfl (Y.out.1.below ((Below.refl _ _).alloc (Nat.le_refl _) _)) (some ⟨wr.heap.size, 0, none⟩) 1 1 l1 HQ1.out [m] rfl (Sb.one wr _ _) (by have := HQ1.out; omega) (by have := Y.out.2.1; simp; omega) ?_; intro A5 c5 w5 hown5 hg5; have HZ5 : Hid (By g w5 A5 l1 c5 (zs ++ [m]) ∧ g ≤ w5.heap.size ∧ Ly w b ⟨⟨4, r, m, f, ps, tx⟩, P, np, cp, T, nt, ct⟩ w5) := Lib.hid (by
                           have hz := hg5.size
                           simp at hz
                           have hgw := Y.out.2.1
                           exact ⟨hown5, by omega, ly_grown Y.out.2.2.1 (grownBy_trans (World.grownBy_alloc wr _ _) hg5) (fun k hk => by have := Y.out.1.ownB k hk; have := HG.out.1; omega)⟩)
                         clear hown5 hg5
                         obtain ⟨_, r0, r1, r2, r3, r4, r5⟩ := bx_cells HZ5.out.2.2.bx
                         simp only at r0 r1 r2 r3 r4 r5)
                      | (at_builtin; refine wpList_appB _ rfl _ _ rfl g A5 l1 c5 _ rfl (HZ5.out.1.below ((Below.refl _ _).alloc (Nat.le_refl _) _)) (some ⟨w5.heap.size, 0, none⟩) 1 1 l2 HQ2.out [f] rfl (Sb.one w5 _ _) (by have := HQ2.out; omega) (by have := HZ5.out.2.1; simp; omega) ?_; intro A6 c6 w6 hown6 hg6))
                    have HZ6 : Hid (By g w6 A6 l2 c6 ((zs ++ [m]) ++ [f]) ∧ Below w.heap.size w w6) := Lib.hid (by
                      have hz := hg6.size
                      simp at hz
                      have hgw := HZ5.out.2.1
                      exact ⟨hown6, (ly_grown HZ5.out.2.2 (grownBy_trans (World.grownBy_alloc w5 _ _) hg6) (fun k hk => by have := HZ5.out.1.ownB k hk; have := HG.out.1; omega)).bel⟩)
                    clear hown6 hg6
                    go_ret2
                    have HR : Hid (Sb w6 A6 l2 (layS ⟨4, r, m, f, ps, tx⟩)) := Lib.hid (by
                      have h1 := HZ6.out.1.sb
                      rw [show (zs ++ [m]) ++ [f] = layS ⟨4, r, m, f, ps, tx⟩ from (by have e : zs = pre ++ numsS ps := (by first | exact HYY.out rfl | exact HYY.out trivial | exact HYY.out); rw [e, ← HPRE.out]; exact (lay4_last r f ps tx (of_decide_eq_false HF.out) HM0.out).symm)] at h1
                      exact h1)
                    exact LyPost.yes HO.out.1 HR.out HZ6.out.2
end Go.Proofs.YtappnfifhpmekaaDoor
