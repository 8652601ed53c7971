/-
  The reference's Lay: texts.
-/
import Derived.Test.YtappnfifhpmekaaDoorParseLayBase
namespace Go.Proofs.YtappnfifhpmekaaDoor
open Go.RowKit

set_option maxRecDepth 100000 in
set_option maxHeartbeats 8000000 in
theorem refLay_5 {w : World} {r m f : Int} {ps tx : List Int} {P T : Option Addr} {np cp nt ct : Nat} (h : RdA w ⟨⟨5, r, m, f, ps, tx⟩, P, np, cp, T, nt, ct⟩) (ha : AcW ⟨5, r, m, f, ps, tx⟩) :
    Calls Tryd.prog 10 #[.agg #[.int .i64 5, .int .i32 r, .int .u8 m, .int .u8 f, .slice P np cp, .slice T nt ct]] w (LyPost ⟨5, r, m, f, ps, tx⟩ w) := by
  have hpn : np ≤ 9223372036854775807 := by have := h.lp; have := h.mp; unfold maxLen at this; simp only at *; omega
  have htn : nt ≤ 9223372036854775807 := by have := h.lt; have := h.mt; unfold maxLen at this; simp only at *; omega
  have HN := Lib.hid (And.intro h.p.len h.t.len)
  obtain ⟨b, hb⟩ : ∃ b, b = w.heap.size := ⟨_, rfl⟩
  have HB := Lib.hid hb
  have H0 : Hid (Ly w b ⟨⟨5, r, m, f, ps, tx⟩, P, np, cp, T, nt, ct⟩ (((w.alloc (.cells #[.int .i64 5, .int .i32 r, .int .u8 m, .int .u8 f, .slice P np cp, .slice T nt ct] 25)).alloc (.cells #[.int .i64 5, .int .i32 r, .int .u8 m, .int .u8 f, .slice none 0 0, .slice none 0 0] 25)).alloc (.cells #[] 5))) := Lib.hid (by
    have h1 := Bx.new w ⟨⟨5, r, m, f, ps, tx⟩, P, np, cp, T, nt, ct⟩
    have h2 := Bx.new (w.alloc (.cells #[.int .i64 5, .int .i32 r, .int .u8 m, .int .u8 f, .slice P np cp, .slice T nt ct] 25)) ⟨⟨5, r, m, f, ps, tx⟩, none, 0, 0, none, 0, 0⟩
    rw [World.size_alloc] at h2
    have hl : Below w.heap.size w (((w.alloc (.cells #[.int .i64 5, .int .i32 r, .int .u8 m, .int .u8 f, .slice P np cp, .slice T nt ct] 25)).alloc (.cells #[.int .i64 5, .int .i32 r, .int .u8 m, .int .u8 f, .slice none 0 0, .slice none 0 0] 25)).alloc (.cells #[] 5)) := ((((Below.refl _ _).alloc (Nat.le_refl _) _).alloc (by simp) _).alloc (by simp; omega) _)
    rw [hb]
    exact ⟨(h1.below ((Below.refl _ _).alloc (Nat.le_refl _) _)).below ((Below.refl _ _).alloc (Nat.le_refl _) _), h2.below ((Below.refl _ _).alloc (Nat.le_refl _) _), hl, rfl, h⟩)
  have hm0 := ha.m0
  have hm1 := ha.m1
  have hf0 := ha.f0
  have hf1 := ha.f1
  simp only at hm0 hm1 hf0 hf1
  have HA := Lib.hid ha
  clear h hb ha
  go_enter Tryd.func10, Tryd.ntmps10
  go_upto_region 6 with fail
  rw [← HB.out]
  generalize (((w.alloc (.cells #[.int .i64 5, .int .i32 r, .int .u8 m, .int .u8 f, .slice P np cp, .slice T nt ct] 25)).alloc (.cells #[.int .i64 5, .int .i32 r, .int .u8 m, .int .u8 f, .slice none 0 0, .slice none 0 0] 25)).alloc (.cells #[] 5)) = w1 at H0 ⊢
  obtain ⟨_, p0, p1, p2, p3, p4, p5⟩ := bx_cells H0.out.bx
  obtain ⟨_, q0, q1, q2, q3, _, _⟩ := bx_cells H0.out.by_
  simp only at p0 p1 p2 p3 p4 p5 q0 q1 q2 q3
  go_upto_region 40 with fail
  go_cut [6] from 289 to 313 (fun v wc => v = .bool (decide (r = 0 ∧ m = 0 ∧ f = 0 ∧ ps = [] ∧ tx.length ≤ 256)) ∧ wc = w1)
  case first =>
    by_cases c0 : r = 0
    case neg =>
      have e0 : (r == 0) = false := by rw [beq_eq_false_iff_ne]; exact c0
      have HC := Lib.hid c0
      clear c0
      go_wp2_with fail
      go_meet
      exact ⟨congrArg Value.bool (decide_eq_false (fun x : r = 0 ∧ m = 0 ∧ f = 0 ∧ ps = [] ∧ tx.length ≤ 256 => by have y := HC.out; obtain ⟨x1, x2, x3, x4, x5⟩ := x; have x9 := (len0 HN.out.1).2 x4; have x10 : tx.length = nt := HN.out.2; omega)).symm, rfl⟩
    have e0 : (r == 0) = true := by rw [beq_iff_eq]; exact c0
    have D0 := Lib.hid c0
    clear c0
    by_cases c1 : m = 0
    case neg =>
      have e1 : (m == 0) = false := by rw [beq_eq_false_iff_ne]; exact c1
      have HC := Lib.hid c1
      clear c1
      go_wp2_with fail
      go_meet
      exact ⟨congrArg Value.bool (decide_eq_false (fun x : r = 0 ∧ m = 0 ∧ f = 0 ∧ ps = [] ∧ tx.length ≤ 256 => by have y := HC.out; obtain ⟨x1, x2, x3, x4, x5⟩ := x; have x9 := (len0 HN.out.1).2 x4; have x10 : tx.length = nt := HN.out.2; omega)).symm, rfl⟩
    have e1 : (m == 0) = true := by rw [beq_iff_eq]; exact c1
    have D1 := Lib.hid c1
    clear c1
    by_cases c2 : f = 0
    case neg =>
      have e2 : (f == 0) = false := by rw [beq_eq_false_iff_ne]; exact c2
      have HC := Lib.hid c2
      clear c2
      go_wp2_with fail
      go_meet
      exact ⟨congrArg Value.bool (decide_eq_false (fun x : r = 0 ∧ m = 0 ∧ f = 0 ∧ ps = [] ∧ tx.length ≤ 256 => by have y := HC.out; obtain ⟨x1, x2, x3, x4, x5⟩ := x; have x9 := (len0 HN.out.1).2 x4; have x10 : tx.length = nt := HN.out.2; omega)).symm, rfl⟩
    have e2 : (f == 0) = true := by rw [beq_iff_eq]; exact c2
    have D2 := Lib.hid c2
    clear c2
    by_cases c3 : np = 0
    case neg =>
      have e3 : ((np : Int) == 0) = false := by rw [beq_eq_false_iff_ne]; omega
      have HC := Lib.hid c3
      clear c3
      go_wp2_with fail
      go_meet
      exact ⟨congrArg Value.bool (decide_eq_false (fun x : r = 0 ∧ m = 0 ∧ f = 0 ∧ ps = [] ∧ tx.length ≤ 256 => by have y := HC.out; obtain ⟨x1, x2, x3, x4, x5⟩ := x; have x9 := (len0 HN.out.1).2 x4; have x10 : tx.length = nt := HN.out.2; omega)).symm, rfl⟩
    have e3 : ((np : Int) == 0) = true := by rw [beq_iff_eq]; omega
    have D3 := Lib.hid c3
    clear c3
    by_cases c4 : nt ≤ 256
    case neg =>
      have e4 : decide ((nt : Int) ≤ 256) = false := by rw [decide_eq_false_iff_not]; omega
      have HC := Lib.hid c4
      clear c4
      go_wp2_with fail
      go_meet
      exact ⟨congrArg Value.bool (decide_eq_false (fun x : r = 0 ∧ m = 0 ∧ f = 0 ∧ ps = [] ∧ tx.length ≤ 256 => by have y := HC.out; obtain ⟨x1, x2, x3, x4, x5⟩ := x; have x9 := (len0 HN.out.1).2 x4; have x10 : tx.length = nt := HN.out.2; omega)).symm, rfl⟩
    have e4 : decide ((nt : Int) ≤ 256) = true := by rw [decide_eq_true_eq]; omega
    have D4 := Lib.hid c4
    clear c4
    go_wp2_with fail
    go_meet
    exact ⟨congrArg Value.bool (decide_eq_true (show r = 0 ∧ m = 0 ∧ f = 0 ∧ ps = [] ∧ tx.length ≤ 256 from ⟨D0.out, D1.out, D2.out, (len0 HN.out.1).1 D3.out, by have := D4.out; have x10 : tx.length = nt := HN.out.2; omega⟩)).symm, rfl⟩
  case rest =>
    obtain ⟨rfl, rfl⟩ := hcut
    obtain ⟨B1, hB1⟩ : ∃ B, decide (r = 0 ∧ m = 0 ∧ f = 0 ∧ ps = [] ∧ tx.length ≤ 256) = B := ⟨_, rfl⟩
    rw [hB1]
    have HB1 := Lib.hid hB1
    clear hB1
    obtain ⟨g, hg⟩ : ∃ g, g = wc.heap.size := ⟨_, rfl⟩
    have HL : Hid (By g (wc.alloc (.cells #[.int .u8 27, .int .u8 93] 5)) (some ⟨g, 0, none⟩) 2 2 [27, 93] ∧ Ly w b ⟨⟨5, r, m, f, ps, tx⟩, P, np, cp, T, nt, ct⟩ (wc.alloc (.cells #[.int .u8 27, .int .u8 93] 5)) ∧ g ≤ (wc.alloc (.cells #[.int .u8 27, .int .u8 93] 5)).heap.size) := Lib.hid (by
      rw [hg]
      exact ⟨By.lit wc [27, 93] 2 _ rfl rfl (by omega), H0.out.below ((Below.refl _ _).alloc (Nat.le_refl _) _), by simp⟩)
    have HG := Lib.hid (show b + 2 ≤ g from by have := H0.out.by_.lt; omega)
    clear p0 p1 p2 p3 p4 p5 q0 q1 q2 q3
    go_wp2_with fail
    rw [← hg]
    clear hg
    generalize wc.alloc (.cells #[.int .u8 27, .int .u8 93] 5) = w2 at HL ⊢
    go_loopw [5, 6, 11] (fun bb o i wr => ∃ (k l c : Nat) (A : Option Addr), k ≤ nt ∧ k ≤ 300 ∧ l = k + 2 ∧ i = .int .i64 k ∧ o = .bool (B1 && (tx.take k).all fun z => decide (32 ≤ z)) ∧ bb = .slice A l c ∧ By g wr A l c (27 :: 93 :: tx.take k) ∧ g ≤ wr.heap.size ∧ Ly w b ⟨⟨5, r, m, f, ps, tx⟩, P, np, cp, T, nt, ct⟩ wr) (fun _ _ i _ => nt - (intOf i).toNat)
    case atStart => exact ⟨0, 2, 2, _, Nat.zero_le _, Nat.zero_le _, rfl, rfl, by simp, rfl, HL.out.1, HL.out.2.2, HL.out.2.1⟩
    case round =>
      obtain ⟨k, l, c, A, hk, hk3, hl, rfl, rfl, rfl, hby, hgw, hly⟩ := hrel
      have Y := Lib.hid (And.intro hby (And.intro hgw hly))
      have HLK := Lib.hid hl
      have hl9 : l ≤ 302 := by omega
      clear hby hgw hly HL hl
      obtain ⟨_, p0, p1, p2, p3, p4, p5⟩ := bx_cells Y.out.2.2.bx
      simp only at p0 p1 p2 p3 p4 p5
      obtain ⟨Bk, hBk⟩ : ∃ Bk, (B1 && (tx.take k).all fun z => decide (32 ≤ z)) = Bk := ⟨_, rfl⟩
      rw [hBk]
      have HBk := Lib.hid hBk
      clear hBk
      by_cases hlt : k < nt ∧ k < 300
      · obtain ⟨hlt1, hlt2⟩ := hlt
        have hk9 : decide ((k : Int) < 300) = true := by rw [decide_eq_true_eq]; omega
        have HT := Lib.hid Y.out.2.2.rd.t
        obtain ⟨ad, had⟩ := HT.out.addr (show 0 < nt by omega)
        obtain rfl : T = some ad := had
        have hc := HT.out.cell hlt1
        have HX : Hid (tx.take (k + 1) = tx.take k ++ [tx.getD k 0]) := Lib.hid (by
          have x10 : tx.length = nt := HN.out.2
          rw [List.take_add_one, List.getElem?_eq_getElem (by omega), getD_lt (by omega)]
          rfl)
        generalize tx.getD k 0 = z at hc HX
        obtain ⟨D, hD⟩ : ∃ D, decide (32 ≤ z) = D := ⟨_, rfl⟩
        have HN2 : Hid ((B1 && (tx.take (k + 1)).all fun z => decide (32 ≤ z)) = (Bk && D)) := Lib.hid (by rw [HX.out, List.all_append, ← Bool.and_assoc, HBk.out]; simp [hD])
        obtain ⟨l1, hl1⟩ : ∃ l1, l + 1 = l1 := ⟨_, rfl⟩
        have HL1 := Lib.hid hl1
        have HL2 : Hid (l1 = (k + 1) + 2) := Lib.hid (by have := HLK.out; omega)
        have hl3 : l1 ≤ 303 := by omega
        clear hl1
        cases Bk
        · go_wp2_with (at_builtin; refine wpList_appB _ rfl _ _ rfl g A l c _ rfl (Y.out.1.below ((Below.refl _ _).alloc (Nat.le_refl _) _)) (some ⟨wr.heap.size, 0, none⟩) 1 1 l1 HL1.out [z] rfl (Sb.one wr _ _) (by have := HL1.out; omega) (by have := Y.out.2.1; simp; omega) ?_; intro A2 c2 w3 hown hg3)
          have HZ : Hid (By g w3 A2 l1 c2 ((27 :: 93 :: tx.take k) ++ [z]) ∧ g ≤ w3.heap.size ∧ Ly w b ⟨⟨5, r, m, f, ps, tx⟩, P, np, cp, some ad, nt, ct⟩ w3) := Lib.hid (by
            have hz := hg3.size
            simp at hz
            have hgw := Y.out.2.1
            exact ⟨hown, by omega, ly_grown Y.out.2.2 (grownBy_trans (World.grownBy_alloc wr _ _) hg3) (fun k hk => by have := Y.out.1.ownB k hk; have := HG.out; omega)⟩)
          clear hown hg3
          have HR : Hid ((27 :: 93 :: tx.take k) ++ [z] = 27 :: 93 :: tx.take (k + 1)) := Lib.hid (by rw [HX.out]; rfl)
          rw [HR.out] at HZ
          go_wp2_with fail
          go_roundw
          case rel => exact ⟨k + 1, l1, c2, A2, by omega, by omega, HL2.out, by go_num, by rw [HN2.out]; rfl, rfl, HZ.out.1, HZ.out.2.1, HZ.out.2.2⟩
          case measure => simp [intOf]; omega
        · cases D
          · go_wp2_with (at_builtin; refine wpList_appB _ rfl _ _ rfl g A l c _ rfl (Y.out.1.below ((Below.refl _ _).alloc (Nat.le_refl _) _)) (some ⟨wr.heap.size, 0, none⟩) 1 1 l1 HL1.out [z] rfl (Sb.one wr _ _) (by have := HL1.out; omega) (by have := Y.out.2.1; simp; omega) ?_; intro A2 c2 w3 hown hg3)
            have HZ : Hid (By g w3 A2 l1 c2 ((27 :: 93 :: tx.take k) ++ [z]) ∧ g ≤ w3.heap.size ∧ Ly w b ⟨⟨5, r, m, f, ps, tx⟩, P, np, cp, some ad, nt, ct⟩ w3) := Lib.hid (by
              have hz := hg3.size
              simp at hz
              have hgw := Y.out.2.1
              exact ⟨hown, by omega, ly_grown Y.out.2.2 (grownBy_trans (World.grownBy_alloc wr _ _) hg3) (fun k hk => by have := Y.out.1.ownB k hk; have := HG.out; omega)⟩)
            clear hown hg3
            have HR : Hid ((27 :: 93 :: tx.take k) ++ [z] = 27 :: 93 :: tx.take (k + 1)) := Lib.hid (by rw [HX.out]; rfl)
            rw [HR.out] at HZ
            go_wp2_with fail
            go_roundw
            case rel => exact ⟨k + 1, l1, c2, A2, by omega, by omega, HL2.out, by go_num, by rw [HN2.out]; rfl, rfl, HZ.out.1, HZ.out.2.1, HZ.out.2.2⟩
            case measure => simp [intOf]; omega
          · go_wp2_with (at_builtin; refine wpList_appB _ rfl _ _ rfl g A l c _ rfl (Y.out.1.below ((Below.refl _ _).alloc (Nat.le_refl _) _)) (some ⟨wr.heap.size, 0, none⟩) 1 1 l1 HL1.out [z] rfl (Sb.one wr _ _) (by have := HL1.out; omega) (by have := Y.out.2.1; simp; omega) ?_; intro A2 c2 w3 hown hg3)
            have HZ : Hid (By g w3 A2 l1 c2 ((27 :: 93 :: tx.take k) ++ [z]) ∧ g ≤ w3.heap.size ∧ Ly w b ⟨⟨5, r, m, f, ps, tx⟩, P, np, cp, some ad, nt, ct⟩ w3) := Lib.hid (by
              have hz := hg3.size
              simp at hz
              have hgw := Y.out.2.1
              exact ⟨hown, by omega, ly_grown Y.out.2.2 (grownBy_trans (World.grownBy_alloc wr _ _) hg3) (fun k hk => by have := Y.out.1.ownB k hk; have := HG.out; omega)⟩)
            clear hown hg3
            have HR : Hid ((27 :: 93 :: tx.take k) ++ [z] = 27 :: 93 :: tx.take (k + 1)) := Lib.hid (by rw [HX.out]; rfl)
            rw [HR.out] at HZ
            go_wp2_with fail
            go_roundw
            case rel => exact ⟨k + 1, l1, c2, A2, by omega, by omega, HL2.out, by go_num, by rw [HN2.out]; rfl, rfl, HZ.out.1, HZ.out.2.1, HZ.out.2.2⟩
            case measure => simp [intOf]; omega
      · have hex : Hid ((k = nt ∧ Bk = (B1 && tx.all fun z => decide (32 ≤ z))) ∨ (Bk = false ∧ B1 = false)) := Lib.hid (by
          have x10 : tx.length = nt := HN.out.2
          by_cases h9 : k = nt
          · left
            refine ⟨h9, ?_⟩
            rw [← HBk.out, List.take_of_length_le (by omega)]
          · right
            have hb1 : B1 = false := by
              rw [← HB1.out]
              exact decide_eq_false fun x => by have := x.2.2.2.2; omega
            exact ⟨by rw [← HBk.out, hb1]; rfl, hb1⟩)
        have HO : Hid (layOk ⟨5, r, m, f, ps, tx⟩ = Bk ∧ (Bk = true → tx.take k = tx)) := Lib.hid (by
          have e : layOk ⟨5, r, m, f, ps, tx⟩ = (B1 && tx.all fun z => decide (32 ≤ z)) := by rw [← HB1.out]; rfl
          rw [e]
          have x10 : tx.length = nt := HN.out.2
          rcases hex.out with ⟨h1, h2⟩ | ⟨h1, h2⟩
          · exact ⟨h2.symm, fun _ => List.take_of_length_le (by omega)⟩
          · exact ⟨by rw [h1, h2]; rfl, fun h => by rw [h1] at h; cases h⟩)
        obtain ⟨l1, hl1⟩ : ∃ l1, l + 1 = l1 := ⟨_, rfl⟩
        have HL1 := Lib.hid hl1
        have hl3 : l1 ≤ 303 := by omega
        clear hl1 hex
        have hlt3 : ¬ (k < nt) ∨ (k < nt ∧ decide ((k : Int) < 300) = false) := by
          by_cases h9 : k < nt
          · exact Or.inr ⟨h9, by rw [decide_eq_false_iff_not]; omega⟩
          · exact Or.inl h9
        clear hlt
        rcases hlt3 with h9 | ⟨h9, h10⟩
        · cases Bk
          · go_wp2_with (at_builtin; refine wpList_appB _ rfl _ _ rfl g A l c _ rfl (Y.out.1.below ((Below.refl _ _).alloc (Nat.le_refl _) _)) (some ⟨wr.heap.size, 0, none⟩) 1 1 l1 HL1.out [7] rfl (Sb.one wr _ _) (by have := HL1.out; omega) (by have := Y.out.2.1; simp; omega) ?_; intro A2 c2 w3 hown hg3)
            have HZ : Hid (By g w3 A2 l1 c2 ((27 :: 93 :: tx.take k) ++ [7]) ∧ g ≤ w3.heap.size ∧ Ly w b ⟨⟨5, r, m, f, ps, tx⟩, P, np, cp, T, nt, ct⟩ w3) := Lib.hid (by
              have hz := hg3.size
              simp at hz
              have hgw := Y.out.2.1
              exact ⟨hown, by omega, ly_grown Y.out.2.2 (grownBy_trans (World.grownBy_alloc wr _ _) hg3) (fun k hk => by have := Y.out.1.ownB k hk; have := HG.out; omega)⟩)
            clear hown hg3
            go_ret2
            exact LyPost.no HO.out.1 HZ.out.2.2.bel
          · go_wp2_with (at_builtin; refine wpList_appB _ rfl _ _ rfl g A l c _ rfl (Y.out.1.below ((Below.refl _ _).alloc (Nat.le_refl _) _)) (some ⟨wr.heap.size, 0, none⟩) 1 1 l1 HL1.out [7] rfl (Sb.one wr _ _) (by have := HL1.out; omega) (by have := Y.out.2.1; simp; omega) ?_; intro A2 c2 w3 hown hg3)
            have HZ : Hid (By g w3 A2 l1 c2 ((27 :: 93 :: tx.take k) ++ [7]) ∧ g ≤ w3.heap.size ∧ Ly w b ⟨⟨5, r, m, f, ps, tx⟩, P, np, cp, T, nt, ct⟩ w3) := Lib.hid (by
              have hz := hg3.size
              simp at hz
              have hgw := Y.out.2.1
              exact ⟨hown, by omega, ly_grown Y.out.2.2 (grownBy_trans (World.grownBy_alloc wr _ _) hg3) (fun k hk => by have := Y.out.1.ownB k hk; have := HG.out; omega)⟩)
            clear hown hg3
            have HR : Hid (Sb w3 A2 l1 (layS ⟨5, r, m, f, ps, tx⟩)) := Lib.hid (by
              have e : tx.take k = tx := by first | exact HO.out.2 rfl | exact HO.out.2 trivial | exact HO.out.2
              have h1 := HZ.out.1.sb
              rw [e] at h1
              exact h1)
            go_ret2
            exact LyPost.yes HO.out.1 HR.out HZ.out.2.2.bel
        · cases Bk
          · go_wp2_with (at_builtin; refine wpList_appB _ rfl _ _ rfl g A l c _ rfl (Y.out.1.below ((Below.refl _ _).alloc (Nat.le_refl _) _)) (some ⟨wr.heap.size, 0, none⟩) 1 1 l1 HL1.out [7] rfl (Sb.one wr _ _) (by have := HL1.out; omega) (by have := Y.out.2.1; simp; omega) ?_; intro A2 c2 w3 hown hg3)
            have HZ : Hid (By g w3 A2 l1 c2 ((27 :: 93 :: tx.take k) ++ [7]) ∧ g ≤ w3.heap.size ∧ Ly w b ⟨⟨5, r, m, f, ps, tx⟩, P, np, cp, T, nt, ct⟩ w3) := Lib.hid (by
              have hz := hg3.size
              simp at hz
              have hgw := Y.out.2.1
              exact ⟨hown, by omega, ly_grown Y.out.2.2 (grownBy_trans (World.grownBy_alloc wr _ _) hg3) (fun k hk => by have := Y.out.1.ownB k hk; have := HG.out; omega)⟩)
            clear hown hg3
            go_ret2
            exact LyPost.no HO.out.1 HZ.out.2.2.bel
          · go_wp2_with (at_builtin; refine wpList_appB _ rfl _ _ rfl g A l c _ rfl (Y.out.1.below ((Below.refl _ _).alloc (Nat.le_refl _) _)) (some ⟨wr.heap.size, 0, none⟩) 1 1 l1 HL1.out [7] rfl (Sb.one wr _ _) (by have := HL1.out; omega) (by have := Y.out.2.1; simp; omega) ?_; intro A2 c2 w3 hown hg3)
            have HZ : Hid (By g w3 A2 l1 c2 ((27 :: 93 :: tx.take k) ++ [7]) ∧ g ≤ w3.heap.size ∧ Ly w b ⟨⟨5, r, m, f, ps, tx⟩, P, np, cp, T, nt, ct⟩ w3) := Lib.hid (by
              have hz := hg3.size
              simp at hz
              have hgw := Y.out.2.1
              exact ⟨hown, by omega, ly_grown Y.out.2.2 (grownBy_trans (World.grownBy_alloc wr _ _) hg3) (fun k hk => by have := Y.out.1.ownB k hk; have := HG.out; omega)⟩)
            clear hown hg3
            have HR : Hid (Sb w3 A2 l1 (layS ⟨5, r, m, f, ps, tx⟩)) := Lib.hid (by
              have e : tx.take k = tx := by first | exact HO.out.2 rfl | exact HO.out.2 trivial | exact HO.out.2
              have h1 := HZ.out.1.sb
              rw [e] at h1
              exact h1)
            go_ret2
            exact LyPost.yes HO.out.1 HR.out HZ.out.2.2.bel
end Go.Proofs.YtappnfifhpmekaaDoor
