/-
  Part 26 of what the laws of emul want: RowsOwnM, RowsEnc.
-/
import Derived.Test.YtikhknnhmnopbaaDoorPj18
import Derived.Test.YtikhknnhmnopbaaDoorPj24
import Derived.Test.YtikhknnhmnopbaaDoorPj25
namespace Go.Proofs.YtikhknnhmnopbaaDoor
open Go.RowKit
def StC (L : List Ce) : Prop := ∀ x ∈ L, 0 ≤ x.p.st ∧ x.p.st ≤ 255
theorem rowAt_mem {c y : Nat} {L : List Ce} {x : Ce} (h : x ∈ rowAt c L y) : x ∈ L := by
 unfold rowAt at h
 exact List.mem_of_mem_drop (List.mem_of_mem_take h)
set_option maxHeartbeats 6400000 in
set_option maxRecDepth 100000 in
theorem layRows_any {w0 w : World} {A P : Option Addr} {n c0 m cp b2 c r : Nat} {zs : List Int} {ys : List Nat} {s : ScR} {S : Sc} {LL : Rws} (h : By w0.heap.size w A n c0 zs) (k : Io b2 w P m cp (toI ys)) (h0 : Below w0.heap.size w0 w) (hS : ScIn w0 s S) (hB : FitS S c r LL) (hst : StC S.cells) (hy : ∀ y ∈ ys, y < r) (hn : n ≤ 1000) (hm : m ≤ 24) :
  Calls Tryd.prog 33 #[.slice A n c0, .agg (scrA s), .slice P m cp] w (Longer w0.heap.size (zs ++ (m : Int) :: ys.flatMap (rowBy c S.cells)) (zs ++ (m : Int) :: ys.flatMap (rowBy c S.cells)).length w) := by
 have HI := Lib.hid (And.intro h (And.intro k (And.intro h0 hS)))
 have HB := Lib.hid (And.intro hB (And.intro hst hy))
 have HL := Lib.hid (show ys.length = m from by have := k.ik.len; rwa [toI_len] at this)
 have HC := Lib.hid (show s.c = (c : Int) ∧ s.n = r * c from ⟨by rw [← hS.c, hB.ec], by rw [← hS.cells.len, hB.el]; exact hB.gk.box.flen⟩)
 obtain ⟨b, hb3⟩ : ∃ b, b = w.heap.size := ⟨_, rfl⟩
 obtain ⟨w1, hw1⟩ : ∃ w1, w1 = w.alloc (.cells (scrA s) 25) := ⟨_, rfl⟩
 obtain ⟨w2, hw2⟩ : ∃ w2, w2 = w1.alloc (.cells #[.int .i64 (m : Int)] 3) := ⟨_, rfl⟩
 obtain ⟨g2, hg2⟩ : ∃ g2, g2 = w1.heap.size := ⟨_, rfl⟩
 have H1 := Lib.hid (show Sx w2 b s ∧ Below w0.heap.size w w2 ∧ KeepI w w2 ∧ By w0.heap.size w2 A n c0 zs ∧ w0.heap.size ≤ w2.heap.size ∧ Io w1.heap.size w2 (some ⟨g2, 0, none⟩) 1 1 [(m : Int)] from by
  have hbb : Below w.heap.size w w1 := by rw [hw1]; exact (Below.refl _ _).alloc (Nat.le_refl _) _
  have hbc : Below w1.heap.size w1 w2 := by rw [hw2]; exact (Below.refl _ _).alloc (Nat.le_refl _) _
  have h2 := hbb.size
  have h3 := hbc.size
  have h4 := h0.size
  have hbd : Below w.heap.size w w2 := hbb.trans (hbc.mono h2)
  exact ⟨(show Sx w1 b s from by rw [hw1, hb3]; exact Sx.new w s).below hbc, hbd.mono h4, KeepI.below hbd, h.below hbd, by omega, by rw [hw2, hg2]; exact World.ownsRow_lit w1 #[.int .i64 (m : Int)] 1 (Nat.le_refl _) (by unfold maxLen; omega) rfl⟩)
 have hc80 := hB.gk.c80
 have hc1 := hB.gk.c1
 have hr24 := hB.gk.r24
 clear h k h0 hS hB hst hy
 unfold scrA at hw1 ⊢
 go_enter Tryd.func33, Tryd.ntmps33
 go_upto_region 1 with fail
 rw [← hw1, ← hb3]
 clear hb3 hw1
 go_wp2_with fail
 rw [← hw2, ← hg2]
 clear hw2 hg2
 refine (layBytes_any H1.out.2.2.2.1 H1.out.2.2.2.2.2 H1.out.2.2.2.2.1 (fun y hy => by simp at hy; omega) (by omega) (by omega)).mono ?_
 rintro e w3 ⟨hb3, hk3, A3, c3, rfl, hy3⟩
 have H3 := Lib.hid (show Sx w3 b s ∧ Below w0.heap.size w w3 ∧ KeepI w w3 ∧ By w0.heap.size w3 A3 (n + 1) c3 (zs ++ [(m : Int)]) from ⟨hk3.rw H1.out.1 (by decide), H1.out.2.1.trans hb3, H1.out.2.2.1.trans hk3, hy3⟩)
 clear hb3 hk3 hy3 H1
 have HZ := Lib.hid (fun (w' : World) (hb : Below w0.heap.size w w') => show w0.heap.size ≤ w'.heap.size from Nat.le_trans HI.out.2.2.1.size hb.size)
 go_upto_region 3 with fail
 go_loopw [0, 18] (fun v0 v18 wr => ∃ (j : Nat) (A' : Option Addr) (n' c' : Nat), j ≤ m ∧ n' ≤ 1100 + 800 * j ∧ v18 = .int .i64 j ∧ v0 = .slice A' n' c' ∧ By w0.heap.size wr A' n' c' (zs ++ (m : Int) :: (ys.take j).flatMap (rowBy c S.cells)) ∧ Below w0.heap.size w wr ∧ KeepI w wr ∧ Sx wr b s) (fun _ v _ => m - (intOf v).toNat)
 case atStart => exact ⟨0, A3, n + 1, c3, Nat.zero_le _, by omega, rfl, rfl, H3.out.2.2.2, H3.out.2.1, H3.out.2.2.1, H3.out.1⟩
 case round =>
  obtain ⟨j, A4, n4, c4, hj, hn4, rfl, rfl, hy, hbel, hkp, hsx⟩ := hrel
  have Y := Lib.hid (And.intro hy (And.intro hbel (And.intro hkp hsx)))
  clear hy hbel hkp hsx H3
  by_cases hlt : j < m
  · have hik := (Y.out.2.2.1.io HI.out.2.1).ik
    obtain ⟨ad, hA⟩ : ∃ ad, P = some ad := by
     obtain ⟨ad, e, _⟩ := hik.at_ (by omega)
     exact ⟨ad, e⟩
    subst hA
    have hcell := hik.cell hlt
    obtain ⟨y, hy⟩ : ∃ y, y = ys.getD j 0 := ⟨_, rfl⟩
    have HYY := Lib.hid (show y < r ∧ ys.take (j + 1) = ys.take j ++ [y] ∧ (toI ys).getD j 0 = (y : Int) from by
     have hl : j < ys.length := by rw [HL.out]; exact hlt
     refine ⟨?_, ?_, ?_⟩
     · rw [hy, List.getD_eq_getElem?_getD, List.getElem?_eq_getElem hl]; exact HB.out.2.2 _ (List.getElem_mem _)
     · rw [List.take_add_one, List.getElem?_eq_getElem hl, hy, List.getD_eq_getElem?_getD, List.getElem?_eq_getElem hl]; rfl
     · unfold toI
       rw [List.getD_eq_getElem?_getD, List.getElem?_map, List.getElem?_eq_getElem hl, hy, List.getD_eq_getElem?_getD, List.getElem?_eq_getElem hl]; rfl)
    rw [HYY.out.2.2] at hcell
    clear hik hy
    have hy24 : y < 24 := by have := HYY.out.1; omega
    obtain ⟨w5, hw5⟩ : ∃ w5, w5 = wr.alloc (.cells #[.int .i64 (y : Int)] 3) := ⟨_, rfl⟩
    obtain ⟨g5, hg5⟩ : ∃ g5, g5 = wr.heap.size := ⟨_, rfl⟩
    have H5 := Lib.hid (show Sx w5 b s ∧ Below w0.heap.size w w5 ∧ KeepI w w5 ∧ By w0.heap.size w5 A4 n4 c4 (zs ++ (m : Int) :: (ys.take j).flatMap (rowBy c S.cells)) ∧ Io wr.heap.size w5 (some ⟨g5, 0, none⟩) 1 1 [(y : Int)] from by
     have hbb : Below wr.heap.size wr w5 := by rw [hw5]; exact (Below.refl _ _).alloc (Nat.le_refl _) _
     exact ⟨Y.out.2.2.2.below hbb, Y.out.2.1.trans (hbb.mono (HZ.out _ Y.out.2.1)), Y.out.2.2.1.trans (KeepI.below hbb), Y.out.1.below hbb, by rw [hw5, hg5]; exact World.ownsRow_lit wr #[.int .i64 (y : Int)] 1 (Nat.le_refl _) (by unfold maxLen; omega) rfl⟩)
    go_wp2_with fail
    rw [← hw5, ← hg5]
    clear hw5 hg5 hcell
    refine (layBytes_any H5.out.2.2.2.1 H5.out.2.2.2.2 (HZ.out _ H5.out.2.1) (fun z hz => by simp at hz; omega) (by omega) (by omega)).mono ?_
    rintro e w6 ⟨hb6, hk6, A6, c6, rfl, hy6⟩
    have H6 := Lib.hid (show Sx w6 b s ∧ Below w0.heap.size w w6 ∧ KeepI w w6 ∧ By w0.heap.size w6 A6 (n4 + 1) c6 (zs ++ (m : Int) :: (ys.take j).flatMap (rowBy c S.cells) ++ [(y : Int)]) from ⟨hk6.rw H5.out.1 (by decide), H5.out.2.1.trans hb6, H5.out.2.2.1.trans hk6, hy6⟩)
    clear hb6 hk6 hy6 H5 Y
    have PR := Lib.hid (rowOf16_any (s := s) (c := c) (r := r) (y := y) w6 HC.out.1 HC.out.2 HI.out.2.2.2.nk hc1 hc80 hr24 HYY.out.1)
    obtain ⟨a0, a1, a2, a3, a4, a5, a6, a7, a8, _⟩ := sx_cells H6.out.1
    unfold scrA at PR
    go_wp2_with fail
    refine PR.out.mono ?_
    rintro e w7 ⟨rfl, hb7⟩
    have H7 := Lib.hid (show Sx w7 b s ∧ Below w0.heap.size w w7 ∧ KeepI w w7 ∧ By w0.heap.size w7 A6 (n4 + 1) c6 (zs ++ (m : Int) :: (ys.take j).flatMap (rowBy c S.cells) ++ [(y : Int)]) from ⟨H6.out.1.below hb7, H6.out.2.1.trans (hb7.mono (HZ.out _ H6.out.2.1)), H6.out.2.2.1.trans (KeepI.below hb7), H6.out.2.2.2.below hb7⟩)
    clear hb7 H6 PR a0 a1 a2 a3 a4 a5 a6 a7 a8
    have HV := Lib.hid (fun (w' : World) (hb : Below w0.heap.size w w') => rowIn (HI.out.2.2.2.cells.below (HI.out.2.2.1.trans hb)) HI.out.2.2.2.nk HC.out.2 hc1 HYY.out.1)
    obtain ⟨RA, hRA⟩ : ∃ RA, s.A.map (·.add (y * c * 6)) = RA := ⟨_, rfl⟩
    rw [hRA] at HV ⊢
    obtain ⟨ra, hra⟩ : ∃ ra, RA = some ra := (HV.out _ H7.out.2.1).addr (by omega)
    subst hra
    clear hRA
    obtain ⟨CK, hCK⟩ : ∃ CK, s.k - y * c = CK := ⟨_, rfl⟩
    rw [hCK]
    clear hCK
    go_upto_region 7 with fail
    go_loopw [0, 30] (fun v0 v30 wr => ∃ (x : Nat) (A' : Option Addr) (n' c' : Nat), x ≤ c ∧ n' ≤ n4 + 1 + 9 * x ∧ v30 = .int .i64 x ∧ v0 = .slice A' n' c' ∧ By w0.heap.size wr A' n' c' (zs ++ (m : Int) :: (ys.take j).flatMap (rowBy c S.cells) ++ (y : Int) :: ((rowAt c S.cells y).take x).flatMap cellB) ∧ Below w0.heap.size w wr ∧ KeepI w wr ∧ Sx wr b s) (fun _ v _ => c - (intOf v).toNat)
    case atStart => exact ⟨0, A6, n4 + 1, c6, Nat.zero_le _, by omega, rfl, rfl, H7.out.2.2.2, H7.out.2.1, H7.out.2.2.1, H7.out.1⟩
    case round =>
     obtain ⟨x, A8, n8, c8, hx, hn8, rfl, rfl, hy, hbel, hkp, hsx⟩ := hrel
     have Z := Lib.hid (And.intro hy (And.intro hbel (And.intro hkp hsx)))
     clear hy hbel hkp hsx H7
     by_cases hxl : x < c
     · have hxl2 : (x : Int) < (c : Int) := by omega
       have hsix := (HV.out _ Z.out.2.1).six hxl
       obtain ⟨z, hz⟩ : ∃ z, z = cAt (rowAt c S.cells y) x := ⟨_, rfl⟩
       rw [← hz] at hsix
       obtain ⟨d0, d1, d2, d3, d4, d5⟩ := hsix
       have HZX := Lib.hid (show FitC z ∧ (0 ≤ z.p.st ∧ z.p.st ≤ 255) ∧ (rowAt c S.cells y).take (x + 1) = (rowAt c S.cells y).take x ++ [z] from by
        have hl : x < (rowAt c S.cells y).length := by rw [(HV.out _ Z.out.2.1).len]; exact hxl
        have hmem : z ∈ rowAt c S.cells y := by rw [hz]; exact cAt_mem hl
        refine ⟨?_, HB.out.2.1 z (rowAt_mem hmem), ?_⟩
        · rw [HB.out.1.el, rowAt_flat HB.out.1.gk.box HYY.out.1] at hmem
          exact HB.out.1.fit y HYY.out.1 z hmem
        · rw [List.take_add_one, getElem?_cAt hl, hz]; rfl)
       clear hz
       obtain ⟨w9, hw9⟩ : ∃ w9, w9 = wr.alloc (.cells (ceA z) 51) := ⟨_, rfl⟩
       obtain ⟨g9, hg9⟩ : ∃ g9, g9 = wr.heap.size := ⟨_, rfl⟩
       have H9 := Lib.hid (show Cb w9 g9 z ∧ Sx w9 b s ∧ Below w0.heap.size w w9 ∧ KeepI w w9 ∧ By w0.heap.size w9 A8 n8 c8 (zs ++ (m : Int) :: (ys.take j).flatMap (rowBy c S.cells) ++ (y : Int) :: ((rowAt c S.cells y).take x).flatMap cellB) from by
        have hbb : Below wr.heap.size wr w9 := by rw [hw9]; exact (Below.refl _ _).alloc (Nat.le_refl _) _
        exact ⟨by rw [hw9, hg9]; exact Cb.new wr z, Z.out.2.2.2.below hbb, Z.out.2.1.trans (hbb.mono (HZ.out _ Z.out.2.1)), Z.out.2.2.1.trans (KeepI.below hbb), Z.out.1.below hbb⟩)
       unfold ceA at hw9
       go_upto_region 9 with fail
       rw [← hw9, ← hg9]
       clear hw9 hg9 Z d0 d1 d2 d3 d4 d5
       obtain ⟨d0, d1, d2, d3, d4, d5⟩ := H9.out.1.all
       have hj24 : j < 24 := by omega
       go_wp2_with fail
       refine (layCell_any (x := z) H9.out.2.2.2.2 (HZ.out _ H9.out.2.2.1) (by omega) ⟨HZX.out.1.rune.1, by have := HZX.out.1.rune; omega⟩ ⟨HZX.out.1.fg0, by have := HZX.out.1.fg; omega⟩ ⟨HZX.out.1.bg0, by have := HZX.out.1.bg; omega⟩ HZX.out.2.1).mono ?_
       rintro e w10 ⟨hb10, hk10, A10, c10, rfl, hy10⟩
       have H10 := Lib.hid (show By w0.heap.size w10 A10 (n8 + 9) c10 (zs ++ (m : Int) :: (ys.take j).flatMap (rowBy c S.cells) ++ (y : Int) :: ((rowAt c S.cells y).take (x + 1)).flatMap cellB) ∧ Below w0.heap.size w w10 ∧ KeepI w w10 ∧ Sx w10 b s from by
        refine ⟨?_, H9.out.2.2.1.trans hb10, H9.out.2.2.2.1.trans hk10, hk10.rw H9.out.2.1 (by decide)⟩
        rw [HZX.out.2.2, List.flatMap_append]
        have e : [z].flatMap cellB = cellB z := by simp
        rw [e]
        simp only [List.append_assoc, List.cons_append] at hy10 ⊢
        exact hy10)
       clear hb10 hk10 hy10 H9 d0 d1 d2 d3 d4 d5
       go_wp2_with fail
       go_roundw
       case rel => exact ⟨x + 1, A10, n8 + 9, c10, by omega, by omega, by go_num, rfl, H10.out.1, H10.out.2.1, H10.out.2.2.1, H10.out.2.2.2⟩
       case measure => simp [intOf]; omega
     · have HFIN := Lib.hid (show By w0.heap.size wr A8 n8 c8 (zs ++ (m : Int) :: (ys.take (j + 1)).flatMap (rowBy c S.cells)) from by
        have h1 := Z.out.1
        rw [List.take_of_length_le (l := rowAt c S.cells y) (by rw [(HV.out _ Z.out.2.1).len]; omega)] at h1
        rw [HYY.out.2.1, List.flatMap_append]
        have e : [y].flatMap (rowBy c S.cells) = rowBy c S.cells y := by simp
        rw [e]
        simp only [List.append_assoc, List.cons_append] at h1 ⊢
        exact h1)
       go_wp2_with fail
       go_roundw
       case rel => exact ⟨j + 1, A8, n8, c8, by omega, by omega, by go_num, rfl, HFIN.out, Z.out.2.1, Z.out.2.2.1, Z.out.2.2.2⟩
       case measure => simp [intOf]; omega
  · obtain rfl : j = m := by omega
    have X : Longer w0.heap.size (zs ++ (j : Int) :: ys.flatMap (rowBy c S.cells)) (zs ++ (j : Int) :: ys.flatMap (rowBy c S.cells)).length w (.returned (.slice A4 n4 c4)) wr := by
     have h1 := Y.out.1
     rw [List.take_of_length_le (by rw [HL.out]; exact Nat.le_refl _)] at h1
     have hl := h1.len
     rw [hl]
     exact ⟨Y.out.2.1, Y.out.2.2.1, A4, c4, rfl, h1⟩
    go_wp2_with fail
    go_ret
    exact X
open Go.RowKit
structure Got (w : World) (s : ScR) (S : Sc) : Prop where
 sc : ScIn w s S
 pos : PosC S.cells
 mo : 0 ≤ S.mouse
 n : s.n ≤ 60000
 m : s.m ≤ 60000
theorem Got.below {w w' : World} {s : ScR} {S : Sc} (h : Got w s S) (hb : Below w.heap.size w w') : Got w' s S := ⟨h.sc.below hb, h.pos, h.mo, h.n, h.m⟩
theorem fit_xy {S : Sc} (h : fitsS S = true) : (0 ≤ S.x ∧ S.x ≤ 255) ∧ (0 ≤ S.y ∧ S.y ≤ 255) := by
 unfold fitsS rightSc at h
 simp only [Bool.and_eq_true, decide_eq_true_eq] at h
 obtain ⟨⟨⟨⟨⟨⟨⟨⟨⟨h1, h2⟩, h3⟩, h4⟩, h5⟩, h6⟩, h7⟩, h8⟩, h9⟩, h10⟩ := h
 obtain ⟨hz, _⟩ := (gridMay_iff _ _ _).1 h1
 unfold sizeOk at hz
 have := of_decide_eq_true hz
 omega
def EncEnd (p : List Int × Int) (w : World) (e : Ending) (w' : World) : Prop := Below w.heap.size w w' ∧ ∃ A c, e = .returned (.tuple #[.slice A p.1.length c, .int .i64 p.2]) ∧ By w.heap.size w' A p.1.length c p.1
theorem By.none (base : Nat) (w : World) : By base w none 0 0 [] := ⟨rfl, Nat.le_refl _, by unfold maxLen; omega, World.ownsRow_nil _ _ _ _⟩
set_option maxHeartbeats 3200000 in
set_option maxRecDepth 100000 in
theorem rFull_any {s : ScR} {S : Sc} {w : World} (h : Got w s S) : Calls Tryd.prog 12 #[.agg (scrA s)] w (EncEnd (fullS S) w) := by
 have HI := Lib.hid h
 obtain ⟨b, hb⟩ : ∃ b, b = w.heap.size := ⟨_, rfl⟩
 obtain ⟨w1, hw1⟩ : ∃ w1, w1 = w.alloc (.cells (scrA s) 25) := ⟨_, rfl⟩
 have H1 := Lib.hid (show Sx w1 b s ∧ Below w.heap.size w w1 from by
  rw [hw1, hb]
  exact ⟨Sx.new w s, (Below.refl _ _).alloc (Nat.le_refl _) _⟩)
 have PF := Lib.hid (rFits_any (h.sc.below H1.out.2) h.mo h.n h.m)
 obtain ⟨a0, a1, a2, a3, a4, a5, a6, a7, a8, _⟩ := sx_cells H1.out.1
 clear h
 unfold scrA at hw1 PF ⊢
 go_enter Tryd.func12, Tryd.ntmps12
 go_upto_region 1 with fail
 rw [← hw1, ← hb]
 clear hw1 hb
 go_wp2_with fail
 refine PF.out.mono ?_
 rintro e w2 ⟨rfl, hb2⟩
 have H2 := Lib.hid (show Sx w2 b s ∧ Below w.heap.size w w2 from ⟨H1.out.1.below hb2, H1.out.2.trans (hb2.mono H1.out.2.size)⟩)
 clear hb2 H1 PF a0 a1 a2 a3 a4 a5 a6 a7 a8
 cases hF : fitsS S
 · have X : EncEnd (fullS S) w (.returned (.tuple #[.slice none 0 0, .int .i64 1])) w2 := by
    have e : fullS S = ([], 1) := by unfold fullS; rw [if_neg (by rw [hF]; simp)]
    rw [e]
    exact ⟨H2.out.2, none, 0, rfl, By.none _ _⟩
   clear hF
   go_wp2_with fail
   go_ret2
   exact X
 · obtain ⟨c, r, LL, hB⟩ := fits_of hF HI.out.pos
   have HB := Lib.hid hB
   have HF := Lib.hid hF
   have hz : sizeOk S.c S.r = true := fit_size hB
   obtain ⟨a0, a1, a2, a3, a4, a5, a6, a7, a8, _⟩ := sx_cells H2.out.1
   have PB := Lib.hid (rBlank_any (w := w2) s.c s.r)
   have HZ := Lib.hid (show sizeOk s.c s.r = true ∧ s.c.toNat = c ∧ s.r.toNat = r from ⟨by rw [← HI.out.sc.c, ← HI.out.sc.r]; exact hz, by rw [← HI.out.sc.c, hB.ec]; rfl, by rw [← HI.out.sc.r, hB.er]; rfl⟩)
   clear hB hF hz
   go_wp2_with fail
   refine PB.out.mono ?_
   rintro e w3 ⟨hb3, ⟨_, s2, rfl, hS2⟩ | ⟨hz, _⟩⟩
   rotate_left
   · exact absurd hz (by rw [HZ.out.1]; simp)
   rw [HZ.out.2.1, HZ.out.2.2] at hS2
   obtain ⟨b4, hb4⟩ : ∃ b4, b4 = w3.heap.size := ⟨_, rfl⟩
   obtain ⟨w4, hw4⟩ : ∃ w4, w4 = w3.alloc (.cells (scrA s2) 25) := ⟨_, rfl⟩
   have H4 := Lib.hid (show Sx w4 b s ∧ Sx w4 b4 s2 ∧ Below w.heap.size w w4 ∧ ScIn w4 s2 (blS c r) from by
    have hb : Below w3.heap.size w3 w4 := by rw [hw4]; exact (Below.refl _ _).alloc (Nat.le_refl _) _
    have h24 : Below w2.heap.size w2 w4 := hb3.trans (hb.mono hb3.size)
    exact ⟨H2.out.1.below h24, by rw [hw4, hb4]; exact Sx.new w3 s2, H2.out.2.trans (h24.mono H2.out.2.size), hS2.sc.below hb⟩)
   clear hb3 hS2 H2 PB a0 a1 a2 a3 a4 a5 a6 a7 a8
   unfold scrA at hw4 ⊢
   go_upto_region 4 with fail
   rw [← hw4, ← hb4]
   clear hw4 hb4
   have PD := Lib.hid (rDiff_any (fl := 4) H4.out.2.2.2 (HI.out.sc.below H4.out.2.2.1) (bl_fit HB.out.gk.c1 HB.out.gk.c80 HB.out.gk.r1 HB.out.gk.r24) HB.out (fit_xy HF.out).1 (fit_xy HF.out).2 (.inr rfl))
   obtain ⟨a0, a1, a2, a3, a4, a5, a6, a7, a8, _⟩ := sx_cells H4.out.1
   obtain ⟨d0, d1, d2, d3, d4, d5, d6, d7, d8, _⟩ := sx_cells H4.out.2.1
   unfold scrA at PD
   go_wp2_with fail
   refine PD.out.mono ?_
   rintro e w5 ⟨hb5, A, cc, rfl, hy⟩
   have X : EncEnd (fullS S) w (.returned (.tuple #[.slice A (diffS (blS c r) S 4).length cc, .int .i64 0])) w5 := by
    have e : fullS S = (diffS (blS c r) S 4, 0) := by
     unfold fullS
     rw [if_pos HF.out, HB.out.ec, HB.out.er]
     rfl
    rw [e]
    exact ⟨H4.out.2.2.1.trans (hb5.mono H4.out.2.2.1.size), A, cc, rfl, hy.lower H4.out.2.2.1.size⟩
   clear hb5 hy
   go_wp2_with fail
   go_ret2
   exact X
set_option maxHeartbeats 3200000 in
set_option maxRecDepth 100000 in
theorem rEncode_any {sa sb : ScR} {a b : Sc} {w : World} (h : Got w sa a) (k : Got w sb b) : Calls Tryd.prog 10 #[.agg (scrA sa), .agg (scrA sb)] w (EncEnd (encR a b) w) := by
 have HI := Lib.hid (And.intro h k)
 obtain ⟨b3, hb3⟩ : ∃ b3, b3 = w.heap.size := ⟨_, rfl⟩
 obtain ⟨w1, hw1⟩ : ∃ w1, w1 = (w.alloc (.cells (scrA sa) 25)).alloc (.cells (scrA sb) 25) := ⟨_, rfl⟩
 have H1 := Lib.hid (show S2 w w1 b3 sa sb from by
  have h1 := Sx.new w sa
  have h2 := Sx.new (w.alloc (.cells (scrA sa) 25)) sb
  rw [World.size_alloc] at h2
  rw [hb3, hw1]
  exact ⟨h1.below ((Below.refl _ _).alloc (Nat.le_refl _) _), h2, ((Below.refl _ _).alloc (Nat.le_refl _) _).alloc (by simp) _, Nat.le_refl _⟩)
 have PF := Lib.hid (rFits_any (h.sc.below H1.out.bel) h.mo h.n h.m)
 obtain ⟨a0, a1, a2, a3, a4, a5, a6, a7, a8, _⟩ := sx_cells H1.out.b1
 clear h k
 unfold scrA at hw1 PF ⊢
 go_enter Tryd.func10, Tryd.ntmps10
 go_upto_region 1 with fail
 rw [← hw1, ← hb3]
 clear hw1 hb3
 go_wp2_with fail
 refine PF.out.mono ?_
 rintro e w2 ⟨rfl, hb2⟩
 have H2 := Lib.hid (H1.out.on hb2)
 clear hb2 H1 PF a0 a1 a2 a3 a4 a5 a6 a7 a8
 cases hFa : fitsS a
 · have X : EncEnd (encR a b) w (.returned (.tuple #[.slice none 0 0, .int .i64 1])) w2 := by
    have e : encR a b = ([], 1) := by unfold encR; rw [if_neg (by rw [hFa]; simp)]
    rw [e]
    exact ⟨H2.out.bel, none, 0, rfl, By.none _ _⟩
   clear hFa
   go_wp2_with fail
   go_ret2
   exact X
 have HFa := Lib.hid hFa
 clear hFa
 have PF := Lib.hid (rFits_any (HI.out.2.sc.below H2.out.bel) HI.out.2.mo HI.out.2.n HI.out.2.m)
 obtain ⟨d0, d1, d2, d3, d4, d5, d6, d7, d8, _⟩ := sx_cells H2.out.b2
 unfold scrA at PF
 go_wp2_with fail
 refine PF.out.mono ?_
 rintro e w3 ⟨rfl, hb3⟩
 have H3 := Lib.hid (H2.out.on hb3)
 clear hb3 H2 PF d0 d1 d2 d3 d4 d5 d6 d7 d8
 cases hFb : fitsS b
 · have X : EncEnd (encR a b) w (.returned (.tuple #[.slice none 0 0, .int .i64 1])) w3 := by
    have e : encR a b = ([], 1) := by unfold encR; rw [if_neg (by rw [hFb]; simp)]
    rw [e]
    exact ⟨H3.out.bel, none, 0, rfl, By.none _ _⟩
   clear hFb
   go_wp2_with fail
   go_ret2
   exact X
 have HFb := Lib.hid hFb
 clear hFb
 obtain ⟨a0, a1, a2, a3, a4, a5, a6, a7, a8, _⟩ := sx_cells H3.out.b1
 obtain ⟨d0, d1, d2, d3, d4, d5, d6, d7, d8, _⟩ := sx_cells H3.out.b2
 have PU := Lib.hid (rFull_any (HI.out.2.below H3.out.bel))
 by_cases hsz : sa.c = sb.c ∧ sa.r = sb.r
 · have q0 : (sa.c != sb.c) = false := by simpa using hsz.1
   have q1 : (sa.r != sb.r) = false := by simpa using hsz.2
   have hszs : a.c = b.c ∧ a.r = b.r := by rw [HI.out.1.sc.c, HI.out.2.sc.c, HI.out.1.sc.r, HI.out.2.sc.r]; exact hsz
   have HSZ := Lib.hid hszs
   obtain ⟨c', r', BL, hA⟩ := fits_of HFa.out HI.out.1.pos
   obtain ⟨c, r, LL, hB⟩ := fits_of HFb.out HI.out.2.pos
   have e1 : c' = c := by have := hA.ec; have := hB.ec; omega
   have e2 : r' = r := by have := hA.er; have := hB.er; omega
   subst e1 e2
   have PD := Lib.hid (rDiff_any (fl := 0) (HI.out.1.sc.below H3.out.bel) (HI.out.2.sc.below H3.out.bel) hA hB (fit_xy HFb.out).1 (fit_xy HFb.out).2 (.inl rfl))
   unfold scrA at PD
   clear hsz hszs hA hB PU
   go_wp2_with fail
   refine PD.out.mono ?_
   rintro e w5 ⟨hb5, A, cc, rfl, hy⟩
   have X : EncEnd (encR a b) w (.returned (.tuple #[.slice A (diffS a b 0).length cc, .int .i64 0])) w5 := by
    have e : encR a b = (diffS a b 0, 0) := by
     unfold encR
     rw [if_pos ⟨HFa.out, HFb.out⟩, if_pos HSZ.out]
    rw [e]
    exact ⟨H3.out.bel.trans (hb5.mono H3.out.bel.size), A, cc, rfl, hy.lower H3.out.bel.size⟩
   clear hb5 hy
   go_wp2_with fail
   go_ret2
   exact X
 · have HSZ := Lib.hid (show ¬ (a.c = b.c ∧ a.r = b.r) from by rw [HI.out.1.sc.c, HI.out.2.sc.c, HI.out.1.sc.r, HI.out.2.sc.r]; exact hsz)
   unfold scrA at PU
   have hX : ∀ e w5, EncEnd (fullS b) w3 e w5 → EncEnd (encR a b) w e w5 := fun e w5 hh => by
    have e1 : encR a b = fullS b := by unfold encR; rw [if_pos ⟨HFa.out, HFb.out⟩, if_neg HSZ.out]
    rw [e1]
    obtain ⟨h1, A, cc, h2, h3⟩ := hh
    exact ⟨H3.out.bel.trans (h1.mono H3.out.bel.size), A, cc, h2, h3.lower H3.out.bel.size⟩
   have HX := Lib.hid hX
   clear hX
   by_cases hcc : sa.c = sb.c
   · have q0 : (sa.c != sb.c) = false := by simpa using hcc
     have q1 : (sa.r != sb.r) = true := by simpa using fun e => hsz ⟨hcc, e⟩
     clear hsz hcc
     go_wp2_with fail
     refine PU.out.mono ?_
     rintro e w5 hh
     have h2 := HX.out e w5 hh
     obtain ⟨_, A, cc, rfl, _⟩ := hh
     clear PU
     have H2 := Lib.hid h2
     clear h2
     go_wp2_with fail
     go_ret2
     exact H2.out
   · have q0 : (sa.c != sb.c) = true := by simpa using hcc
     clear hsz hcc
     go_wp2_with fail
     refine PU.out.mono ?_
     rintro e w5 hh
     have h2 := HX.out e w5 hh
     obtain ⟨_, A, cc, rfl, _⟩ := hh
     clear PU
     have H2 := Lib.hid h2
     clear h2
     go_wp2_with fail
     go_ret2
     exact H2.out
end Go.Proofs.YtikhknnhmnopbaaDoor
