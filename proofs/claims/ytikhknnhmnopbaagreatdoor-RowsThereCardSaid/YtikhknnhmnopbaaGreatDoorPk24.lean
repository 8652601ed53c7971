/-
  Part 24 of what the laws of emul want: RowsOwnM, RowsEnc, RowsOwnD.
-/
import Derived.Test.YtikhknnhmnopbaaGreatDoorPk17
import Derived.Test.YtikhknnhmnopbaaGreatDoorPk23
namespace Go.Proofs.YtikhknnhmnopbaaGreatDoor
open Go.RowKit
def StC (L : List Ce) : Prop := ∀ x ∈ L, 0 ≤ x.p.st ∧ x.p.st ≤ 255
theorem rowAt_mem {c y : Nat} {L : List Ce} {x : Ce} (h : x ∈ rowAt c L y) : x ∈ L := by
 unfold rowAt at h
 exact List.mem_of_mem_drop (List.mem_of_mem_take h)
set_option maxHeartbeats 6400000 in
set_option maxRecDepth 100000 in
theorem layRows_any {w0 w : World} {A P : Option Addr} {n c0 m cp b2 c r : Nat} {zs : List Int} {ys : List Nat} {s : ScR} {S : Sc} {LL : Rws} (h : By w0.heap.size w A n c0 zs) (k : Io b2 w P m cp (toI ys)) (h0 : Below w0.heap.size w0 w) (hS : ScIn w0 s S) (hB : FitS S c r LL) (hst : StC S.cells) (hy : ∀ y ∈ ys, y < r) (hn : n ≤ 1000) (hm : m ≤ 24) :
  Calls Tryz.prog 48 #[.slice A n c0, .agg (scrA s), .slice P m cp] w (Longer w0.heap.size (zs ++ (m : Int) :: ys.flatMap (rowBy c S.cells)) (zs ++ (m : Int) :: ys.flatMap (rowBy c S.cells)).length w) := by
 have HI := Lib.hid (And.intro h (And.intro k (And.intro h0 hS)))
 have HB := Lib.hid (And.intro hB (And.intro hst hy))
 have HL := Lib.hid (show ys.length = m from by have := k.ik.len; rwa [toI_len] at this)
 have HC := Lib.hid (show s.c = (c : Int) ∧ s.n = r * c from ⟨by rw [← hS.c, hB.ec], by rw [← hS.cells.len, hB.el]; exact hB.gk.box.flen⟩)
 obtain ⟨b, hb3⟩ : ∃ b, b = w.heap.size := ⟨_, rfl⟩
 obtain ⟨w1, hw1⟩ : ∃ w1, w1 = w.alloc (.cells (scrA s) 25) := ⟨_, rfl⟩
 obtain ⟨w2, hw2⟩ : ∃ w2, w2 = w1.alloc (.cells #[.int .i64 (m : Int)] 3) := ⟨_, rfl⟩
 obtain ⟨g2, hg2⟩ : ∃ g2, g2 = w1.heap.size := ⟨_, rfl⟩
 have H1 := Lib.hid (show Sx w2 b s ∧ Below w0.heap.size w w2 ∧ KeepI w w2 ∧ By w0.heap.size w2 A n c0 zs ∧ w0.heap.size ≤ w2.heap.size ∧ Io w1.heap.size w2 (some ⟨g2, 0, none⟩) 1 1 [(m : Int)] from by
  have hbb : Below w.heap.size w w1 := by rw [hw1]; exact (Below.refl _ _).alloc (Nat.le_refl _) _
  have hbc : Below w1.heap.size w1 w2 := by rw [hw2]; exact (Below.refl _ _).alloc (Nat.le_refl _) _
  have h2 := hbb.size
  have h3 := hbc.size
  have h4 := h0.size
  have hbd : Below w.heap.size w w2 := hbb.trans (hbc.mono h2)
  exact ⟨(show Sx w1 b s from by rw [hw1, hb3]; exact Sx.new w s).below hbc, hbd.mono h4, KeepI.below hbd, h.below hbd, by omega, by rw [hw2, hg2]; exact World.ownsRow_lit w1 #[.int .i64 (m : Int)] 1 (Nat.le_refl _) (by unfold maxLen; omega) rfl⟩)
 have hc80 := hB.gk.c80
 have hc1 := hB.gk.c1
 have hr24 := hB.gk.r24
 clear h k h0 hS hB hst hy
 unfold scrA at hw1 ⊢
 go_enter Tryz.func48, Tryz.ntmps48
 go_upto_region 1 with fail
 rw [← hw1, ← hb3]
 clear hb3 hw1
 go_wp2_with fail
 rw [← hw2, ← hg2]
 clear hw2 hg2
 refine (layBytes_any H1.out.2.2.2.1 H1.out.2.2.2.2.2 H1.out.2.2.2.2.1 (fun y hy => by simp at hy; omega) (by omega) (by omega)).mono ?_
 rintro e w3 ⟨hb3, hk3, A3, c3, rfl, hy3⟩
 have H3 := Lib.hid (show Sx w3 b s ∧ Below w0.heap.size w w3 ∧ KeepI w w3 ∧ By w0.heap.size w3 A3 (n + 1) c3 (zs ++ [(m : Int)]) from ⟨hk3.rw H1.out.1 (by decide), H1.out.2.1.trans hb3, H1.out.2.2.1.trans hk3, hy3⟩)
 clear hb3 hk3 hy3 H1
 have HZ := Lib.hid (fun (w' : World) (hb : Below w0.heap.size w w') => show w0.heap.size ≤ w'.heap.size from Nat.le_trans HI.out.2.2.1.size hb.size)
 go_upto_region 3 with fail
 go_loopw [0, 18] (fun v0 v18 wr => ∃ (j : Nat) (A' : Option Addr) (n' c' : Nat), j ≤ m ∧ n' ≤ 1100 + 800 * j ∧ v18 = .int .i64 j ∧ v0 = .slice A' n' c' ∧ By w0.heap.size wr A' n' c' (zs ++ (m : Int) :: (ys.take j).flatMap (rowBy c S.cells)) ∧ Below w0.heap.size w wr ∧ KeepI w wr ∧ Sx wr b s) (fun _ v _ => m - (intOf v).toNat)
 case atStart => exact ⟨0, A3, n + 1, c3, Nat.zero_le _, by omega, rfl, rfl, H3.out.2.2.2, H3.out.2.1, H3.out.2.2.1, H3.out.1⟩
 case round =>
  obtain ⟨j, A4, n4, c4, hj, hn4, rfl, rfl, hy, hbel, hkp, hsx⟩ := hrel
  have Y := Lib.hid (And.intro hy (And.intro hbel (And.intro hkp hsx)))
  clear hy hbel hkp hsx H3
  by_cases hlt : j < m
  · have hik := (Y.out.2.2.1.io HI.out.2.1).ik
    obtain ⟨ad, hA⟩ : ∃ ad, P = some ad := by
     obtain ⟨ad, e, _⟩ := hik.at_ (by omega)
     exact ⟨ad, e⟩
    subst hA
    have hcell := hik.cell hlt
    obtain ⟨y, hy⟩ : ∃ y, y = ys.getD j 0 := ⟨_, rfl⟩
    have HYY := Lib.hid (show y < r ∧ ys.take (j + 1) = ys.take j ++ [y] ∧ (toI ys).getD j 0 = (y : Int) from by
     have hl : j < ys.length := by rw [HL.out]; exact hlt
     refine ⟨?_, ?_, ?_⟩
     · rw [hy, List.getD_eq_getElem?_getD, List.getElem?_eq_getElem hl]; exact HB.out.2.2 _ (List.getElem_mem _)
     · rw [List.take_add_one, List.getElem?_eq_getElem hl, hy, List.getD_eq_getElem?_getD, List.getElem?_eq_getElem hl]; rfl
     · unfold toI
       rw [List.getD_eq_getElem?_getD, List.getElem?_map, List.getElem?_eq_getElem hl, hy, List.getD_eq_getElem?_getD, List.getElem?_eq_getElem hl]; rfl)
    rw [HYY.out.2.2] at hcell
    clear hik hy
    have hy24 : y < 24 := by have := HYY.out.1; omega
    obtain ⟨w5, hw5⟩ : ∃ w5, w5 = wr.alloc (.cells #[.int .i64 (y : Int)] 3) := ⟨_, rfl⟩
    obtain ⟨g5, hg5⟩ : ∃ g5, g5 = wr.heap.size := ⟨_, rfl⟩
    have H5 := Lib.hid (show Sx w5 b s ∧ Below w0.heap.size w w5 ∧ KeepI w w5 ∧ By w0.heap.size w5 A4 n4 c4 (zs ++ (m : Int) :: (ys.take j).flatMap (rowBy c S.cells)) ∧ Io wr.heap.size w5 (some ⟨g5, 0, none⟩) 1 1 [(y : Int)] from by
     have hbb : Below wr.heap.size wr w5 := by rw [hw5]; exact (Below.refl _ _).alloc (Nat.le_refl _) _
     exact ⟨Y.out.2.2.2.below hbb, Y.out.2.1.trans (hbb.mono (HZ.out _ Y.out.2.1)), Y.out.2.2.1.trans (KeepI.below hbb), Y.out.1.below hbb, by rw [hw5, hg5]; exact World.ownsRow_lit wr #[.int .i64 (y : Int)] 1 (Nat.le_refl _) (by unfold maxLen; omega) rfl⟩)
    go_wp2_with fail
    rw [← hw5, ← hg5]
    clear hw5 hg5 hcell
    refine (layBytes_any H5.out.2.2.2.1 H5.out.2.2.2.2 (HZ.out _ H5.out.2.1) (fun z hz => by simp at hz; omega) (by omega) (by omega)).mono ?_
    rintro e w6 ⟨hb6, hk6, A6, c6, rfl, hy6⟩
    have H6 := Lib.hid (show Sx w6 b s ∧ Below w0.heap.size w w6 ∧ KeepI w w6 ∧ By w0.heap.size w6 A6 (n4 + 1) c6 (zs ++ (m : Int) :: (ys.take j).flatMap (rowBy c S.cells) ++ [(y : Int)]) from ⟨hk6.rw H5.out.1 (by decide), H5.out.2.1.trans hb6, H5.out.2.2.1.trans hk6, hy6⟩)
    clear hb6 hk6 hy6 H5 Y
    have PR := Lib.hid (rowOf16_any (s := s) (c := c) (r := r) (y := y) w6 HC.out.1 HC.out.2 HI.out.2.2.2.nk hc1 hc80 hr24 HYY.out.1)
    obtain ⟨a0, a1, a2, a3, a4, a5, a6, a7, a8, _⟩ := sx_cells H6.out.1
    unfold scrA at PR
    go_wp2_with fail
    refine PR.out.mono ?_
    rintro e w7 ⟨rfl, hb7⟩
    have H7 := Lib.hid (show Sx w7 b s ∧ Below w0.heap.size w w7 ∧ KeepI w w7 ∧ By w0.heap.size w7 A6 (n4 + 1) c6 (zs ++ (m : Int) :: (ys.take j).flatMap (rowBy c S.cells) ++ [(y : Int)]) from ⟨H6.out.1.below hb7, H6.out.2.1.trans (hb7.mono (HZ.out _ H6.out.2.1)), H6.out.2.2.1.trans (KeepI.below hb7), H6.out.2.2.2.below hb7⟩)
    clear hb7 H6 PR a0 a1 a2 a3 a4 a5 a6 a7 a8
    have HV := Lib.hid (fun (w' : World) (hb : Below w0.heap.size w w') => rowIn (HI.out.2.2.2.cells.below (HI.out.2.2.1.trans hb)) HI.out.2.2.2.nk HC.out.2 hc1 HYY.out.1)
    obtain ⟨RA, hRA⟩ : ∃ RA, s.A.map (·.add (y * c * 6)) = RA := ⟨_, rfl⟩
    rw [hRA] at HV ⊢
    obtain ⟨ra, hra⟩ : ∃ ra, RA = some ra := (HV.out _ H7.out.2.1).addr (by omega)
    subst hra
    clear hRA
    obtain ⟨CK, hCK⟩ : ∃ CK, s.k - y * c = CK := ⟨_, rfl⟩
    rw [hCK]
    clear hCK
    go_upto_region 7 with fail
    go_loopw [0, 30] (fun v0 v30 wr => ∃ (x : Nat) (A' : Option Addr) (n' c' : Nat), x ≤ c ∧ n' ≤ n4 + 1 + 9 * x ∧ v30 = .int .i64 x ∧ v0 = .slice A' n' c' ∧ By w0.heap.size wr A' n' c' (zs ++ (m : Int) :: (ys.take j).flatMap (rowBy c S.cells) ++ (y : Int) :: ((rowAt c S.cells y).take x).flatMap cellB) ∧ Below w0.heap.size w wr ∧ KeepI w wr ∧ Sx wr b s) (fun _ v _ => c - (intOf v).toNat)
    case atStart => exact ⟨0, A6, n4 + 1, c6, Nat.zero_le _, by omega, rfl, rfl, H7.out.2.2.2, H7.out.2.1, H7.out.2.2.1, H7.out.1⟩
    case round =>
     obtain ⟨x, A8, n8, c8, hx, hn8, rfl, rfl, hy, hbel, hkp, hsx⟩ := hrel
     have Z := Lib.hid (And.intro hy (And.intro hbel (And.intro hkp hsx)))
     clear hy hbel hkp hsx H7
     by_cases hxl : x < c
     · have hxl2 : (x : Int) < (c : Int) := by omega
       have hsix := (HV.out _ Z.out.2.1).six hxl
       obtain ⟨z, hz⟩ : ∃ z, z = cAt (rowAt c S.cells y) x := ⟨_, rfl⟩
       rw [← hz] at hsix
       obtain ⟨d0, d1, d2, d3, d4, d5⟩ := hsix
       have HZX := Lib.hid (show FitC z ∧ (0 ≤ z.p.st ∧ z.p.st ≤ 255) ∧ (rowAt c S.cells y).take (x + 1) = (rowAt c S.cells y).take x ++ [z] from by
        have hl : x < (rowAt c S.cells y).length := by rw [(HV.out _ Z.out.2.1).len]; exact hxl
        have hmem : z ∈ rowAt c S.cells y := by rw [hz]; exact cAt_mem hl
        refine ⟨?_, HB.out.2.1 z (rowAt_mem hmem), ?_⟩
        · rw [HB.out.1.el, rowAt_flat HB.out.1.gk.box HYY.out.1] at hmem
          exact HB.out.1.fit y HYY.out.1 z hmem
        · rw [List.take_add_one, getElem?_cAt hl, hz]; rfl)
       clear hz
       obtain ⟨w9, hw9⟩ : ∃ w9, w9 = wr.alloc (.cells (ceA z) 43) := ⟨_, rfl⟩
       obtain ⟨g9, hg9⟩ : ∃ g9, g9 = wr.heap.size := ⟨_, rfl⟩
       have H9 := Lib.hid (show Cb w9 g9 z ∧ Sx w9 b s ∧ Below w0.heap.size w w9 ∧ KeepI w w9 ∧ By w0.heap.size w9 A8 n8 c8 (zs ++ (m : Int) :: (ys.take j).flatMap (rowBy c S.cells) ++ (y : Int) :: ((rowAt c S.cells y).take x).flatMap cellB) from by
        have hbb : Below wr.heap.size wr w9 := by rw [hw9]; exact (Below.refl _ _).alloc (Nat.le_refl _) _
        exact ⟨by rw [hw9, hg9]; exact Cb.new wr z, Z.out.2.2.2.below hbb, Z.out.2.1.trans (hbb.mono (HZ.out _ Z.out.2.1)), Z.out.2.2.1.trans (KeepI.below hbb), Z.out.1.below hbb⟩)
       unfold ceA at hw9
       go_upto_region 9 with fail
       rw [← hw9, ← hg9]
       clear hw9 hg9 Z d0 d1 d2 d3 d4 d5
       obtain ⟨d0, d1, d2, d3, d4, d5⟩ := H9.out.1.all
       have hj24 : j < 24 := by omega
       go_wp2_with fail
       refine (layCell_any (x := z) H9.out.2.2.2.2 (HZ.out _ H9.out.2.2.1) (by omega) ⟨HZX.out.1.rune.1, by have := HZX.out.1.rune; omega⟩ ⟨HZX.out.1.fg0, by have := HZX.out.1.fg; omega⟩ ⟨HZX.out.1.bg0, by have := HZX.out.1.bg; omega⟩ HZX.out.2.1).mono ?_
       rintro e w10 ⟨hb10, hk10, A10, c10, rfl, hy10⟩
       have H10 := Lib.hid (show By w0.heap.size w10 A10 (n8 + 9) c10 (zs ++ (m : Int) :: (ys.take j).flatMap (rowBy c S.cells) ++ (y : Int) :: ((rowAt c S.cells y).take (x + 1)).flatMap cellB) ∧ Below w0.heap.size w w10 ∧ KeepI w w10 ∧ Sx w10 b s from by
        refine ⟨?_, H9.out.2.2.1.trans hb10, H9.out.2.2.2.1.trans hk10, hk10.rw H9.out.2.1 (by decide)⟩
        rw [HZX.out.2.2, List.flatMap_append]
        have e : [z].flatMap cellB = cellB z := by simp
        rw [e]
        simp only [List.append_assoc, List.cons_append] at hy10 ⊢
        exact hy10)
       clear hb10 hk10 hy10 H9 d0 d1 d2 d3 d4 d5
       go_wp2_with fail
       go_roundw
       case rel => exact ⟨x + 1, A10, n8 + 9, c10, by omega, by omega, by go_num, rfl, H10.out.1, H10.out.2.1, H10.out.2.2.1, H10.out.2.2.2⟩
       case measure => simp [intOf]; omega
     · have HFIN := Lib.hid (show By w0.heap.size wr A8 n8 c8 (zs ++ (m : Int) :: (ys.take (j + 1)).flatMap (rowBy c S.cells)) from by
        have h1 := Z.out.1
        rw [List.take_of_length_le (l := rowAt c S.cells y) (by rw [(HV.out _ Z.out.2.1).len]; omega)] at h1
        rw [HYY.out.2.1, List.flatMap_append]
        have e : [y].flatMap (rowBy c S.cells) = rowBy c S.cells y := by simp
        rw [e]
        simp only [List.append_assoc, List.cons_append] at h1 ⊢
        exact h1)
       go_wp2_with fail
       go_roundw
       case rel => exact ⟨j + 1, A8, n8, c8, by omega, by omega, by go_num, rfl, HFIN.out, Z.out.2.1, Z.out.2.2.1, Z.out.2.2.2⟩
       case measure => simp [intOf]; omega
  · obtain rfl : j = m := by omega
    have X : Longer w0.heap.size (zs ++ (j : Int) :: ys.flatMap (rowBy c S.cells)) (zs ++ (j : Int) :: ys.flatMap (rowBy c S.cells)).length w (.returned (.slice A4 n4 c4)) wr := by
     have h1 := Y.out.1
     rw [List.take_of_length_le (by rw [HL.out]; exact Nat.le_refl _)] at h1
     have hl := h1.len
     rw [hl]
     exact ⟨Y.out.2.1, Y.out.2.2.1, A4, c4, rfl, h1⟩
    go_wp2_with fail
    go_ret
    exact X
open Go.RowKit
structure Got (w : World) (s : ScR) (S : Sc) : Prop where
 sc : ScIn w s S
 pos : PosC S.cells
 mo : 0 ≤ S.mouse
 n : s.n ≤ 60000
 m : s.m ≤ 60000
theorem Got.below {w w' : World} {s : ScR} {S : Sc} (h : Got w s S) (hb : Below w.heap.size w w') : Got w' s S := ⟨h.sc.below hb, h.pos, h.mo, h.n, h.m⟩
theorem fit_xy {S : Sc} (h : fitsS S = true) : (0 ≤ S.x ∧ S.x ≤ 255) ∧ (0 ≤ S.y ∧ S.y ≤ 255) := by
 unfold fitsS rightSc at h
 simp only [Bool.and_eq_true, decide_eq_true_eq] at h
 obtain ⟨⟨⟨⟨⟨⟨⟨⟨⟨h1, h2⟩, h3⟩, h4⟩, h5⟩, h6⟩, h7⟩, h8⟩, h9⟩, h10⟩ := h
 obtain ⟨hz, _⟩ := (gridMay_iff _ _ _).1 h1
 unfold sizeOk at hz
 have := of_decide_eq_true hz
 omega
def EncEnd (p : List Int × Int) (w : World) (e : Ending) (w' : World) : Prop := Below w.heap.size w w' ∧ ∃ A c, e = .returned (.tuple #[.slice A p.1.length c, .int .i64 p.2]) ∧ By w.heap.size w' A p.1.length c p.1
theorem By.none (base : Nat) (w : World) : By base w none 0 0 [] := ⟨rfl, Nat.le_refl _, by unfold maxLen; omega, World.ownsRow_nil _ _ _ _⟩
open Go.RowKit
theorem KeepI.drew {w w' : World} (h : KeepI w w') : KeepI w w'.drew := h
theorem KeepI.alloc {w w' : World} (h : KeepI w w') (o : Obj) : KeepI w (w'.alloc o) := h.trans (KeepI.below ((Below.refl _ _).alloc (Nat.le_refl _) o))
structure Bx2 (b : Nat) (sa sb : ScR) (w : World) : Prop where
 b1 : Sx w b sa
 b2 : Sx w (b + 1) sb
theorem Bx2.keep {b : Nat} {sa sb : ScR} {w w' : World} (h : Bx2 b sa sb w) (k : KeepI w w') : Bx2 b sa sb w' := ⟨k.rw h.b1 (by decide), k.rw h.b2 (by decide)⟩
theorem wp_appStr (w : World) {o : Oper} {a : Act} {K : Act → World → Prop} {Q : Exit → Act → World → Prop} (s x : Operand)
  (ho : o.op = .call { callee := .builtin .append, args := #[s, x], argTypes := #[26, 9] }) (base : Nat)
  (A0 : Option Addr) (n c0 : Nat) (L : List Int) (hs : a.eval s = .slice A0 n c0) (hown : By base w A0 n c0 L) (t : ByteArray) (hx : a.eval x = .string t) (hn : n ≤ 1000000) (ht : t.size ≤ 1000000) (hbase : base ≤ w.heap.size)
  (h : ∀ A' c' w', By base w' A' (n + t.size) c' (L ++ sL t) → w.grownBy w' (Value.slice A0 n c0).ownBlock → K (a.put o.dst (.slice A' (n + t.size) c')) w') : o.wp Tryz.prog a w K Q := by
 obtain ⟨i0, hi, hz0, hz1, hz2⟩ := info_parts info8
 obtain ⟨v', w', hr, h2, h3, h4⟩ := Lib.run_append_own_string (P := Tryz.prog) w base 26 9 o.type 5 i0 Tryz.underlying26 Tryz.underlying9 hi hz0 hz1 hz2 _ n _ hown.own t (by unfold maxLen; omega) (by omega) hbase
 unfold Oper.wp execOp
 simp only [ho, resolve, invoke, builtin, Sem.run_bind, Sem.run_pure, Result.andThen_ok, List.map_toArray, List.map_cons, List.map_nil, hs, hx, hr]
 obtain ⟨A', c', rfl, _⟩ := own_shape h2
 exact h A' c' w' (By.mk' (by rw [List.map_append, ← strCells_is]; exact h2)) h3
set_option maxHeartbeats 6400000 in
set_option maxRecDepth 100000 in
theorem cDiff_any {sa sb : ScR} {base b : Sc} {c r : Nat} {BL LL : Rws} {fl : Int} {w : World} (h : ScIn w sa base) (k : ScIn w sb b) (hA : FitS base c r BL) (hB : FitS b c r LL) (hx : 0 ≤ b.x ∧ b.x ≤ 255) (hy : 0 ≤ b.y ∧ b.y ≤ 255) (hf : fl = 0 ∨ fl = 4) (hst : StC b.cells) :
  Calls Tryz.prog 26 #[.agg (scrA sa), .agg (scrA sb), .int .u64 fl] w (ByOwn (diffS base b fl) w) := by
 have HA := Lib.hid (And.intro hA (And.intro hB hst))
 have HXY := Lib.hid (show (0 ≤ sb.x ∧ sb.x ≤ 255) ∧ (0 ≤ sb.y ∧ sb.y ≤ 255) from by rw [← k.x, ← k.y]; exact ⟨hx, hy⟩)
 have HF := Lib.hid hf
 have HCR := Lib.hid (show sb.c = (c : Int) ∧ sb.r = (r : Int) from ⟨by rw [← k.c, hB.ec], by rw [← k.r, hB.er]⟩)
 obtain ⟨b3, hb3⟩ : ∃ b3, b3 = w.heap.size := ⟨_, rfl⟩
 obtain ⟨w1, hw1⟩ : ∃ w1, w1 = (w.alloc (.cells (scrA sa) 25)).alloc (.cells (scrA sb) 25) := ⟨_, rfl⟩
 have H0 := Lib.hid (show S2 w w1 b3 sa sb from by
  have h1 := Sx.new w sa
  have h2 := Sx.new (w.alloc (.cells (scrA sa) 25)) sb
  rw [World.size_alloc] at h2
  rw [hb3, hw1]
  exact ⟨h1.below ((Below.refl _ _).alloc (Nat.le_refl _) _), h2, ((Below.refl _ _).alloc (Nat.le_refl _) _).alloc (by simp) _, Nat.le_refl _⟩)
 have HI0 := Lib.hid (And.intro h k)
 obtain ⟨T, hT⟩ : ∃ T : Bool, T = decide (sb.ttl ≠ sa.ttl) := ⟨_, rfl⟩
 have HT := Lib.hid (show (T = true ↔ b.title ≠ base.title) from by
  rw [hT, k.ttl, h.ttl, decide_eq_true_eq]
  exact ⟨fun e e2 => e (sL_inj e2), fun e e2 => e (by rw [e2])⟩)
 have hte : (sb.ttl.toList == sa.ttl.toList) = !T := by rw [eqBB, hT]; simp
 clear h k hA hB hx hy hf hT hst
 obtain ⟨e0, e1, e2, e3, e4, e5, e6, e7, e8, _⟩ := sx_cells H0.out.b1
 obtain ⟨d0, d1, d2, d3, d4, d5, d6, d7, d8, _⟩ := sx_cells H0.out.b2
 clear e0 e1 e2 e3 e4 e5 e6 e8 d2 d6 d8
 unfold scrA at hw1 ⊢
 go_enter Tryz.func26, Tryz.ntmps26
 go_upto_region 1 with fail
 rw [← hw1, ← hb3]
 clear hw1 hb3
 obtain ⟨HID, hHID⟩ : ∃ HID, sb.hid = HID := ⟨_, rfl⟩
 rw [hHID] at d5
 have HHH := Lib.hid hHID
 clear hHID
 have bo : bits .or .u64 fl 1 = fl + 1 := by rcases HF.out with e | e <;> (rw [e]; decide)
 go_upto_if 9 with fail
 go_cut [2] from 10 to 11 (fun v2 wc => v2 = .int .u64 (fl + (if HID = true then 1 else 0)) ∧ wc = w1)
 case first =>
  cases HID
  · go_wp2_with fail
    go_meet
    case rel => exact ⟨by simp, rfl⟩
  · go_wp2_with fail
    go_meet
    case rel => exact ⟨by simp, rfl⟩
 case rest =>
 obtain ⟨rfl, rfl⟩ := hcut
 obtain ⟨F1, hF1⟩ : ∃ F1, fl + (if HID = true then 1 else 0) = F1 := ⟨_, rfl⟩
 rw [hF1]
 have hf1 : F1 = 0 ∨ F1 = 1 ∨ F1 = 4 ∨ F1 = 5 := by
  rw [← hF1]
  rcases HF.out with e | e <;> rw [e] <;> cases HID <;> simp
 have HF1 := Lib.hid hF1
 clear hF1 bo
 have bo : bits .or .u64 F1 2 = F1 + 2 := by rcases hf1 with e | e | e | e <;> (rw [e]; decide)
 have HF1B := Lib.hid hf1
 clear hf1
 go_upto_if 16 with fail
 go_cut [2] from 17 to 18 (fun v2 wz => v2 = .int .u64 (F1 + (if T = true then 2 else 0)) ∧ wz = wc)
 case first =>
  cases T
  · go_wp2_with fail
    go_meet
    case rel => exact ⟨by simp, rfl⟩
  · go_wp2_with fail
    go_meet
    case rel => exact ⟨by simp, rfl⟩
 case rest =>
 obtain ⟨rfl, hwz⟩ := hcut
 obtain rfl := hwz.symm
 clear hwz bo
 obtain ⟨w1, rfl⟩ : ∃ x, x = wc := ⟨_, rfl⟩
 obtain ⟨F2, hF2⟩ : ∃ F2, F1 + (if T = true then 2 else 0) = F2 := ⟨_, rfl⟩
 rw [hF2]
 have HF2 := Lib.hid (show (0 ≤ F2 ∧ F2 ≤ 7) ∧ bits .and .u64 F2 2 = (if T = true then 2 else 0) ∧ F2 = fl + (if b.hid = true then 1 else 0) + (if b.title ≠ base.title then 2 else 0) from by
  have e : (if T = true then (2 : Int) else 0) = if b.title ≠ base.title then 2 else 0 := by
   by_cases ht : T = true
   · rw [if_pos ht, if_pos (HT.out.1 ht)]
   · rw [if_neg ht, if_neg (fun e => ht (HT.out.2 e))]
  refine ⟨?_, ?_, by rw [← hF2, ← HF1.out, e, HI0.out.2.hid, HHH.out]⟩
  · rw [← hF2]; have := HF1B.out; split <;> omega
  · rw [← hF2]; rcases HF1B.out with e | e | e | e <;> rw [e] <;> cases T <;> decide)
 clear hF2 HF1 HF1B
 obtain ⟨hc, hr⟩ := HCR.out
 have hcb := HA.out.2.1.gk.c80
 have hrb := HA.out.2.1.gk.r24
 rw [hc] at d0
 rw [hr] at d1
 clear hc hr
 have u4 : IntKind.i64.wrap F2 = F2 := by rw [IntKind.wrap_i64]; have := HF2.out.1; omega
 have HTL := Lib.hid (show sb.ttl.size ≤ 64 ∧ b.title = sL sb.ttl ∧ b.title.length = sb.ttl.size from by
  have := HA.out.2.1.ti
  have e := HI0.out.2.ttl
  rw [e, sL_len] at this
  exact ⟨this, e, by rw [e, sL_len]⟩)
 obtain ⟨P5, hP5⟩ : ∃ P5 : List Int, P5 = [(c : Int), (r : Int), sb.x, sb.y, F2] := ⟨_, rfl⟩
 have HP5 := Lib.hid hP5
 obtain ⟨g2, hg2⟩ : ∃ g2, g2 = w1.heap.size := ⟨_, rfl⟩
 obtain ⟨w2, hw2⟩ : ∃ w2, w2 = w1.alloc (.cells #[.int .i64 (c : Int), .int .i64 (r : Int), .int .i64 sb.x, .int .i64 sb.y, .int .i64 F2] 3) := ⟨_, rfl⟩
 have H2 := Lib.hid (show Io w1.heap.size w2 (some ⟨g2, 0, none⟩) 5 5 P5 ∧ Below w.heap.size w w2 ∧ Bx2 b3 sa sb w2 from by
  have hbb : Below w1.heap.size w1 w2 := by rw [hw2]; exact (Below.refl _ _).alloc (Nat.le_refl _) _
  refine ⟨?_, H0.out.bel.trans (hbb.mono H0.out.bel.size), H0.out.b1.below hbb, H0.out.b2.below hbb⟩
  rw [hw2, hP5, hg2]
  exact World.ownsRow_lit w1 _ 5 (Nat.le_refl _) (by unfold maxLen; omega) rfl)
 clear hP5
 go_wp2_with fail
 rw [← hw2, ← hg2]
 clear hw2 hg2 u4 d0 d1 d3 d4 d5 d7 e7 hte
 refine (layBytes_any (By.none w.heap.size w2) H2.out.1 H2.out.2.1.size (fun y hy => by rw [HP5.out] at hy; have h1 := HXY.out; have h2 := HF2.out.1; simp at hy; omega) (by omega) (by omega)).mono ?_
 rintro e w3 ⟨hb3', hk3, A3, c3, rfl, hy3⟩
 rw [List.nil_append] at hy3
 have H3 := Lib.hid (show By w.heap.size w3 A3 5 c3 P5 ∧ Below w.heap.size w w3 ∧ Bx2 b3 sa sb w3 from ⟨hy3, H2.out.2.1.trans hb3', H2.out.2.2.keep hk3⟩)
 clear hb3' hk3 hy3 H2
 have bo := HF2.out.2.1
 go_upto_if 33 with fail
 go_cut [7] from 34 to 42 (fun v7 wz => ∃ A n cc, v7 = .slice A n cc ∧ By w.heap.size wz A n cc (P5 ++ (if b.title ≠ base.title then (b.title.length : Int) :: b.title else [])) ∧ Below w.heap.size w wz ∧ Bx2 b3 sa sb wz)
 case first =>
  cases T
  · go_wp2_with fail
    go_meet
    case rel => exact ⟨_, _, _, rfl, by rw [if_neg (fun e => by have := HT.out.2 e; cases this), List.append_nil]; exact H3.out.1, H3.out.2.1, H3.out.2.2⟩
  · have HTY := Lib.hid (HT.out.1 rfl)
    have d7 := (sx_cells H3.out.2.2.b2).c7
    have ht64 : sb.ttl.size ≤ 64 := HTL.out.1
    go_upto_region 7 with fail
    have SX := Lib.hid (show ∀ w', KeepI w3 w' → (KeepI w3 w' ∧ w'.cell? ⟨b3 + 1, 7, none⟩ = some (.string sb.ttl)) from fun w' hb => ⟨hb, (sx_cells (H3.out.2.2.keep hb).b2).c7⟩)
    have hb0 : KeepI w3 w3 := KeepI.refl _
    have P1 := Lib.hid (show Calls Tryz.prog 47 #[.slice A3 5 c3, .slice (some ⟨w3.heap.size, 0, none⟩) 1 1] (w3.alloc (.cells #[.int .i64 (sb.ttl.size : Int)] 3)).drew fun e w' => ∃ A c, e = .returned (.slice A 6 c) ∧ KeepI w3 w' ∧ Below w.heap.size w w' ∧ By w.heap.size w' A 6 c (P5 ++ [(sb.ttl.size : Int)]) from by
     have hbb : Below w3.heap.size w3 (w3.alloc (.cells #[.int .i64 (sb.ttl.size : Int)] 3)).drew := ((Below.refl _ _).alloc (Nat.le_refl _) _).drew
     have hbc := H3.out.2.1.trans (hbb.mono H3.out.2.1.size)
     refine (layBytes_any (b2 := w3.heap.size) (ks := [(sb.ttl.size : Int)]) (H3.out.1.below hbb) (World.ownsRow_lit w3 #[.int .i64 (sb.ttl.size : Int)] 1 (Nat.le_refl _) (by unfold maxLen; omega) rfl) hbc.size (fun y hy => by simp at hy; omega) (by omega) (by omega)).mono ?_
     rintro e w' ⟨h1, h2, A, c', rfl, h3⟩
     exact ⟨A, c', rfl, (KeepI.below hbb).trans h2, hbc.trans h1, h3⟩)
    refine wp_region_noPanic ?_
    refine wp_region_held_drew (S := fun w' => KeepI w3 w' ∧ w'.cell? ⟨b3 + 1, 7, none⟩ = some (.string sb.ttl)) (by kernel_rfl) (SX.out _ hb0.drew) (fun hHeld => ?_)
    refine wpAnyH_take (i := 0) (v := .slice A3 5 c3) rfl (by kernel_rfl) (by kernel_rfl) (by kernel_rfl) (fun _ _ _ h => h) (Or.inl ⟨by rfl, fun wz hSz => ?_⟩) hHeld ?_
    · go_simp
    simp only [Act.put, List.getElem_toArray, List.getElem_cons_zero]
    try simp only [List.setIfInBounds_toArray]
    try simp only [List.set_cons_succ]
    try simp only [List.set_cons_zero]
    refine wpAnyH_take (i := 1) (v := .pointer (some ⟨b3 + 1, 7, none⟩)) rfl (by kernel_rfl) (by kernel_rfl) (by kernel_rfl) (fun _ _ _ h => h) (Or.inl ⟨by rfl, fun wz hSz => ?_⟩) hHeld ?_
    · go_simp
    simp only [Act.put, List.getElem_toArray, List.getElem_cons_succ, List.getElem_cons_zero]
    try simp only [List.setIfInBounds_toArray]
    try simp only [List.set_cons_succ]
    try simp only [List.set_cons_zero]
    refine wpAnyH_take (i := 2) (v := .string sb.ttl) rfl (by kernel_rfl) (by kernel_rfl) (by kernel_rfl) (fun _ _ _ h => h) (Or.inl ⟨by rfl, fun wz hSz => ?_⟩) hHeld ?_
    · obtain ⟨_, e0⟩ := hSz
      go_simp
    simp only [Act.put, List.getElem_toArray, List.getElem_cons_succ, List.getElem_cons_zero]
    try simp only [List.setIfInBounds_toArray]
    try simp only [List.set_cons_succ]
    try simp only [List.set_cons_zero]
    refine wpAnyH_take (i := 3) (v := .int .i64 (sb.ttl.size : Int)) rfl (by kernel_rfl) (by kernel_rfl) (by kernel_rfl) (fun _ _ _ h => h) (Or.inl ⟨by rfl, fun wz hSz => ?_⟩) hHeld ?_
    · go_simp
    simp only [Act.put, List.getElem_toArray, List.getElem_cons_succ, List.getElem_cons_zero]
    try simp only [List.setIfInBounds_toArray]
    try simp only [List.set_cons_succ]
    try simp only [List.set_cons_zero]
    refine wpAnyH_take (i := 6) (v := .pointer (some ⟨b3 + 1, 7, none⟩)) rfl (by kernel_rfl) (by kernel_rfl) (by kernel_rfl) (fun _ _ _ h => h) (Or.inl ⟨by rfl, fun wz hSz => ?_⟩) hHeld ?_
    · go_simp
    simp only [Act.put, List.getElem_toArray, List.getElem_cons_succ, List.getElem_cons_zero]
    try simp only [List.setIfInBounds_toArray]
    try simp only [List.set_cons_succ]
    try simp only [List.set_cons_zero]
    refine wpAnyH_take (i := 7) (v := .string sb.ttl) rfl (by kernel_rfl) (by kernel_rfl) (by kernel_rfl) (fun _ _ _ h => h) (Or.inl ⟨by rfl, fun wz hSz => ?_⟩) hHeld ?_
    · obtain ⟨_, e0⟩ := hSz
      go_simp
    simp only [Act.put, List.getElem_toArray, List.getElem_cons_succ, List.getElem_cons_zero]
    try simp only [List.setIfInBounds_toArray]
    try simp only [List.set_cons_succ]
    try simp only [List.set_cons_zero]
    refine wpAnyH_ready (rs := [4]) (by kernel_rfl) (by simp) (AllReadyH.cons rfl (fun K hK => ?_) AllReadyH.nil)
    rw [if_pos (by rfl)]
    go_simp
    refine hK.out _ _ (SX.out _ (KeepI.drew (KeepI.alloc hHeld.1 _))) (fun hHeld => ?_)
    clear hK K
    try simp only [Act.put, List.getElem_toArray, List.getElem_cons_succ, List.getElem_cons_zero]
    try simp only [List.setIfInBounds_toArray]
    try simp only [List.set_cons_succ]
    try simp only [List.set_cons_zero]
    refine wpAnyH_ready (rs := [5]) (by kernel_rfl) (by simp) (AllReadyH.cons rfl (fun K hK => ?_) AllReadyH.nil)
    rw [if_pos (by rfl)]
    go_simp
    refine P1.out.mono ?_
    rintro e w5 ⟨A5, c5, rfl, hk5, hb5, hy5⟩
    have H5 := Lib.hid (And.intro hk5 (And.intro hb5 hy5))
    clear hk5 hb5 hy5 P1
    refine hK.out _ _ (SX.out _ H5.out.1) (fun hHeld => ?_)
    clear hK K
    try simp only [Act.put, List.getElem_toArray, List.getElem_cons_succ, List.getElem_cons_zero]
    try simp only [List.setIfInBounds_toArray]
    try simp only [List.set_cons_succ]
    try simp only [List.set_cons_zero]
    refine wpAnyH_ready (rs := [8]) (by kernel_rfl) (by simp) (AllReadyH.cons rfl (fun K hK => ?_) AllReadyH.nil)
    rw [if_pos (by rfl)]
    refine wp_appStr _ (.tmp 39) (.tmp 41) rfl w.heap.size A5 6 c5 _ rfl H5.out.2.2 sb.ttl rfl (by omega) (by omega) H5.out.2.1.size ?_
    intro A6 c6 w6 hy6 hg6
    have H6 := Lib.hid (show KeepI w3 w6 ∧ Below w.heap.size w w6 ∧ By w.heap.size w6 A6 (6 + sb.ttl.size) c6 (P5 ++ (if b.title ≠ base.title then (b.title.length : Int) :: b.title else [])) from by
     refine ⟨H5.out.1.trans (KeepI.onto H5.out.2.2 hg6), H5.out.2.1.grown hg6 H5.out.2.1.size (fun k hk => H5.out.2.2.ownB k hk), ?_⟩
     rw [if_pos HTY.out, HTL.out.2.2, HTL.out.2.1]
     rw [List.append_assoc] at hy6
     exact hy6)
    clear hy6 hg6 H5
    simp only [Act.put, List.getElem_toArray, List.getElem_cons_succ, List.getElem_cons_zero]
    try simp only [List.setIfInBounds_toArray]
    try simp only [List.set_cons_succ]
    try simp only [List.set_cons_zero]
    refine hK.out _ _ (SX.out _ H6.out.1) (fun hHeld => ?_)
    clear hK K
    try simp only [Act.put, List.getElem_toArray, List.getElem_cons_succ, List.getElem_cons_zero]
    try simp only [List.setIfInBounds_toArray]
    try simp only [List.set_cons_succ]
    try simp only [List.set_cons_zero]
    refine wpAnyH_take (i := 9) (v := .slice A6 (6 + sb.ttl.size) c6) rfl (by kernel_rfl) (by kernel_rfl) (by kernel_rfl) (fun _ _ _ h => h) (Or.inl ⟨by rfl, fun wz hSz => ?_⟩) hHeld ?_
    · go_simp
    simp only [Act.put, List.getElem_toArray, List.getElem_cons_succ, List.getElem_cons_zero]
    try simp only [List.setIfInBounds_toArray]
    try simp only [List.set_cons_succ]
    try simp only [List.set_cons_zero]
    refine wpAnyH_done (by kernel_rfl) ?_ _
    refine NoPanic.normal ?_
    go_wp2_with fail
    go_meet
    case rel => exact ⟨_, _, _, rfl, H6.out.2.2, H6.out.2.1, H3.out.2.2.keep H6.out.1⟩
 case rest =>
 obtain ⟨A8, n8, c8, rfl, h1, h2, h3⟩ := hcut
 have W8 := Lib.hid (show By w.heap.size wc A8 n8 c8 (P5 ++ (if b.title ≠ base.title then (b.title.length : Int) :: b.title else [])) ∧ Below w.heap.size w wc ∧ Bx2 b3 sa sb wc from ⟨h1, h2, h3⟩)
 clear h1 h2 h3 H3 bo
 have HN8 := Lib.hid (show n8 ≤ 1000 from by
  have h1 := W8.out.1.len
  rw [HP5.out] at h1
  have h2 := HTL.out
  by_cases e : b.title ≠ base.title
  · rw [if_pos e] at h1; simp at h1; omega
  · rw [if_neg e] at h1; simp at h1; omega)
 obtain ⟨ul, hul⟩ : ∃ ul, ul = unlike c r base.cells b.cells := ⟨_, rfl⟩
 have HU := Lib.hid (show ul = unlike c r base.cells b.cells ∧ (∀ y ∈ ul, y < r) ∧ ul.length ≤ 24 from by
  refine ⟨hul, fun y hy => ?_, ?_⟩
  · rw [hul] at hy; exact ((unlike_at _ _ _ _ _).1 hy).1
  · rw [hul, ← unTo_all]; have := unTo_len c base.cells b.cells r; omega)
 clear hul
 have PU := Lib.hid (show Calls Tryz.prog 49 #[.agg (scrA sa), .agg (scrA sb)] wc.drew fun e w' => ∃ A c, e = .returned (.slice A ul.length c) ∧ Below wc.heap.size wc w' ∧ Io wc.heap.size w' A ul.length c (toI ul) from by
  have hbw : Below w.heap.size w wc.drew := W8.out.2.1.drew
  refine (unlikeR_any (HI0.out.1.below hbw) (HI0.out.2.below hbw) HA.out.1 HA.out.2.1).mono ?_
  rintro e w' ⟨h1, A, c', rfl, h2⟩
  rw [← HU.out.1, toI_len] at h2 ⊢
  exact ⟨A, c', rfl, (Below.refl wc.heap.size wc).drew.trans h1, h2⟩)
 have PL := Lib.hid (show ∀ w' A cp, Below wc.heap.size wc w' → Io wc.heap.size w' A ul.length cp (toI ul) → Calls Tryz.prog 48 #[.slice A8 n8 c8, .agg (scrA sb), .slice A ul.length cp] w' (Longer w.heap.size (diffS base b fl) (diffS base b fl).length w') from fun w' A cp hb hio => by
  have hbw : Below w.heap.size w w' := W8.out.2.1.trans (hb.mono W8.out.2.1.size)
  have e : diffS base b fl = P5 ++ (if b.title ≠ base.title then (b.title.length : Int) :: b.title else []) ++ (ul.length : Int) :: ul.flatMap (rowBy c b.cells) := by
   unfold diffS
   rw [HP5.out, HU.out.1, HA.out.2.1.ec, HA.out.2.1.er, Int.toNat_natCast, Int.toNat_natCast, HF2.out.2.2, HI0.out.2.x, HI0.out.2.y]
   simp only [List.cons_append, List.nil_append]
  rw [e]
  exact layRows_any (W8.out.1.below hb) hio hbw HI0.out.2 HA.out.2.1 HA.out.2.2 HU.out.2.1 HN8.out HU.out.2.2)
 have SX := Lib.hid (show ∀ w', KeepI wc w' → (KeepI wc w' ∧ (w'.cell? ⟨b3, 0, none⟩ = some (.int .i64 sa.c) ∧ w'.cell? ⟨b3, 1, none⟩ = some (.int .i64 sa.r) ∧ w'.cell? ⟨b3, 2, none⟩ = some (.slice sa.A sa.n sa.k) ∧ w'.cell? ⟨b3, 3, none⟩ = some (.int .i64 sa.x) ∧ w'.cell? ⟨b3, 4, none⟩ = some (.int .i64 sa.y) ∧ w'.cell? ⟨b3, 5, none⟩ = some (.bool sa.hid) ∧ w'.cell? ⟨b3, 6, none⟩ = some (.int .u8 sa.mouse) ∧ w'.cell? ⟨b3, 7, none⟩ = some (.string sa.ttl) ∧ w'.cell? ⟨b3, 8, none⟩ = some (.slice sa.T sa.m sa.q) ∧ w'.cell? ⟨(b3 + 1), 0, none⟩ = some (.int .i64 sb.c) ∧ w'.cell? ⟨(b3 + 1), 1, none⟩ = some (.int .i64 sb.r) ∧ w'.cell? ⟨(b3 + 1), 2, none⟩ = some (.slice sb.A sb.n sb.k) ∧ w'.cell? ⟨(b3 + 1), 3, none⟩ = some (.int .i64 sb.x) ∧ w'.cell? ⟨(b3 + 1), 4, none⟩ = some (.int .i64 sb.y) ∧ w'.cell? ⟨(b3 + 1), 5, none⟩ = some (.bool sb.hid) ∧ w'.cell? ⟨(b3 + 1), 6, none⟩ = some (.int .u8 sb.mouse) ∧ w'.cell? ⟨(b3 + 1), 7, none⟩ = some (.string sb.ttl) ∧ w'.cell? ⟨(b3 + 1), 8, none⟩ = some (.slice sb.T sb.m sb.q))) from fun w' hb => by
  have t0 := sx_cells (W8.out.2.2.keep hb).b1
  have t1 := sx_cells (W8.out.2.2.keep hb).b2
  exact ⟨hb, t0.c0, t0.c1, t0.c2, t0.c3, t0.c4, t0.c5, t0.c6, t0.c7, t0.c8, t1.c0, t1.c1, t1.c2, t1.c3, t1.c4, t1.c5, t1.c6, t1.c7, t1.c8⟩)
 unfold scrA at PU PL
 have hb0 : KeepI wc wc := KeepI.refl _
 go_upto_region 8 with fail
 refine wp_region_noPanic ?_
 refine wp_region_held_drew (S := fun w' => KeepI wc w' ∧ (w'.cell? ⟨b3, 0, none⟩ = some (.int .i64 sa.c) ∧ w'.cell? ⟨b3, 1, none⟩ = some (.int .i64 sa.r) ∧ w'.cell? ⟨b3, 2, none⟩ = some (.slice sa.A sa.n sa.k) ∧ w'.cell? ⟨b3, 3, none⟩ = some (.int .i64 sa.x) ∧ w'.cell? ⟨b3, 4, none⟩ = some (.int .i64 sa.y) ∧ w'.cell? ⟨b3, 5, none⟩ = some (.bool sa.hid) ∧ w'.cell? ⟨b3, 6, none⟩ = some (.int .u8 sa.mouse) ∧ w'.cell? ⟨b3, 7, none⟩ = some (.string sa.ttl) ∧ w'.cell? ⟨b3, 8, none⟩ = some (.slice sa.T sa.m sa.q) ∧ w'.cell? ⟨(b3 + 1), 0, none⟩ = some (.int .i64 sb.c) ∧ w'.cell? ⟨(b3 + 1), 1, none⟩ = some (.int .i64 sb.r) ∧ w'.cell? ⟨(b3 + 1), 2, none⟩ = some (.slice sb.A sb.n sb.k) ∧ w'.cell? ⟨(b3 + 1), 3, none⟩ = some (.int .i64 sb.x) ∧ w'.cell? ⟨(b3 + 1), 4, none⟩ = some (.int .i64 sb.y) ∧ w'.cell? ⟨(b3 + 1), 5, none⟩ = some (.bool sb.hid) ∧ w'.cell? ⟨(b3 + 1), 6, none⟩ = some (.int .u8 sb.mouse) ∧ w'.cell? ⟨(b3 + 1), 7, none⟩ = some (.string sb.ttl) ∧ w'.cell? ⟨(b3 + 1), 8, none⟩ = some (.slice sb.T sb.m sb.q))) (by kernel_rfl) (SX.out _ hb0.drew) (fun hHeld => ?_)
 refine wpAnyH_take (i := 0) (v := .slice A8 n8 c8) rfl (by kernel_rfl) (by kernel_rfl) (by kernel_rfl) (fun _ _ _ h => h) (Or.inl ⟨by rfl, fun wz hSz => ?_⟩) hHeld ?_
 · go_simp
 simp only [Act.put, List.getElem_toArray, List.getElem_cons_zero]
 try simp only [List.setIfInBounds_toArray]
 try simp only [List.set_cons_succ]
 try simp only [List.set_cons_zero]
 refine wpAnyH_take (i := 1) (v := .agg #[.int .i64 sb.c, .int .i64 sb.r, .slice sb.A sb.n sb.k, .int .i64 sb.x, .int .i64 sb.y, .bool sb.hid, .int .u8 sb.mouse, .string sb.ttl, .slice sb.T sb.m sb.q]) rfl (by kernel_rfl) (by kernel_rfl) (by kernel_rfl) (fun _ _ _ h => h) (Or.inl ⟨by rfl, fun wz hSz => ?_⟩) hHeld ?_
 · obtain ⟨_, e0, e1, e2, e3, e4, e5, e6, e7, e8, e9, e10, e11, e12, e13, e14, e15, e16, e17⟩ := hSz
   go_simp
 simp only [Act.put, List.getElem_toArray, List.getElem_cons_succ, List.getElem_cons_zero]
 try simp only [List.setIfInBounds_toArray]
 try simp only [List.set_cons_succ]
 try simp only [List.set_cons_zero]
 refine wpAnyH_take (i := 2) (v := .agg #[.int .i64 sa.c, .int .i64 sa.r, .slice sa.A sa.n sa.k, .int .i64 sa.x, .int .i64 sa.y, .bool sa.hid, .int .u8 sa.mouse, .string sa.ttl, .slice sa.T sa.m sa.q]) rfl (by kernel_rfl) (by kernel_rfl) (by kernel_rfl) (fun _ _ _ h => h) (Or.inl ⟨by rfl, fun wz hSz => ?_⟩) hHeld ?_
 · obtain ⟨_, e0, e1, e2, e3, e4, e5, e6, e7, e8, e9, e10, e11, e12, e13, e14, e15, e16, e17⟩ := hSz
   go_simp
 simp only [Act.put, List.getElem_toArray, List.getElem_cons_succ, List.getElem_cons_zero]
 try simp only [List.setIfInBounds_toArray]
 try simp only [List.set_cons_succ]
 try simp only [List.set_cons_zero]
 refine wpAnyH_take (i := 3) (v := .agg #[.int .i64 sb.c, .int .i64 sb.r, .slice sb.A sb.n sb.k, .int .i64 sb.x, .int .i64 sb.y, .bool sb.hid, .int .u8 sb.mouse, .string sb.ttl, .slice sb.T sb.m sb.q]) rfl (by kernel_rfl) (by kernel_rfl) (by kernel_rfl) (fun _ _ _ h => h) (Or.inl ⟨by rfl, fun wz hSz => ?_⟩) hHeld ?_
 · obtain ⟨_, e0, e1, e2, e3, e4, e5, e6, e7, e8, e9, e10, e11, e12, e13, e14, e15, e16, e17⟩ := hSz
   go_simp
 simp only [Act.put, List.getElem_toArray, List.getElem_cons_succ, List.getElem_cons_zero]
 try simp only [List.setIfInBounds_toArray]
 try simp only [List.set_cons_succ]
 try simp only [List.set_cons_zero]
 refine wpAnyH_ready (rs := [4]) (by kernel_rfl) (by simp) (AllReadyH.cons rfl (fun K hK => ?_) AllReadyH.nil)
 rw [if_pos (by rfl)]
 go_simp
 refine PU.out.mono ?_
 rintro e w5 ⟨A5, c5, rfl, hb5, hio5⟩
 have H5 := Lib.hid (And.intro hb5 hio5)
 clear hb5 hio5 PU
 refine hK.out _ _ (SX.out _ (KeepI.below H5.out.1)) (fun hHeld => ?_)
 clear hK K
 try simp only [Act.put, List.getElem_toArray, List.getElem_cons_succ, List.getElem_cons_zero]
 try simp only [List.setIfInBounds_toArray]
 try simp only [List.set_cons_succ]
 try simp only [List.set_cons_zero]
 refine wpAnyH_ready (rs := [5]) (by kernel_rfl) (by simp) (AllReadyH.cons rfl (fun K hK => ?_) AllReadyH.nil)
 rw [if_pos (by rfl)]
 go_simp
 refine (PL.out _ _ _ H5.out.1 H5.out.2).mono ?_
 rintro e w6 ⟨hb6, hk6, A6, c6, rfl, hy6⟩
 have X : ByOwn (diffS base b fl) w (.returned (.slice A6 (diffS base b fl).length c6)) w6 := ⟨(W8.out.2.1.trans (H5.out.1.mono W8.out.2.1.size)).trans hb6, A6, c6, rfl, hy6⟩
 have HX := Lib.hid X
 have HK6 := Lib.hid ((KeepI.below H5.out.1).trans hk6)
 clear hb6 hk6 hy6 H5 X PL
 refine hK.out _ _ (SX.out _ HK6.out) (fun hHeld => ?_)
 clear hK K
 try simp only [Act.put, List.getElem_toArray, List.getElem_cons_succ, List.getElem_cons_zero]
 try simp only [List.setIfInBounds_toArray]
 try simp only [List.set_cons_succ]
 try simp only [List.set_cons_zero]
 refine wpAnyH_take (i := 6) (v := .slice A6 (diffS base b fl).length c6) rfl (by kernel_rfl) (by kernel_rfl) (by kernel_rfl) (fun _ _ _ h => h) (Or.inl ⟨by rfl, fun wz hSz => ?_⟩) hHeld ?_
 · go_simp
 simp only [Act.put, List.getElem_toArray, List.getElem_cons_succ, List.getElem_cons_zero]
 try simp only [List.setIfInBounds_toArray]
 try simp only [List.set_cons_succ]
 try simp only [List.set_cons_zero]
 refine wpAnyH_done (by kernel_rfl) ?_ _
 refine NoPanic.normal ?_
 go_wp2_with fail
 all_goals (go_ret; exact HX.out)
end Go.Proofs.YtikhknnhmnopbaaGreatDoor
