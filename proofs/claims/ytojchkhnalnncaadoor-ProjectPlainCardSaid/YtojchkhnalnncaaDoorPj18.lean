/-
  Part 18 of what the laws of emul want: ProjCells, GridSm, EmulRefScr.
-/
import Derived.Test.YtojchkhnalnncaaDoorPj04
import Derived.Test.YtojchkhnalnncaaDoorPj09
import Derived.Test.YtojchkhnalnncaaDoorPj10
import Derived.Test.YtojchkhnalnncaaDoorPj11
import Derived.Test.YtojchkhnalnncaaDoorPj14
import Derived.Test.YtojchkhnalnncaaDoorPj17
namespace Go.Proofs.YtojchkhnalnncaaDoor
open Go.RowKit
abbrev Cb (w : World) (g : Nat) (x : Ce) : Prop := Rw ceV 37 w g [x]
theorem Cb.new (w : World) (x : Ce) : Cb (w.alloc (.cells (ceA x) 37)) w.heap.size x := made_rw (f := ceV) w 37 [x]
theorem Cb.all {w : World} {g : Nat} {x : Ce} (h : Cb w g x) : w.cell? ⟨g, 0, none⟩ = some (.int .i32 x.r) ∧ w.cell? ⟨g, 1, none⟩ = some (.int .u8 x.wd) ∧ w.cell? ⟨g, 2, none⟩ = some (.int .u32 x.p.fg) ∧ w.cell? ⟨g, 3, none⟩ = some (.int .u32 x.p.bg) ∧ w.cell? ⟨g, 4, none⟩ = some (.int .u8 x.p.st) ∧ w.cell? ⟨g, 5, none⟩ = some (.int .u16 x.p.lk) :=
 ⟨h.cell (j := 0) rfl, h.cell (j := 1) rfl, h.cell (j := 2) rfl, h.cell (j := 3) rfl, h.cell (j := 4) rfl, h.cell (j := 5) rfl⟩
theorem Pb.all {w : World} {g : Nat} {p : Pn} (h : Pb w g p) : w.cell? ⟨g, 0, none⟩ = some (.int .u32 p.fg) ∧ w.cell? ⟨g, 1, none⟩ = some (.int .u32 p.bg) ∧ w.cell? ⟨g, 2, none⟩ = some (.int .u8 p.st) ∧ w.cell? ⟨g, 3, none⟩ = some (.int .u16 p.lk) := ⟨h.fg, h.bg, h.st, h.lk⟩
theorem Pb.over {w : World} {g : Nat} {p : Pn} (h : Pb w g p) (q : Pn) : Pb (w.setCells g 0 (pnL q)) g q ∧ w.grownBy (w.setCells g 0 (pnL q)) (some g) := by
 have := Rw.stored pnL_len h (k := 0) (M := [q]) (by simp)
 exact this
theorem Pb.there {w : World} {g : Nat} {p : Pn} (h : Pb w g p) : w.there g 0 4 := by
 have := Rw.there pnL_len h (k := 0) (m := 1) (by simp)
 exact this
theorem Cb.pen {w : World} {g : Nat} {x : Ce} (h : Cb w g x) (q : Pn) : Cb (w.setCells g 2 (pnL q)) g ⟨x.r, x.wd, q⟩ ∧ w.grownBy (w.setCells g 2 (pnL q)) (some g) := by
 obtain ⟨r, h⟩ := h
 obtain ⟨e1, e2, e3, e4, e5, e6⟩ := setCells_row g _ (pnL q) 2 _ w h (by simp [rowV, ceV, pnL])
 exact ⟨⟨r, by rw [e1]; rfl⟩, e4, e5, e6, by omega, fun i _ hne => e2 i fun e => hne (by rw [e])⟩
theorem Cb.there2 {w : World} {g : Nat} {x : Ce} (h : Cb w g x) : w.there g 2 4 := fun j hj => by
 have := Rw.there ceV_len h (k := 0) (m := 1) (by simp) (2 + j) (by omega)
 simpa using this
theorem Cx.grownP {base : Nat} {w w' : World} {A : Option Addr} {n c : Nat} {L : List Ce} (h : Cx base w A n c L) {row : Option Nat} (hg : w.grownBy w' row) (hne : 0 < n → ∀ g, A = some ⟨g, 0, none⟩ → row ≠ some g) : Cx base w' A n c L :=
 ⟨h.len, h.le, h.max, fun hn => by obtain ⟨g, e, hb, hR⟩ := h.own hn; exact ⟨g, e, hb, hR.grown hg (hne hn g e)⟩⟩
theorem pnA_one (p : Pn) : (pnA p).all (·.oneCell') = true := by
 rw [Array.all_eq_true_iff_forall_mem]
 intro v hv
 simp only [pnA, List.mem_toArray, List.mem_cons, List.not_mem_nil, or_false] at hv
 rcases hv with rfl | rfl | rfl | rfl <;> rfl
structure Cl (b gl : Nat) (A : Option Addr) (n c : Nat) (L : List Ce) (l m : Pn) (w wr : World) : Prop where
 cx : Cx b wr A n c L
 pl : Pb wr gl l
 pm : Pb wr (gl + 1) m
 bel : Below b w wr
 ge : b ≤ gl
 off : 0 < n → ∀ g, A = some ⟨g, 0, none⟩ → g < gl
section
variable {b gl n c : Nat} {A : Option Addr} {L : List Ce} {l m : Pn} {w wr w2 : World}
theorem Cl.on (h : Cl b gl A n c L l m w wr) (hb : Below wr.heap.size wr w2) : Cl b gl A n c L l m w w2 :=
 ⟨h.cx.below hb, h.pl.below hb, h.pm.below hb, h.bel.trans (hb.mono (by have := h.pl.lt; have := h.ge; omega)), h.ge, h.off⟩
theorem Cl.last (h : Cl b gl A n c L l m w wr) (q : Pn) : Cl b gl A n c L q m w (wr.setCells gl 0 (pnL q)) := by
 obtain ⟨h1, h2⟩ := h.pl.over q
 refine ⟨h.cx.grownP h2 (fun hn g e => by have := h.off hn g e; intro e; injection e with e; omega), h1, h.pm.grown h2 (by intro e; injection e with e; omega), h.bel.grown h2 (by have := h.pl.lt; have := h.ge; omega) (fun k hk => by injection hk with hk; have := h.ge; omega), h.ge, h.off⟩
theorem Cl.made (h : Cl b gl A n c L l m w wr) (q : Pn) : Cl b gl A n c L l q w (wr.setCells (gl + 1) 0 (pnL q)) := by
 obtain ⟨h1, h2⟩ := h.pm.over q
 refine ⟨h.cx.grownP h2 (fun hn g e => by have := h.off hn g e; intro e; injection e with e; omega), h.pl.grown h2 (by intro e; injection e with e; omega), h1, h.bel.grown h2 (by have := h.pl.lt; have := h.ge; omega) (fun k hk => by injection hk with hk; have := h.ge; omega), h.ge, h.off⟩
theorem Cl.put {g : Nat} {M : List Ce} (h : Cl b gl (some ⟨g, 0, none⟩) n c L l m w wr) (h0 : 0 < n) (hl : M.length = n) (hR : Rw ceV 37 w2 g M) (hg : wr.grownBy w2 (some g)) : Cl b gl (some ⟨g, 0, none⟩) n c M l m w w2 := by
 have hgl := h.off h0 g rfl
 obtain ⟨g', e, hb, _⟩ := h.cx.own h0
 injection e with e
 injection e with e
 subst e
 exact ⟨⟨hl, h.cx.le, h.cx.max, fun _ => ⟨g, rfl, hb, hR⟩⟩, h.pl.grown hg (by intro e; injection e with e; omega), h.pm.grown hg (by intro e; injection e with e; omega), h.bel.grown hg (by have := h.pl.lt; have := h.ge; omega) (fun k hk => by injection hk with hk; omega), h.ge, fun _ k e => by injection e with e; injection e with e; omega⟩
theorem Cl.far (h : Cl b gl A n c L l m w wr) {g : Nat} (hg : wr.grownBy w2 (some g)) (hl : gl + 1 < g) : Cl b gl A n c L l m w w2 :=
 ⟨h.cx.grownP hg (fun hn k e => by have := h.off hn k e; intro e; injection e with e; omega), h.pl.grown hg (by intro e; injection e with e; omega), h.pm.grown hg (by intro e; injection e with e; omega), h.bel.grown hg (by have := h.pl.lt; have := h.ge; omega) (fun k hk => by injection hk with hk; have := h.ge; omega), h.ge, h.off⟩
end
def partP (f : Int) (L : List Ce) (k : Nat) : List Ce := (L.take k).map (celP f) ++ L.drop k
theorem partP_len (f : Int) (L : List Ce) {k : Nat} (h : k ≤ L.length) : (partP f L k).length = L.length := by simp [partP]; omega
theorem partP_zero (f : Int) (L : List Ce) : partP f L 0 = L := by simp [partP]
theorem partP_all (f : Int) (L : List Ce) : partP f L L.length = L.map (celP f) := by simp [partP]
theorem partP_at (f : Int) {L : List Ce} {k : Nat} (h : k < L.length) : cAt (partP f L k) k = cAt L k := by
 unfold partP cAt
 simp only [List.getD]
 rw [List.getElem?_append_right (by simp; omega)]
 simp only [List.length_map, List.length_take, List.getElem?_drop]
 rw [show k + (k - min k L.length) = k by omega]
theorem partP_step (f : Int) {L : List Ce} {k : Nat} (h : k < L.length) : (partP f L k).set k (celP f (cAt L k)) = partP f L (k + 1) := by
 have hl : ((L.take k).map (celP f)).length = k := by simp; omega
 unfold partP
 rw [List.set_append_right _ _ (by omega), hl, Nat.sub_self, List.drop_eq_getElem_cons h, List.set_cons_zero, List.take_add_one, List.map_append, getElem?_cAt h, List.append_assoc]
 rfl
def CbyEnd (f : Int) (L : List Ce) (w : World) (e : Ending) (w' : World) : Prop := Below w.heap.size w w' ∧ ∃ A c, e = .returned (.slice A L.length c) ∧ Cx w.heap.size w' A L.length c (L.map (celP f))
set_option maxHeartbeats 6400000 in
set_option maxRecDepth 100000 in
theorem cellsBy_any {w : World} {A : Option Addr} {n c : Nat} {L : List Ce} {f : Int} (hT : CTabs w) (h : Vs ceV w A n L) (hn : n ≤ 60000) (hp : PosC L) (hf : 0 ≤ f ∧ f < 4294967296) :
  Calls Tryd.prog 18 #[.slice A n c, .int .u32 f] w (CbyEnd f L w) := by
 obtain rfl := h.len
 have HV := Lib.hid h
 have HP := Lib.hid hp
 have HF := Lib.hid hf
 have HL := Lib.hid (fun w => lacks_any (has4 hf) (by omega) w)
 have HT := Lib.hid (fun w' (hb' : Below w.heap.size w w') => hT.below hb' (Nat.le_refl _))
 clear h hp hf hT
 go_enter Tryd.func18, Tryd.ntmps18
 go_wp2_with fail
 refine (cloneCx_any HV.out (by omega)).mono ?_
 rintro e w1 ⟨hb1, A6, c6, rfl, hcx⟩
 have HC := Lib.hid (And.intro hb1 hcx)
 clear hb1 hcx
 obtain ⟨gl, hgl⟩ : ∃ gl, gl = w1.heap.size := ⟨_, rfl⟩
 obtain ⟨w2, hw2⟩ : ∃ w2, w2 = (w1.alloc (.cells (pnA pn0) 35)).alloc (.cells (pnA pn0) 35) := ⟨_, rfl⟩
 have HS : Hid (Cl w.heap.size gl A6 L.length c6 (partP f L 0) pn0 pn0 w w2) := Lib.hid (by
  have h1 := Pb.new w1 pn0
  have h2 := Pb.new (w1.alloc (.cells (pnA pn0) 35)) pn0
  rw [World.size_alloc] at h2
  rw [hgl, hw2, partP_zero]
  refine ⟨(HC.out.2.below ((Below.refl _ _).alloc (Nat.le_refl _) _)).below ((Below.refl _ _).alloc (Nat.le_refl _) _), h1.below ((Below.refl _ _).alloc (Nat.le_refl _) _), h2, (HC.out.1.alloc HC.out.1.size _).alloc (by have := HC.out.1.size; simp; omega) _, HC.out.1.size, fun hn g e => ?_⟩
  rcases Nat.eq_zero_or_pos L.length with h0 | h0
  · omega
  · obtain ⟨g', e', _, hR⟩ := HC.out.2.own h0
    rw [e] at e'
    injection e' with e'
    injection e' with e'
    rw [e']
    exact hR.lt)
 clear HC
 unfold pnA pn0 at hw2
 go_wp2_with fail
 rw [← hgl, ← hw2]
 clear hw2 hgl w1
 go_loopw [14] (fun i wr => ∃ (k : Nat) (l m : Pn), k ≤ L.length ∧ i = .int .i64 k ∧ Cl w.heap.size gl A6 L.length c6 (partP f L k) l m w wr ∧ m = penP f l) (fun i _ => L.length - (intOf i).toNat)
 case atStart => exact ⟨0, pn0, pn0, Nat.zero_le _, rfl, HS.out, by unfold penP; rw [fit_low (by decide), fit_low (by decide)]; simp [pn0]⟩
 case round =>
  obtain ⟨k, l, m, hk, rfl, hX, hm⟩ := hrel
  have Y := Lib.hid hX
  have HM := Lib.hid hm
  clear hX HS hm
  by_cases hlt : k < L.length
  · have hkl : (k : Int) < (L.length : Int) := by omega
    have HKL := Lib.hid hlt
    obtain ⟨g, rfl, hg, hR⟩ := Y.out.cx.own (by omega)
    obtain ⟨x, hx⟩ : ∃ x, x = cAt L k := ⟨_, rfl⟩
    have HX := Lib.hid hx
    have hx6 := fun j v => hR.cell (j := k * 6 + j) (v := v)
    have hga := getElem?_cAt (L := partP f L k) (k := k) (by rw [partP_len _ _ hk]; exact hlt)
    rw [partP_at f hlt, ← hx] at hga
    have a0 : wr.cell? ⟨g, k * 6, none⟩ = some (.int .i32 x.r) := hx6 0 _ (rowV_get ceV_len hga (j := 0) rfl)
    have a1 : wr.cell? ⟨g, k * 6 + 1, none⟩ = some (.int .u8 x.wd) := hx6 1 _ (rowV_get ceV_len hga (j := 1) rfl)
    have a2 : wr.cell? ⟨g, k * 6 + 2, none⟩ = some (.int .u32 x.p.fg) := hx6 2 _ (rowV_get ceV_len hga (j := 2) rfl)
    have a3 : wr.cell? ⟨g, k * 6 + 3, none⟩ = some (.int .u32 x.p.bg) := hx6 3 _ (rowV_get ceV_len hga (j := 3) rfl)
    have a4 : wr.cell? ⟨g, k * 6 + 4, none⟩ = some (.int .u8 x.p.st) := hx6 4 _ (rowV_get ceV_len hga (j := 4) rfl)
    have a5 : wr.cell? ⟨g, k * 6 + 5, none⟩ = some (.int .u16 x.p.lk) := hx6 5 _ (rowV_get ceV_len hga (j := 5) rfl)
    have hrl := hR.lt
    clear hx6 hga hx hR
    obtain ⟨bx, hbx⟩ : ∃ bx, bx = wr.heap.size := ⟨_, rfl⟩
    obtain ⟨w4, hw4⟩ : ∃ w4, w4 = wr.alloc (.cells (ceA x) 37) := ⟨_, rfl⟩
    have Y0 := Lib.hid (show Cl w.heap.size gl (some ⟨g, 0, none⟩) L.length c6 (partP f L k) l m w w4 ∧ Cb w4 bx x ∧ gl + 1 < bx from by
     rw [hw4, hbx]
     exact ⟨Y.out.on ((Below.refl _ _).alloc (Nat.le_refl _) _), Cb.new wr x, Y.out.pm.lt⟩)
    unfold ceA at hw4
    go_upto_region 6 with fail
    rw [← hw4, ← hbx]
    clear hw4 hbx a0 a1 a2 a3 a4 a5 hrl Y
    have HNE := fun w => pn_neq x.p l w
    unfold pnA at HNE
    have hgd := guardPn
    obtain ⟨B, hB⟩ : ∃ B, decide (x.p = l) = B := ⟨_, rfl⟩
    rw [hB] at HNE
    have HB := Lib.hid hB
    clear hB
    obtain ⟨_, _, d2, d3, d4, d5⟩ := Y0.out.2.1.all
    obtain ⟨l0, l1, l2, l3⟩ := Y0.out.1.pl.all
    go_upto_if 22 with fail
    clear d2 d3 d4 d5 l0 l1 l2 l3 HNE hgd
    go_cut [] from 23 to 28 (fun wc => ∃ l', Cl w.heap.size gl (some ⟨g, 0, none⟩) L.length c6 (partP f L k) l' (penP f x.p) w wc ∧ Cb wc bx x ∧ gl + 1 < bx ∧ penP f x.p = penP f l')
    case first =>
     cases B
     · go_upto_region 7 with fail
       have Y0 := Lib.hid (show Cl w.heap.size gl (some ⟨g, 0, none⟩) L.length c6 (partP f L k) l m w w4.drew ∧ Cb w4.drew bx x ∧ gl + 1 < bx from ⟨Y0.out.1.on (Below.refl _ _).drew, Y0.out.2.1.below (Below.refl _ _).drew, Y0.out.2.2⟩)
       refine wp_region_noPanic ?_
       refine wp_region_held_drew (S := fun w' => Cb w' bx x) (by kernel_rfl) Y0.out.2.1 (fun hHeld => ?_)
       refine wpAnyH_take (i := 0) (v := .pointer (some ⟨bx, 2, none⟩)) rfl (by kernel_rfl) (by kernel_rfl) (by kernel_rfl) (fun _ _ _ h => h) (Or.inl ⟨by rfl, fun wz hSz => ?_⟩) hHeld ?_
       · go_simp
       simp only [Act.put, List.getElem_toArray, List.getElem_cons_zero]
       try simp only [List.setIfInBounds_toArray]
       try simp only [List.set_cons_succ]
       try simp only [List.set_cons_zero]
       refine wpAnyH_take (i := 1) (v := .agg #[.int .u32 x.p.fg, .int .u32 x.p.bg, .int .u8 x.p.st, .int .u16 x.p.lk]) rfl (by kernel_rfl) (by kernel_rfl) (by kernel_rfl) (fun _ _ _ h => h) (Or.inl ⟨by rfl, fun wz hSz => ?_⟩) hHeld ?_
       · obtain ⟨_, _, s2, s3, s4, s5⟩ := Cb.all hSz
         go_simp
       simp only [Act.put, List.getElem_toArray, List.getElem_cons_succ, List.getElem_cons_zero]
       try simp only [List.setIfInBounds_toArray]
       try simp only [List.set_cons_succ]
       try simp only [List.set_cons_zero]
       refine wpAnyH_take (i := 2) (v := .pointer (some ⟨bx, 2, none⟩)) rfl (by kernel_rfl) (by kernel_rfl) (by kernel_rfl) (fun _ _ _ h => h) (Or.inl ⟨by rfl, fun wz hSz => ?_⟩) hHeld ?_
       · go_simp
       simp only [Act.put, List.getElem_toArray, List.getElem_cons_succ, List.getElem_cons_zero]
       try simp only [List.setIfInBounds_toArray]
       try simp only [List.set_cons_succ]
       try simp only [List.set_cons_zero]
       refine wpAnyH_take (i := 3) (v := .agg #[.int .u32 x.p.fg, .int .u32 x.p.bg, .int .u8 x.p.st, .int .u16 x.p.lk]) rfl (by kernel_rfl) (by kernel_rfl) (by kernel_rfl) (fun _ _ _ h => h) (Or.inl ⟨by rfl, fun wz hSz => ?_⟩) hHeld ?_
       · obtain ⟨_, _, s2, s3, s4, s5⟩ := Cb.all hSz
         go_simp
       simp only [Act.put, List.getElem_toArray, List.getElem_cons_succ, List.getElem_cons_zero]
       try simp only [List.setIfInBounds_toArray]
       try simp only [List.set_cons_succ]
       try simp only [List.set_cons_zero]
       refine wpAnyH_take (i := 4) (v := .int .u32 f) rfl (by kernel_rfl) (by kernel_rfl) (by kernel_rfl) (fun _ _ _ h => h) (Or.inl ⟨by rfl, fun wz hSz => ?_⟩) hHeld ?_
       · go_simp
       simp only [Act.put, List.getElem_toArray, List.getElem_cons_succ, List.getElem_cons_zero]
       try simp only [List.setIfInBounds_toArray]
       try simp only [List.set_cons_succ]
       try simp only [List.set_cons_zero]
       refine wpAnyH_ready (rs := [5]) (by kernel_rfl) (by simp) (AllReadyH.cons rfl (fun K hK => ?_) AllReadyH.nil)
       rw [if_pos (by rfl)]
       go_simp
       have HPX := HP.out x (by rw [HX.out]; exact cAt_mem HKL.out)
       refine (penBy_any (p := x.p) (HT.out _ Y0.out.1.bel) HPX HF.out).mono ?_
       rintro e w5 ⟨rfl, hb⟩
       have Z := Lib.hid (show Cl w.heap.size gl (some ⟨g, 0, none⟩) L.length c6 (partP f L k) l m w w5 ∧ Cb w5 bx x ∧ gl + 1 < bx from ⟨Y0.out.1.on hb, Y0.out.2.1.below hb, Y0.out.2.2⟩)
       clear hb HPX
       have Z1 := Lib.hid (show Cl w.heap.size gl (some ⟨g, 0, none⟩) L.length c6 (partP f L k) x.p m w (w5.setCells gl 0 (pnL x.p)) ∧ Cb (w5.setCells gl 0 (pnL x.p)) bx x ∧ gl + 1 < bx from ⟨Z.out.1.last x.p, Z.out.2.1.grown (Z.out.1.pl.over x.p).2 (by intro e; injection e with e; have := Z.out.2.2; omega), Z.out.2.2⟩)
       have Z2 := Lib.hid (show Cl w.heap.size gl (some ⟨g, 0, none⟩) L.length c6 (partP f L k) x.p (penP f x.p) w ((w5.setCells gl 0 (pnL x.p)).setCells (gl + 1) 0 (pnL (penP f x.p))) ∧ Cb ((w5.setCells gl 0 (pnL x.p)).setCells (gl + 1) 0 (pnL (penP f x.p))) bx x ∧ gl + 1 < bx from ⟨Z1.out.1.made _, Z1.out.2.1.grown (Z1.out.1.pm.over _).2 (by intro e; injection e with e; have := Z.out.2.2; omega), Z.out.2.2⟩)
       refine hK.out _ _ (Z.out.2.1) (fun hHeld => ?_)
       clear hK K
       try simp only [Act.put, List.getElem_toArray, List.getElem_cons_succ, List.getElem_cons_zero]
       try simp only [List.setIfInBounds_toArray]
       try simp only [List.set_cons_succ]
       try simp only [List.set_cons_zero]
       refine wpAnyH_ready (rs := [6]) (by kernel_rfl) (by simp) (AllReadyH.cons rfl (fun K hK => ?_) AllReadyH.nil)
       rw [if_pos (by rfl)]
       refine wp_store_mid 35 (.tmp 6) (.tmp 24) rfl gl 0 (pnA x.p) rfl rfl Z.out.1.pl.there infoPn2 (pnA_one _) ?_
       refine hK.out _ _ (Z1.out.2.1) (fun hHeld => ?_)
       clear hK K
       try simp only [Act.put, List.getElem_toArray, List.getElem_cons_succ, List.getElem_cons_zero]
       try simp only [List.setIfInBounds_toArray]
       try simp only [List.set_cons_succ]
       try simp only [List.set_cons_zero]
       refine wpAnyH_ready (rs := [7]) (by kernel_rfl) (by simp) (AllReadyH.cons rfl (fun K hK => ?_) AllReadyH.nil)
       rw [if_pos (by rfl)]
       refine wp_store_mid 35 (.tmp 7) (.tmp 28) rfl (gl + 1) 0 (pnA (penP f x.p)) rfl rfl Z1.out.1.pm.there infoPn2 (pnA_one _) ?_
       refine hK.out _ _ (Z2.out.2.1) (fun hHeld => ?_)
       clear hK K
       try simp only [Act.put, List.getElem_toArray, List.getElem_cons_succ, List.getElem_cons_zero]
       try simp only [List.setIfInBounds_toArray]
       try simp only [List.set_cons_succ]
       try simp only [List.set_cons_zero]
       refine wpAnyH_done (by kernel_rfl) ?_ _
       refine NoPanic.normal ?_
       refine meetP_end (by assumption) (by assumption) ?_
       (repeat apply Exists.intro)
       refine ⟨?rel, rfl⟩
       case rel => exact ⟨x.p, Z2.out.1, Z2.out.2.1, Z2.out.2.2, rfl⟩
     · go_wp2_with fail
       go_meet
       case rel =>
        have he := of_decide_eq_true HB.out
        refine ⟨l, ?_, Y0.out.2.1, Y0.out.2.2, by rw [he]⟩
        rw [he, ← HM.out]
        exact Y0.out.1
    case rest =>
     obtain ⟨l', h1, h2, h3, h4⟩ := hcut
     have V := Lib.hid (And.intro h1 (And.intro h2 (And.intro h3 h4)))
     clear h1 h2 h3 h4 Y0 HM HB
     obtain ⟨m0, m1, m2, m3⟩ := V.out.1.pm.all
     go_upto_region 9 with (refine wpList_store_mid rfl 35 (.tmp 30) (.tmp 29) rfl bx 2 (pnA (penP f x.p)) rfl rfl V.out.2.1.there2 infoPn2 (pnA_one _) ?_)
     obtain ⟨w5, hw5⟩ : ∃ w5, w5 = wc.setCells bx 2 (pnA (penP f x.p)).toList := ⟨_, rfl⟩
     rw [← hw5]
     obtain ⟨y, hy⟩ : ∃ y : Ce, y = ⟨x.r, x.wd, penP f x.p⟩ := ⟨_, rfl⟩
     have V5 := Lib.hid (show Cl w.heap.size gl (some ⟨g, 0, none⟩) L.length c6 (partP f L k) l' (penP f x.p) w w5 ∧ Cb w5 bx y ∧ gl + 1 < bx from by
      rw [hw5, hy]
      exact ⟨V.out.1.far (V.out.2.1.pen _).2 V.out.2.2.1, (V.out.2.1.pen _).1, V.out.2.2.1⟩)
     have HY := Lib.hid (show celP f (cAt L k) = if hasB f 2 = true then y else narrowS y from by rw [← HX.out, hy]; rfl)
     have HLP := Lib.hid V.out.2.2.2
     clear hw5 hy m0 m1 m2 m3 V
     go_wp2_with fail
     refine (HL.out _).mono ?_
     rintro e w6 ⟨rfl, rfl⟩
     cases hB : hasB f 2
     · have HY2 := Lib.hid (show celP f (cAt L k) = narrowS y from by rw [HY.out, hB]; rfl)
       clear hB HY
       obtain ⟨d0, d1, d2, d3, d4, d5⟩ := V5.out.2.1.all
       go_wp2_with fail
       refine (narrow_any (c := y) _).mono ?_
       rintro e w7 ⟨rfl, hb⟩
       have V6 := Lib.hid (show Cl w.heap.size gl (some ⟨g, 0, none⟩) L.length c6 (partP f L k) l' (penP f x.p) w w7 ∧ Cb w7 bx y ∧ gl + 1 < bx from ⟨V5.out.1.on hb, V5.out.2.1.below hb, V5.out.2.2⟩)
       clear d0 d1 d2 d3 d4 d5 hb V5
       generalize narrowS y = z at HY2 ⊢
       go_upto_region 11 with (refine wpList_store_V rfl 37 (.tmp 9) (.tmp 34) rfl ceV_len one_ce infoCe bx _ 0 z _ rfl (by omega) rfl rfl 37 [y] V6.out.2.1 (by simp) ?_; intro w8 hR8 hg8)
       have V8 := Lib.hid (show Cl w.heap.size gl (some ⟨g, 0, none⟩) L.length c6 (partP f L k) l' (penP f x.p) w w8 ∧ Cb w8 bx z ∧ gl + 1 < bx from ⟨V6.out.1.far hg8 V6.out.2.2, hR8, V6.out.2.2⟩)
       clear hR8 hg8 V6
       obtain ⟨d0, d1, d2, d3, d4, d5⟩ := V8.out.2.1.all
       obtain ⟨g', eg, hgb, hR⟩ := V8.out.1.cx.own (by have := HKL.out; omega)
       obtain rfl : g = g' := by injection eg with eg; injection eg
       clear eg
       go_upto_region 12 with (refine wpList_store_V rfl 37 (.tmp 38) (.tmp 37) rfl ceV_len one_ce infoCe g _ k z _ rfl (by omega) rfl rfl 37 _ hR (by rw [partP_len _ _ (Nat.le_of_lt HKL.out)]; exact HKL.out) ?_; intro w9 hR9 hg9)
       rw [← HY2.out, partP_step f HKL.out] at hR9
       have V9 := Lib.hid (V8.out.1.put (by have := HKL.out; omega) (partP_len f L HKL.out) hR9 hg9)
       clear hR9 hg9 hR hgb d0 d1 d2 d3 d4 d5 V8
       go_wp2_with fail
       go_roundw
       case rel => exact ⟨k + 1, l', penP f x.p, by omega, by go_num, V9.out, HLP.out⟩
       case measure => simp [intOf]; omega
     · have HY2 := Lib.hid (show celP f (cAt L k) = y from by rw [HY.out, hB]; rfl)
       clear hB HY
       obtain ⟨d0, d1, d2, d3, d4, d5⟩ := V5.out.2.1.all
       obtain ⟨g', eg, hgb, hR⟩ := V5.out.1.cx.own (by have := HKL.out; omega)
       obtain rfl : g = g' := by injection eg with eg; injection eg
       clear eg
       go_upto_region 12 with (refine wpList_store_V rfl 37 (.tmp 38) (.tmp 37) rfl ceV_len one_ce infoCe g _ k y _ rfl (by omega) rfl rfl 37 _ hR (by rw [partP_len _ _ (Nat.le_of_lt HKL.out)]; exact HKL.out) ?_; intro w9 hR9 hg9)
       rw [← HY2.out, partP_step f HKL.out] at hR9
       have V9 := Lib.hid (V5.out.1.put (by have := HKL.out; omega) (partP_len f L HKL.out) hR9 hg9)
       clear hR9 hg9 hR hgb d0 d1 d2 d3 d4 d5 V5
       go_wp2_with fail
       go_roundw
       case rel => exact ⟨k + 1, l', penP f x.p, by omega, by go_num, V9.out, HLP.out⟩
       case measure => simp [intOf]; omega
  · have e : k = L.length := by omega
    have X : CbyEnd f L w (.returned (.slice A6 L.length c6)) wr := by
     have h1 := Y.out.cx
     rw [e, partP_all] at h1
     exact ⟨Y.out.bel, A6, c6, rfl, h1⟩
    clear e Y HM
    go_wp2_with fail
    go_ret
    exact X
open Go.RowKit
theorem two_new (w : World) (c r : Int) (A : Option Addr) (n k : Nat) (c' r' : Int) (A' : Option Addr) (n' k' : Nat) :
  G3 ((w.alloc (.cells (gV c r A n k) 52)).alloc (.cells (gV c' r' A' n' k') 52)) w.heap.size c r A n k ∧
  G3 ((w.alloc (.cells (gV c r A n k) 52)).alloc (.cells (gV c' r' A' n' k') 52)) (w.heap.size + 1) c' r' A' n' k' ∧
  Below w.heap.size w ((w.alloc (.cells (gV c r A n k) 52)).alloc (.cells (gV c' r' A' n' k') 52)) := by
 have h2 := g3_new (w.alloc (.cells (gV c r A n k) 52)) c' r' A' n' k' 52
 rw [alloc_size] at h2
 exact ⟨(g3_new w c r A n k 52).below (below1 _ _), h2, (below1 w _).alloc (below1 w _).size _⟩
set_option maxHeartbeats 1600000 in
theorem sameG_any {w : World} {A A' : Option Addr} {n n' k k' : Nat} {c r c' r' : Int} {L L' : List Ce} (h : Vs ceV w A n L) (h' : Vs ceV w A' n' L') (hn : n ≤ 1000000) (hn' : n' ≤ 9223372036854775807) {B : Bool} (hB : decide (c = c' ∧ r = r' ∧ L = L') = B) :
  Calls Tryd.prog 22 #[.agg (gV c r A n k), .agg (gV c' r' A' n' k')] w fun e w' => e = .returned (.bool B) ∧ Below w.heap.size w w' := by
 obtain ⟨w0, hw0⟩ : ∃ w0, w0 = (w.alloc (.cells (gV c r A n k) 52)).alloc (.cells (gV c' r' A' n' k') 52) := ⟨_, rfl⟩
 obtain ⟨b, hbe⟩ : ∃ b, b = w.heap.size := ⟨_, rfl⟩
 have H := Lib.hid (show G3 w0 b c r A n k ∧ G3 w0 (b + 1) c' r' A' n' k' ∧ Below w.heap.size w w0 ∧ Vs ceV w0 A n L ∧ Vs ceV w0 A' n' L' from by
  obtain ⟨h1, h2, h3⟩ := two_new w c r A n k c' r' A' n' k'
  rw [hw0, hbe]
  exact ⟨h1, h2, h3, h.below h3, h'.below h3⟩)
 clear h h'
 obtain ⟨c0, c1, c2, _⟩ := H.out.1
 obtain ⟨d0, d1, d2, _⟩ := H.out.2.1
 unfold gV at hw0
 by_cases e1 : c = c'
 · subst e1
   by_cases e2 : r = r'
   · subst e2
     obtain ⟨B2, hB2⟩ : ∃ B2, decide (L = L') = B2 := ⟨_, rfl⟩
     have HB := Lib.hid (show B2 = B from by rw [← hB, ← hB2]; simp)
     have HB2 := Lib.hid hB2
     clear hB hB2
     go_enter Tryd.func22, Tryd.ntmps22
     unfold gV
     go_upto_region 1 with fail
     rw [← hw0, ← hbe]
     clear hw0 hbe
     go_wp2_with fail
     refine (sameC_any H.out.2.2.2.1 H.out.2.2.2.2 hn hn').mono ?_
     rintro e w1 ⟨rfl, q, rfl⟩
     rw [HB2.out]
     clear c0 c1 c2 d0 d1 d2
     go_wp2_with fail
     go_ret
     exact ⟨by rw [HB.out]; rfl, belowN H.out.2.2.1 q⟩
   · have HB := Lib.hid (show B = false from by rw [← hB]; simp [e2])
     have e3 : (r == r') = false := by simpa using e2
     clear hB
     go_enter Tryd.func22, Tryd.ntmps22
     unfold gV
     go_upto_region 1 with fail
     rw [← hw0, ← hbe]
     clear hw0 hbe
     go_wp2_with fail
     go_ret
     exact ⟨by rw [HB.out]; rfl, H.out.2.2.1⟩
 · have HB := Lib.hid (show B = false from by rw [← hB]; simp [e1])
   have e3 : (c == c') = false := by simpa using e1
   clear hB
   go_enter Tryd.func22, Tryd.ntmps22
   unfold gV
   go_upto_region 1 with fail
   rw [← hw0, ← hbe]
   clear hw0 hbe
   go_wp2_with fail
   go_ret
   exact ⟨by rw [HB.out]; rfl, H.out.2.2.1⟩
open Go.RowKit
theorem sL_inj {a b : ByteArray} (h : sL a = sL b) : a = b := by
 apply ByteArray.ext
 rw [← Array.toList_inj]
 have hf : Function.Injective (fun b : UInt8 => (b.toNat : Int)) := fun a b e => UInt8.toNat_inj.1 (Int.ofNat.inj e)
 exact (List.map_inj_right fun x y e => hf e).1 h
section
variable {w : World} {s s' : ScR} {S : Sc}
theorem ScIn.alike (h : ScIn w s S) (k : ScIn w s' S) : ∃ A n q T m p, s' = { s with A := A, n := n, k := q, T := T, m := m, q := p } := by
 obtain ⟨c, r, A, n, kk, x, y, hid, mo, ttl, T, m, q⟩ := s
 obtain ⟨c', r', A', n', kk', x', y', hid', mo', ttl', T', m', q'⟩ := s'
 have e1 := h.c.symm.trans k.c
 have e2 := h.r.symm.trans k.r
 have e3 := h.x.symm.trans k.x
 have e4 := h.y.symm.trans k.y
 have e5 := h.hid.symm.trans k.hid
 have e6 := h.mouse.symm.trans k.mouse
 have e7 := sL_inj (h.ttl.symm.trans k.ttl)
 simp only at e1 e2 e3 e4 e5 e6 e7
 subst e1 e2 e3 e4 e5 e6 e7
 exact ⟨A', n', kk', T', m', q', rfl⟩
set_option maxHeartbeats 6400000 in
set_option maxRecDepth 100000 in
theorem refSameS_any (h : ScIn w s S) (k : ScIn w s' S) (hn : s.n ≤ 60000) (hn' : s'.n ≤ 60000) (hm : s.m ≤ 60000) (hm' : s'.m ≤ 60000) :
  Calls Tryd.prog 12 #[.agg (scrA s), .agg (scrA s')] w fun e w' => e = .returned (.bool true) ∧ Below w.heap.size w w' := by
 obtain ⟨A, n, q, T, m, p, rfl⟩ := h.alike k
 obtain ⟨b, hb⟩ : ∃ b, b = w.heap.size := ⟨_, rfl⟩
 obtain ⟨w1, hw1⟩ : ∃ w1, w1 = w.alloc (.cells (scrA s) 25) := ⟨_, rfl⟩
 obtain ⟨w2, hw2⟩ : ∃ w2, w2 = w1.alloc (.cells (scrA { s with A := A, n := n, k := q, T := T, m := m, q := p }) 25) := ⟨_, rfl⟩
 have h1 : Below w.heap.size w w1 := by rw [hw1]; exact (Below.refl _ _).alloc (Nat.le_refl _) _
 have h12 : Below w1.heap.size w1 w2 := by rw [hw2]; exact (Below.refl _ _).alloc (Nat.le_refl _) _
 have hsz : w1.heap.size = b + 1 := by rw [hw1, hb]; simp
 have H2 := Lib.hid (show ScC w2 b s ∧ ScC w2 (b + 1) { s with A := A, n := n, k := q, T := T, m := m, q := p } ∧ Below w.heap.size w w2 from ⟨by
  have := ScC.new w s
  rw [← hw1, ← hb] at this
  exact this.below h12, by
  have := ScC.new w1 { s with A := A, n := n, k := q, T := T, m := m, q := p }
  rw [← hw2, hsz] at this
  exact this, h1.trans (h12.mono h1.size)⟩)
 have HB := Lib.hid (show b < w2.heap.size ∧ b + 1 < w2.heap.size from ⟨H2.out.1.lt, H2.out.2.1.lt⟩)
 have HI := Lib.hid (And.intro (h.below H2.out.2.2) (k.below H2.out.2.2))
 replace hn' : n ≤ 60000 := hn'
 replace hm' : m ≤ 60000 := hm'
 have HLT := Lib.hid (sameT_any (A' := T) (n' := m) (c := s.q) (c' := p) HI.out.1.links HI.out.2.links (by omega) (by omega))
 rw [decide_eq_true rfl] at HLT
 have HG := Lib.hid (fun w' (hb' : Below w2.heap.size w2 w') => sameG_any (A' := A) (n' := n) (c := 0) (r := 0) (c' := 0) (r' := 0) (k := s.k) (k' := q) (HI.out.1.cells.below hb') (HI.out.2.cells.below hb') (by omega) (by omega) (B := true) (decide_eq_true ⟨rfl, rfl, rfl⟩))
 clear h k hn hn' hm hm' h1 h12
 obtain ⟨a0, a1, a2, a3, a4, a5, a6, a7, a8, _⟩ := H2.out.1
 obtain ⟨d0, d1, d2, d3, d4, d5, d6, d7, d8, _⟩ := H2.out.2.1
 have S8 := Lib.hid (show ∀ w', Below w2.heap.size w2 w' → w'.cell? ⟨b, 2, none⟩ = some (.slice s.A s.n s.k) ∧ w'.cell? ⟨b + 1, 2, none⟩ = some (.slice A n q) from fun w' hb' => ⟨(hb'.cell (p := ⟨b, 2, none⟩) HB.out.1).trans H2.out.1.c2, (hb'.cell (p := ⟨b + 1, 2, none⟩) HB.out.2).trans H2.out.2.1.c2⟩)
 unfold scrA at hw1 hw2 ⊢
 simp only at hw2 d0 d1 d2 d3 d4 d5 d6 d7 d8 ⊢
 unfold gV at HG
 go_enter Tryd.func12, Tryd.ntmps12
 go_upto_region 1 with fail
 rw [← hw1, ← hw2, ← hb]
 clear hw1 hw2 hb hsz
 go_wp2_with fail
 refine HLT.out.mono fun e1 w3 ⟨hE, q1, hw3⟩ => ?_
 subst hE
 have h3 : Below w2.heap.size w2 w3 ∧ True := ⟨by rw [hw3]; exact belowN (Below.refl _ _) q1, trivial⟩
 clear hw3
 obtain ⟨e2, f2⟩ := S8.out _ h3.1
 have HG' := HG.out _ h3.1
 clear HG
 go_wp2_with fail
 refine HG'.mono fun e4 w4 ⟨hE, h4⟩ => ?_
 subst hE
 go_wp2_with fail
 go_ret
 exact ⟨rfl, H2.out.2.2.trans ((h3.1.trans (h4.mono h3.1.size)).mono H2.out.2.2.size)⟩
def scN : ScR := ⟨0, 0, none, 0, 0, 0, 0, false, 0, ⟨#[]⟩, none, 0, 0⟩
def scF (s : ScR) : List Value := [.int .i64 s.c, .int .i64 s.r, .slice s.A s.n s.k, .int .i64 s.x, .int .i64 s.y, .bool s.hid, .int .u8 s.mouse, .string s.ttl, .slice s.T s.m s.q]
theorem scF_len (s : ScR) : (scF s).length = 9 := rfl
theorem one_sc (L : List ScR) : ∀ v ∈ rowV scF L, v.oneCell' = true := by
 induction L with
 | nil => intro v hv; cases hv
 | cons c L ih =>
  intro v hv
  simp only [rowV, List.mem_append] at hv
  rcases hv with hv | hv
  · simp only [scF, List.mem_cons, List.not_mem_nil, or_false] at hv
    rcases hv with rfl | rfl | rfl | rfl | rfl | rfl | rfl | rfl | rfl <;> rfl
  · exact ih v hv
abbrev Sx (w : World) (g : Nat) (s : ScR) : Prop := Rw scF 25 w g [s]
theorem Sx.new (w : World) (s : ScR) : Sx (w.alloc (.cells (scrA s) 25)) w.heap.size s := made_rw (f := scF) w 25 [s]
theorem sx_cells {w : World} {g : Nat} {s : ScR} (h : Sx w g s) : ScC w g s :=
 ⟨h.cell (j := 0) rfl, h.cell (j := 1) rfl, h.cell (j := 2) rfl, h.cell (j := 3) rfl, h.cell (j := 4) rfl, h.cell (j := 5) rfl, h.cell (j := 6) rfl, h.cell (j := 7) rfl, h.cell (j := 8) rfl, h.lt⟩
theorem sx_setA {w : World} {g : Nat} {s : ScR} (h : Sx w g s) (A : Option Addr) (n k : Nat) : Sx (w.setCell ⟨g, 2, none⟩ (.slice A n k)) g { s with A := A, n := n, k := k } := by
 obtain ⟨r, h⟩ := h
 exact ⟨r, by rw [heap_setCell_same w g 2 _ _ _ h]; rfl⟩
theorem sx_setT {w : World} {g : Nat} {s : ScR} (h : Sx w g s) (A : Option Addr) (n k : Nat) : Sx (w.setCell ⟨g, 8, none⟩ (.slice A n k)) g { s with T := A, m := n, q := k } := by
 obtain ⟨r, h⟩ := h
 exact ⟨r, by rw [heap_setCell_same w g 8 _ _ _ h]; rfl⟩
set_option maxHeartbeats 6400000 in
set_option maxRecDepth 100000 in
theorem refCopyS_any (h : ScIn w s S) (hn : s.n ≤ 60000) (hm : s.m ≤ 60000) :
  Calls Tryd.prog 10 #[.agg (scrA s)] w fun e w' => Below w.heap.size w w' ∧ ∃ s' : ScR, e = .returned (.agg (scrA s')) ∧ ScIn w' s' S ∧ s'.n = s.n ∧ s'.m = s.m := by
 obtain ⟨b, hb⟩ : ∃ b, b = w.heap.size := ⟨_, rfl⟩
 have HB := Lib.hid hb
 have H := Lib.hid h
 obtain ⟨w2, hw2⟩ : ∃ w2, w2 = ((w.alloc (.cells #[.int .i64 s.c, .int .i64 s.r, .slice s.A s.n s.k, .int .i64 s.x, .int .i64 s.y, .bool s.hid, .int .u8 s.mouse, .string s.ttl, .slice s.T s.m s.q] 25)).alloc (.cells #[.int .i64 0, .int .i64 0, .slice none 0 0, .int .i64 0, .int .i64 0, .bool false, .int .u8 0, .string ⟨#[]⟩, .slice none 0 0] 25)) := ⟨_, rfl⟩
 have H0 := Lib.hid (show Sx w2 b s ∧ Sx w2 (b + 1) scN ∧ Below w.heap.size w w2 ∧ w2.heap.size = b + 2 from by
  have h1 := Sx.new w s
  have h2 := Sx.new (w.alloc (.cells (scrA s) 25)) scN
  rw [World.size_alloc] at h2
  rw [hb, hw2]
  exact ⟨h1.below ((Below.refl _ _).alloc (Nat.le_refl _) _), h2, ((Below.refl _ _).alloc (Nat.le_refl _) _).alloc (by simp) _, by simp⟩)
 clear h
 unfold scrA
 go_enter Tryd.func10, Tryd.ntmps10
 go_upto_region 1 with fail
 rw [← hw2, ← hb]
 clear hw2 hb
 have HI := Lib.hid ((H.out.cells.below H0.out.2.2.1).below ((Below.refl _ _).alloc (Nat.le_refl _) (.cells #[] 37)))
 obtain ⟨_, _, p2, _⟩ := sx_cells H0.out.1
 have f2 := H0.out.1.free 2
 go_upto_region 2 with (at_builtin; refine wpList_app_V _ rfl _ _ 22 rfl ceV_len one_ce w2.heap.size 37 _ 20 (by omega) Tryd.underlying22 infoCe3 rfl (by omega) (.slice (some ⟨w2.heap.size, 0, none⟩) 0 0) 0 [] rfl (World.ownsRow_lit w2 #[] 0 (Nat.le_refl _) (by unfold maxLen; omega) rfl) s.A s.n s.k s.n (by omega) S.cells rfl HI.out (by omega) (by simp) ?_; intro P3 cp3 w3 hown hg3; simp only [List.nil_append] at hown; have H3 := Lib.hid (show Sx w3 b s ∧ Sx w3 (b + 1) scN ∧ Below w2.heap.size w2 w3 ∧ Vs ceV w3 P3 s.n S.cells ∧ s.n ≤ cp3 ∧ ∀ ad, P3 = some ad → w2.heap.size ≤ ad.block from by
  have hb3 : Below w2.heap.size w2 w3 := ((Below.refl _ _).alloc (Nat.le_refl _) _).grown hg3 (by simp) (fun k hk => by have : w2.heap.size = k := (by simpa [Value.ownBlock] using hk); omega)
  obtain ⟨A9, c9, e9, l1, l2⟩ := own_shape hown
  injection e9 with _ _ e9
  subst e9
  exact ⟨H0.out.1.below hb3, H0.out.2.1.below hb3, hb3, own_vs H.out.cells.len hown, l1, own_ge hown⟩); clear hown hg3 p2 f2; obtain ⟨_, _, p2, _⟩ := sx_cells H3.out.1; have f2 := H3.out.1.free 2)
 obtain ⟨w4, hw4⟩ : ∃ w4, w4 = w3.setCell ⟨b, 2, none⟩ (.slice P3 s.n cp3) := ⟨_, rfl⟩
 rw [← hw4]
 have H4 := Lib.hid (show Sx w4 b { s with A := P3, n := s.n, k := cp3 } ∧ Sx w4 (b + 1) scN ∧ Below w.heap.size w w4 ∧ Vs ceV w4 P3 s.n S.cells ∧ s.n ≤ cp3 ∧ b + 2 ≤ w4.heap.size ∧ (∀ ad, P3 = some ad → b + 2 ≤ ad.block) from by
  obtain ⟨k1, k2, k3, k4, k5, k7⟩ := H3.out
  have hs2 := H0.out.2.2.2
  have hbw := HB.out
  have hz3 := k3.size
  have hg4 : w3.grownBy w4 (some b) := by rw [hw4]; exact grownBy_set w3 ⟨b, 2, none⟩ _
  have hz4 := hg4.size
  have hbl : Below w.heap.size w w4 := (H0.out.2.2.1.trans (k3.mono (by omega))).grown hg4 (by omega) (fun k hk => by injection hk with hk; omega)
  exact ⟨by rw [hw4]; exact sx_setA k1 _ _ _, k2.grown hg4 (fun e => by injection e with e; omega), hbl, k4.grown hg4 (fun ad e _ e2 => by injection e2 with e2; have := k7 ad e; omega), k5, by omega, fun ad e => by have := k7 ad e; omega⟩)
 clear H3 hw4 p2 f2 HI
 have HI := Lib.hid ((H.out.links.below H4.out.2.2.1).below ((Below.refl _ _).alloc (Nat.le_refl _) (.cells #[] 9)))
 obtain ⟨_, _, _, _, _, _, _, _, p8, _⟩ := sx_cells H4.out.1
 have f8 := H4.out.1.free 8
 simp only at p8
 go_upto_region 3 with (at_builtin; refine wpList_app_V _ rfl _ _ 23 rfl stV_len one_st w4.heap.size 9 _ 16 (by omega) Tryd.underlying23 infoTx rfl (by omega) (.slice (some ⟨w4.heap.size, 0, none⟩) 0 0) 0 [] rfl (World.ownsRow_lit w4 #[] 0 (Nat.le_refl _) (by unfold maxLen; omega) rfl) s.T s.m s.q s.m (by omega) S.links rfl HI.out (by omega) (by simp) ?_; intro P5 cp5 w5 hown hg5; simp only [List.nil_append] at hown; have H5 := Lib.hid (show Sx w5 b { s with A := P3, n := s.n, k := cp3 } ∧ Sx w5 (b + 1) scN ∧ Below w4.heap.size w4 w5 ∧ Vs stV w5 P5 s.m S.links ∧ s.m ≤ cp5 ∧ ∀ ad, P5 = some ad → w4.heap.size ≤ ad.block from by
  have hb5 : Below w4.heap.size w4 w5 := ((Below.refl _ _).alloc (Nat.le_refl _) _).grown hg5 (by simp) (fun k hk => by have : w4.heap.size = k := (by simpa [Value.ownBlock] using hk); omega)
  obtain ⟨A9, c9, e9, l1, l2⟩ := own_shape hown
  injection e9 with _ _ e9
  subst e9
  exact ⟨H4.out.1.below hb5, H4.out.2.1.below hb5, hb5, own_vs H.out.links.len hown, l1, own_ge hown⟩); clear hown hg5 p8 f8; obtain ⟨_, _, _, _, _, _, _, _, p8, _⟩ := sx_cells H5.out.1; have f8 := H5.out.1.free 8; simp only at p8)
 obtain ⟨w6, hw6⟩ : ∃ w6, w6 = w5.setCell ⟨b, 8, none⟩ (.slice P5 s.m cp5) := ⟨_, rfl⟩
 rw [← hw6]
 have H6 := Lib.hid (show Sx w6 b { s with A := P3, n := s.n, k := cp3, T := P5, m := s.m, q := cp5 } ∧ Sx w6 (b + 1) scN ∧ Below w.heap.size w w6 ∧ Vs ceV w6 P3 s.n S.cells ∧ Vs stV w6 P5 s.m S.links ∧ s.m ≤ cp5 ∧ (∀ ad, P5 = some ad → b + 2 ≤ ad.block) from by
  obtain ⟨k1, k2, k3, k4, k5, k7⟩ := H5.out
  have hs4 := H4.out.2.2.2.2.2.1
  have hbw := HB.out
  have hz5 := k3.size
  have hg6 : w5.grownBy w6 (some b) := by rw [hw6]; exact grownBy_set w5 ⟨b, 8, none⟩ _
  have hz6 := hg6.size
  have hbl : Below w.heap.size w w6 := (H4.out.2.2.1.trans (k3.mono (by omega))).grown hg6 (by omega) (fun k hk => by injection hk with hk; omega)
  exact ⟨by rw [hw6]; exact sx_setT k1 _ _ _, k2.grown hg6 (fun e => by injection e with e; omega), hbl, (H4.out.2.2.2.1.below k3).grown hg6 (fun ad e _ e2 => by injection e2 with e2; have := H4.out.2.2.2.2.2.2 ad e; omega), k4.grown hg6 (fun ad e _ e2 => by injection e2 with e2; have := k7 ad e; omega), k5, fun ad e => by have := k7 ad e; omega⟩)
 clear H5 hw6 p8 f8 HI
 obtain ⟨p0, p1, p2, p3, p4, p5, p6, p7, p8, _⟩ := sx_cells H6.out.1
 simp only at p0 p1 p2 p3 p4 p5 p6 p7 p8
 go_wp2_with (refine wpList_store_V rfl 25 (.tmp 2) (.tmp 13) rfl scF_len one_sc info56 (b + 1) _ 0 { s with A := P3, n := s.n, k := cp3, T := P5, m := s.m, q := cp5 } _ rfl (by omega) rfl rfl 25 [scN] H6.out.2.1 (by decide) ?_; intro w7 hR7 hg7)
 have H7 := Lib.hid (show ScIn w7 { s with A := P3, n := s.n, k := cp3, T := P5, m := s.m, q := cp5 } S ∧ Below w.heap.size w w7 from by
  obtain ⟨k1, k2, k3, k4, k5, k6, k7⟩ := H6.out
  have hbw := HB.out
  refine ⟨{ H.out with cells := k4.grown hg7 (fun ad e _ e2 => by injection e2 with e2; have := H4.out.2.2.2.2.2.2 ad e; omega), links := k5.grown hg7 (fun ad e _ e2 => by injection e2 with e2; have := k7 ad e; omega), nk := H4.out.2.2.2.2.1, mq := k6 }, k3.grown hg7 k3.size (fun k hk => by injection hk with hk; omega)⟩)
 obtain ⟨y0, y1, y2, y3, y4, y5, y6, y7, y8, _⟩ := sx_cells (s := { s with A := P3, n := s.n, k := cp3, T := P5, m := s.m, q := cp5 }) hR7
 simp only at y0 y1 y2 y3 y4 y5 y6 y7 y8
 exact bodyPost_ret (v := .agg (scrA { s with A := P3, n := s.n, k := cp3, T := P5, m := s.m, q := cp5 })) (by simp [results, Tryd.results10, scrA, go_sem, y0, y1, y2, y3, y4, y5, y6, y7, y8]) rfl ⟨H7.out.2, _, rfl, H7.out.1, rfl, rfl⟩
end
end Go.Proofs.YtojchkhnalnncaaDoor
