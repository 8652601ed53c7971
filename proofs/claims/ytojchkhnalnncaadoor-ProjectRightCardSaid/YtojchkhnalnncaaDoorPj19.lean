/-
  Part 19 of what the laws of emul want: ProjScreen.
-/
import Derived.Test.YtojchkhnalnncaaDoorPj18
namespace Go.Proofs.YtojchkhnalnncaaDoor
open Go.RowKit
theorem sx_set6 {w : World} {g : Nat} {s : ScR} (h : Sx w g s) (z : Int) : Sx (w.setCell ⟨g, 6, none⟩ (.int .u8 z)) g { s with mouse := z } := by
 obtain ⟨r, h⟩ := h
 exact ⟨r, by rw [heap_setCell_same w g 6 _ _ _ h]; rfl⟩
theorem sx_set7 {w : World} {g : Nat} {s : ScR} (h : Sx w g s) (z : ByteArray) : Sx (w.setCell ⟨g, 7, none⟩ (.string z)) g { s with ttl := z } := by
 obtain ⟨r, h⟩ := h
 exact ⟨r, by rw [heap_setCell_same w g 7 _ _ _ h]; rfl⟩
structure S2 (w w1 : World) (b : Nat) (s q : ScR) : Prop where
 b1 : Sx w1 b s
 b2 : Sx w1 (b + 1) q
 bel : Below w.heap.size w w1
 lo : w.heap.size ≤ b
section
variable {w w1 w2 : World} {b : Nat} {s s' q : ScR}
theorem S2.lt (h : S2 w w1 b s q) : b + 2 ≤ w1.heap.size := h.b2.lt
theorem S2.on (h : S2 w w1 b s q) (hb : Below w1.heap.size w1 w2) : S2 w w2 b s q := ⟨h.b1.below hb, h.b2.below hb, h.bel.trans (hb.mono h.bel.size), h.lo⟩
theorem S2.set {k : Nat} {v : Value} (h : S2 w w1 b s q) (e : w2 = w1.setCell ⟨b, k, none⟩ v) (h' : Sx w2 b s') : S2 w w2 b s' q := by
 have hg : w1.grownBy w2 (some b) := by rw [e]; exact grownBy_set w1 ⟨b, k, none⟩ v
 exact ⟨h', h.b2.grown hg (by intro e; injection e with e; omega), h.bel.grown hg h.bel.size (fun k hk => by injection hk with hk; have := h.lo; omega), h.lo⟩
end
theorem zero_in (w : World) : ScIn w scN scZero :=
 ⟨rfl, rfl, rfl, rfl, rfl, rfl, rfl, Vs.nil _ _, Vs.nil _ _, Nat.le_refl _, by show 0 ≤ _; omega, Nat.le_refl _, (fun _ h => by cases h), (fun _ h => by cases h), by show (0 : Nat) ≤ _; omega⟩
theorem zero_own (base : Nat) (w : World) : ScOwn base w scN scZero :=
 ⟨zero_in w, ⟨rfl, Nat.le_refl _, by unfold maxLen; show 0 ≤ _; omega, fun h => absurd h (Nat.lt_irrefl 0)⟩, Tx.nil _ _, by show 0 ≤ _; omega, by show 0 ≤ _; omega⟩
theorem ScOwn.lower {base B : Nat} {w : World} {s : ScR} {S : Sc} (h : ScOwn base w s S) (hB : B ≤ base) : ScOwn B w s S := ⟨h.sc, h.cx.lower hB, h.tx.lower hB, h.n, h.m⟩
theorem ScOwn.grown {base : Nat} {w w' : World} {s : ScR} {S : Sc} (h : ScOwn base w s S) {g : Nat} (hg : w.grownBy w' (some g)) (hl : g < base) : ScOwn base w' s S := by
 have h1 := h.cx.grownP hg (fun hn k e => by obtain ⟨g', e', hb, _⟩ := h.cx.own hn; rw [e] at e'; injection e' with e'; injection e' with e'; intro e2; injection e2 with e2; omega)
 have h2 : Tx base w' s.T s.m s.q S.links := h.tx.grown hg (fun k e e2 => by injection e2 with e2; have := h.tx.ownB k (by rw [e]; rfl); omega)
 exact ⟨{ h.sc with cells := h1.vs, links := h2.vs }, h1, h2, h.n, h.m⟩
structure Swk (w wr : World) (b : Nat) (s : ScR) (S : Sc) : Prop where
 st : S2 w wr b s scN
 own : ScOwn (b + 2) wr s S
theorem Swk.noLinks {w w1 w2 : World} {b : Nat} {s : ScR} {S : Sc} (h : Swk w w1 b s S) (e : w2 = w1.setCell ⟨b, 8, none⟩ (.slice none 0 0)) : Swk w w2 b { s with T := none, m := 0, q := 0 } { S with links := [] } := by
 have hg : w1.grownBy w2 (some b) := by rw [e]; exact grownBy_set w1 _ _
 have h1 := h.own.grown hg (by omega)
 refine ⟨h.st.set e (by rw [e]; exact sx_setT h.st.b1 none 0 0), { h1.sc with links := Vs.nil _ _, mq := Nat.le_refl _, sz := fun _ h => by cases h }, h1.cx, Tx.nil _ _, h1.n, by show 0 ≤ _; omega⟩
theorem Swk.noTitle {w w1 w2 : World} {b : Nat} {s : ScR} {S : Sc} (h : Swk w w1 b s S) (e : w2 = w1.setCell ⟨b, 7, none⟩ (.string ⟨#[]⟩)) : Swk w w2 b { s with ttl := ⟨#[]⟩ } { S with title := [] } := by
 have hg : w1.grownBy w2 (some b) := by rw [e]; exact grownBy_set w1 _ _
 have h1 := h.own.grown hg (by omega)
 exact ⟨h.st.set e (by rw [e]; exact sx_set7 h.st.b1 _), { h1.sc with ttl := rfl, tz := by show (0 : Nat) ≤ _; omega }, h1.cx, h1.tx, h1.n, h1.m⟩
theorem Swk.noMouse {w w1 w2 : World} {b : Nat} {s : ScR} {S : Sc} (h : Swk w w1 b s S) (e : w2 = w1.setCell ⟨b, 6, none⟩ (.int .u8 0)) : Swk w w2 b { s with mouse := 0 } { S with mouse := 0 } := by
 have hg : w1.grownBy w2 (some b) := by rw [e]; exact grownBy_set w1 _ _
 have h1 := h.own.grown hg (by omega)
 exact ⟨h.st.set e (by rw [e]; exact sx_set6 h.st.b1 _), { h1.sc with mouse := rfl }, h1.cx, h1.tx, h1.n, h1.m⟩
theorem parts_set {b k n c m c' : Nat} {A A' : Option Addr} {L : List Ce} {M : List ByteArray} {w : World} {v : Value} (h : Cx (b + 2) w A n c L ∧ Tx (b + 2) w A' m c' M) : Cx (b + 2) (w.setCell ⟨b, k, none⟩ v) A n c L ∧ Tx (b + 2) (w.setCell ⟨b, k, none⟩ v) A' m c' M := by
 have hg : w.grownBy (w.setCell ⟨b, k, none⟩ v) (some b) := grownBy_set w ⟨b, k, none⟩ v
 exact ⟨h.1.grownP hg (fun hn k e => by obtain ⟨g', e', hb, _⟩ := h.1.own hn; rw [e] at e'; injection e' with e'; injection e' with e'; intro e2; injection e2 with e2; omega),
  h.2.grown hg (fun k e e2 => by injection e2 with e2; have := h.2.ownB k (by rw [e]; rfl); omega)⟩
def scC (f : Int) (S : Sc) : Sc := { S with cells := S.cells.map (celP f) }
theorem right_few {S : Sc} (h : rightSc S = true) : S.cells.length ≤ 1920 ∧ S.links.length ≤ 16 := by
 unfold rightSc at h
 simp only [Bool.and_eq_true] at h
 obtain ⟨⟨⟨⟨⟨⟨h1, h2⟩, _⟩, _⟩, _⟩, _⟩, _⟩ := h
 have h3 := (gridMay_iff _ _ _).1 h1
 unfold ordS at h2
 simp only [Bool.and_eq_true, decide_eq_true_eq] at h2
 exact ⟨by rw [h3.2.1]; exact h3.2.2.small, h2.1.1⟩
theorem S2.made {f : Int} {w wr : World} {b : Nat} {s : ScR} {S : Sc} {A A' : Option Addr} {c c' : Nat} (h : S2 w wr b { s with A := A, n := s.n, k := c, T := A', m := s.m, q := c' } scN) (hs : ScIn w s S ∧ rightSc S = true) (h1 : Cx (b + 2) wr A s.n c (S.cells.map (celP f))) (h2 : Tx (b + 2) wr A' s.m c' S.links) :
  Swk w wr b { s with A := A, n := s.n, k := c, T := A', m := s.m, q := c' } (scC f S) := by
 have hf := right_few hs.2
 have hn := hs.1.cells.len
 have hm := hs.1.links.len
 refine ⟨h, { hs.1 with cells := h1.vs, links := h2.vs, nk := h1.le, n9 := hs.1.n9, mq := h2.le, lk := fun x hx => ?_ }, h1, h2, by show s.n ≤ _; omega, by show s.m ≤ _; omega⟩
 obtain ⟨y, hy, rfl⟩ := List.mem_map.1 hx
 have := hs.1.lk y hy
 rw [cel_lk]
 split <;> omega
def ScEnd (S : Sc) (w : World) (e : Ending) (w' : World) : Prop := Below w.heap.size w w' ∧ ∃ s', e = .returned (.agg (scrA s')) ∧ ScOwn w.heap.size w' s' S
set_option maxHeartbeats 6400000 in
set_option maxRecDepth 100000 in
theorem pScreen_any {s : ScR} {S : Sc} {f : Int} {w : World} (hT : Tabs w) (hC : CTabs w) (h : ScIn w s S) (hp : PosC S.cells) (hn : s.n ≤ 60000) (hm : s.m ≤ 60000) (hf : 0 ≤ f ∧ f < 4294967296) :
  Calls Tryd.prog 11 #[.agg (scrA s), .int .u32 f] w (ScEnd (projS f S) w) := by
 have HP := Lib.hid hp
 have HF := Lib.hid hf
 have HN := Lib.hid (And.intro hn hm)
 have HL8 := Lib.hid (fun w => lacks_any (has8 hf) (by omega) w)
 have HL16 := Lib.hid (fun w => lacks_any (has16 hf) (by omega) w)
 have HL32 := Lib.hid (fun w => lacks_any (has32 hf) (by omega) w)
 have HLEN := Lib.hid h.cells.len
 have HLEM := Lib.hid h.links.len
 obtain ⟨b, hb⟩ : ∃ b, b = w.heap.size := ⟨_, rfl⟩
 have HBW := Lib.hid hb
 obtain ⟨w1, hw1⟩ : ∃ w1, w1 = (w.alloc (.cells (scrA s) 25)).alloc (.cells (scrA scN) 25) := ⟨_, rfl⟩
 have H0 := Lib.hid (show S2 w w1 b s scN from by
  have h1 := Sx.new w s
  have h2 := Sx.new (w.alloc (.cells (scrA s) 25)) scN
  rw [World.size_alloc] at h2
  rw [hb, hw1]
  exact ⟨h1.below ((Below.refl _ _).alloc (Nat.le_refl _) _), h2, ((Below.refl _ _).alloc (Nat.le_refl _) _).alloc (by simp) _, Nat.le_refl _⟩)
 have HC := Lib.hid (fun w' (hb' : Below w.heap.size w w') => hC.below hb' (Nat.le_refl _))
 have HI := Lib.hid (fun w' (hb' : Below w.heap.size w w') => h.below hb')
 have HR := Lib.hid (rightT_any (hT.below H0.out.bel (Nat.le_refl _)) (h.below H0.out.bel) hn hm)
 have HS0 := Lib.hid h
 clear hT hC h hp hf hn hm
 obtain ⟨a0, a1, a2, a3, a4, a5, a6, a7, a8, _⟩ := sx_cells H0.out.b1
 unfold scrA scN at hw1
 unfold scrA at HR ⊢
 dsimp only at hw1
 go_enter Tryd.func11, Tryd.ntmps11
 go_upto_region 1 with fail
 rw [← hw1, ← hb]
 clear hw1 hb
 go_wp2_with fail
 refine HR.out.mono ?_
 rintro e w2 ⟨rfl, hb2⟩
 have H2 := Lib.hid (H0.out.on hb2)
 clear HR a0 a1 a2 a3 a4 a5 a6 a7 a8 hb2 H0
 cases hRS : rightSc S
 · have HZ := Lib.hid (proj_no (f := f) hRS)
   clear hRS
   go_wp2_with (refine wpList_store_V rfl 25 (.tmp 4) (.tmp 8) rfl scF_len one_sc info56 (b + 1) _ 0 scN _ rfl (by omega) rfl rfl 25 [scN] H2.out.b2 (by decide) ?_; intro w7 hR7 hg7)
   have HE := Lib.hid (show Below w.heap.size w w7 ∧ ScOwn w.heap.size w7 scN scZero from ⟨H2.out.bel.grown hg7 H2.out.bel.size (fun k hk => by injection hk with hk; have := H2.out.lo; omega), zero_own _ _⟩)
   clear hg7 H2
   obtain ⟨y0, y1, y2, y3, y4, y5, y6, y7, y8, _⟩ := sx_cells (s := scN) hR7
   try dsimp only at y0 y1 y2 y3 y4 y5 y6 y7 y8
   exact bodyPost_ret (v := .agg (scrA scN)) (by simp [results, Tryd.results11, scrA, scN, go_sem, y0, y1, y2, y3, y4, y5, y6, y7, y8]) rfl ⟨HE.out.1, _, rfl, by rw [HZ.out]; exact HE.out.2⟩
 · have HZ := Lib.hid (proj_yes (f := f) hRS)
   have HS := Lib.hid (And.intro HS0.out hRS)
   clear hRS HS0
   go_upto_region 3 with fail
   go_cut [] from 9 to 17 (fun wc => ∃ s', Swk w wc b s' (scC f S))
   case first =>
    have H2 := Lib.hid (H2.out.on (Below.refl _ _).drew)
    refine wp_region_noPanic ?_
    refine wp_region_held_drew (S := fun _ => True) (by kernel_rfl) trivial (fun hHeld => ?_)
    generalize w2.drew = w2 at H2 ⊢
    have c2 := (sx_cells H2.out.b1).c2
    have c8 := (sx_cells H2.out.b1).c8
    refine wpAnyH_take (i := 0) (v := .pointer (some ⟨b, 2, none⟩)) rfl (by kernel_rfl) (by kernel_rfl) (by kernel_rfl) (fun _ _ _ h => h) (Or.inl ⟨by rfl, fun wz hSz => ?_⟩) hHeld ?_
    · go_simp
    simp only [Act.put, List.getElem_toArray, List.getElem_cons_zero]
    try simp only [List.setIfInBounds_toArray]
    try simp only [List.set_cons_succ]
    try simp only [List.set_cons_zero]
    refine wpAnyH_take (i := 2) (v := .int .u32 f) rfl (by kernel_rfl) (by kernel_rfl) (by kernel_rfl) (fun _ _ _ h => h) (Or.inl ⟨by rfl, fun wz hSz => ?_⟩) hHeld ?_
    · go_simp
    simp only [Act.put, List.getElem_toArray, List.getElem_cons_succ, List.getElem_cons_zero]
    try simp only [List.setIfInBounds_toArray]
    try simp only [List.set_cons_succ]
    try simp only [List.set_cons_zero]
    refine wpAnyH_take (i := 4) (v := .pointer (some ⟨b, 8, none⟩)) rfl (by kernel_rfl) (by kernel_rfl) (by kernel_rfl) (fun _ _ _ h => h) (Or.inl ⟨by rfl, fun wz hSz => ?_⟩) hHeld ?_
    · go_simp
    simp only [Act.put, List.getElem_toArray, List.getElem_cons_succ, List.getElem_cons_zero]
    try simp only [List.setIfInBounds_toArray]
    try simp only [List.set_cons_succ]
    try simp only [List.set_cons_zero]
    refine wpAnyH_ready (rs := [1, 5]) (by kernel_rfl) (by simp) (AllReadyH.cons rfl (fun K hK => ?_) (AllReadyH.cons rfl (fun K hK => ?_) AllReadyH.nil))
    · rw [if_pos (by rfl)]
      go_simp
      refine hK.out _ _ trivial (fun hHeld => ?_)
      clear hK K
      try simp only [Act.put, List.getElem_toArray, List.getElem_cons_succ, List.getElem_cons_zero]
      try simp only [List.setIfInBounds_toArray]
      try simp only [List.set_cons_succ]
      try simp only [List.set_cons_zero]
      refine wpAnyH_ready (rs := [3, 5]) (by kernel_rfl) (by simp) (AllReadyH.cons rfl (fun K hK => ?_) (AllReadyH.cons rfl (fun K hK => ?_) AllReadyH.nil))
      · rw [if_pos (by rfl)]
        go_simp
        refine (cellsBy_any (HC.out _ H2.out.bel) (HI.out _ H2.out.bel).cells HN.out.1 HP.out HF.out).mono ?_
        rintro e w3 ⟨hb, A3, c3, rfl, hcx⟩
        rw [HLEN.out]
        rw [HLEN.out] at hcx
        have H3 := Lib.hid (H2.out.on hb)
        have X3 := Lib.hid (show Cx (b + 2) w3 A3 s.n c3 (S.cells.map (celP f)) from hcx.lower H2.out.lt)
        clear hb hcx c2 c8
        have c8 := (sx_cells H3.out.b1).c8
        refine hK.out _ _ trivial (fun hHeld => ?_)
        clear hK K
        try simp only [Act.put, List.getElem_toArray, List.getElem_cons_succ, List.getElem_cons_zero]
        try simp only [List.setIfInBounds_toArray]
        try simp only [List.set_cons_succ]
        try simp only [List.set_cons_zero]
        refine wpAnyH_ready (rs := [5]) (by kernel_rfl) (by simp) (AllReadyH.cons rfl (fun K hK => ?_) AllReadyH.nil)
        rw [if_pos (by rfl)]
        go_simp
        refine hK.out _ _ trivial (fun hHeld => ?_)
        clear hK K
        try simp only [Act.put, List.getElem_toArray, List.getElem_cons_succ, List.getElem_cons_zero]
        try simp only [List.setIfInBounds_toArray]
        try simp only [List.set_cons_succ]
        try simp only [List.set_cons_zero]
        refine wpAnyH_take (i := 7) (v := .pointer (some ⟨b, 2, none⟩)) rfl (by kernel_rfl) (by kernel_rfl) (by kernel_rfl) (fun _ _ _ h => h) (Or.inl ⟨by rfl, fun wz hSz => ?_⟩) hHeld ?_
        · go_simp
        simp only [Act.put, List.getElem_toArray, List.getElem_cons_succ, List.getElem_cons_zero]
        try simp only [List.setIfInBounds_toArray]
        try simp only [List.set_cons_succ]
        try simp only [List.set_cons_zero]
        refine wpAnyH_ready (rs := [6]) (by kernel_rfl) (by simp) (AllReadyH.cons rfl (fun K hK => ?_) AllReadyH.nil)
        rw [if_pos (by rfl)]
        go_simp
        refine (cloneT_any (HI.out _ H3.out.bel).links (by have := HN.out.2; omega)).mono ?_
        rintro e w4 ⟨v, rfl, hb, A4, c4, rfl, htx⟩
        rw [HLEM.out]
        rw [HLEM.out] at htx
        have H4 := Lib.hid (H3.out.on hb)
        have X4 := Lib.hid (show Cx (b + 2) w4 A3 s.n c3 (S.cells.map (celP f)) ∧ Tx (b + 2) w4 A4 s.m c4 S.links from ⟨X3.out.below hb, htx.lower H3.out.lt⟩)
        clear hb htx c8
        have f2 := H4.out.b1.free 2
        have d2 := (sx_cells H4.out.b1).c2
        have H5 := Lib.hid (H4.out.set rfl (sx_setA H4.out.b1 A3 s.n c3))
        have f8 := H5.out.b1.free 8
        have d8 := (sx_cells H5.out.b1).c8
        have H6 := Lib.hid (H5.out.set rfl (sx_setT H5.out.b1 A4 s.m c4))
        dsimp only at d2 d8
        refine hK.out _ _ trivial (fun hHeld => ?_)
        clear hK K
        try simp only [Act.put, List.getElem_toArray, List.getElem_cons_succ, List.getElem_cons_zero]
        try simp only [List.setIfInBounds_toArray]
        try simp only [List.set_cons_succ]
        try simp only [List.set_cons_zero]
        refine wpAnyH_ready (rs := [8]) (by kernel_rfl) (by simp) (AllReadyH.cons rfl (fun K hK => ?_) AllReadyH.nil)
        rw [if_pos (by rfl)]
        go_simp
        refine hK.out _ _ trivial (fun hHeld => ?_)
        clear hK K
        try simp only [Act.put, List.getElem_toArray, List.getElem_cons_succ, List.getElem_cons_zero]
        try simp only [List.setIfInBounds_toArray]
        try simp only [List.set_cons_succ]
        try simp only [List.set_cons_zero]
        refine wpAnyH_take (i := 9) (v := .pointer (some ⟨b, 8, none⟩)) rfl (by kernel_rfl) (by kernel_rfl) (by kernel_rfl) (fun _ _ _ h => h) (Or.inl ⟨by rfl, fun wz hSz => ?_⟩) hHeld ?_
        · go_simp
        simp only [Act.put, List.getElem_toArray, List.getElem_cons_succ, List.getElem_cons_zero]
        try simp only [List.setIfInBounds_toArray]
        try simp only [List.set_cons_succ]
        try simp only [List.set_cons_zero]
        refine wpAnyH_ready (rs := [10]) (by kernel_rfl) (by simp) (AllReadyH.cons rfl (fun K hK => ?_) AllReadyH.nil)
        rw [if_pos (by rfl)]
        go_simp
        refine hK.out _ _ trivial (fun hHeld => ?_)
        clear hK K
        try simp only [Act.put, List.getElem_toArray, List.getElem_cons_succ, List.getElem_cons_zero]
        try simp only [List.setIfInBounds_toArray]
        try simp only [List.set_cons_succ]
        try simp only [List.set_cons_zero]
        refine wpAnyH_done (by kernel_rfl) ?_ _
        refine NoPanic.normal ?_
        refine meetP_end (by assumption) (by assumption) ?_
        (repeat apply Exists.intro)
        refine ⟨?rel, rfl⟩
        case rel => exact ⟨_, S2.made (s := s) H6.out HS.out (parts_set (parts_set X4.out)).1 (parts_set (parts_set X4.out)).2⟩
      · rw [if_pos (by rfl)]
        go_simp
        refine hK.out _ _ trivial (fun hHeld => ?_)
        clear hK K
        try simp only [Act.put, List.getElem_toArray, List.getElem_cons_succ, List.getElem_cons_zero]
        try simp only [List.setIfInBounds_toArray]
        try simp only [List.set_cons_succ]
        try simp only [List.set_cons_zero]
        refine wpAnyH_ready (rs := [3]) (by kernel_rfl) (by simp) (AllReadyH.cons rfl (fun K hK => ?_) AllReadyH.nil)
        rw [if_pos (by rfl)]
        go_simp
        refine (cellsBy_any (HC.out _ H2.out.bel) (HI.out _ H2.out.bel).cells HN.out.1 HP.out HF.out).mono ?_
        rintro e w3 ⟨hb, A3, c3, rfl, hcx⟩
        rw [HLEN.out]
        rw [HLEN.out] at hcx
        have H3 := Lib.hid (H2.out.on hb)
        have X3 := Lib.hid (show Cx (b + 2) w3 A3 s.n c3 (S.cells.map (celP f)) from hcx.lower H2.out.lt)
        clear hb hcx c2 c8
        have c8 := (sx_cells H3.out.b1).c8
        refine hK.out _ _ trivial (fun hHeld => ?_)
        clear hK K
        try simp only [Act.put, List.getElem_toArray, List.getElem_cons_succ, List.getElem_cons_zero]
        try simp only [List.setIfInBounds_toArray]
        try simp only [List.set_cons_succ]
        try simp only [List.set_cons_zero]
        refine wpAnyH_take (i := 7) (v := .pointer (some ⟨b, 2, none⟩)) rfl (by kernel_rfl) (by kernel_rfl) (by kernel_rfl) (fun _ _ _ h => h) (Or.inl ⟨by rfl, fun wz hSz => ?_⟩) hHeld ?_
        · go_simp
        simp only [Act.put, List.getElem_toArray, List.getElem_cons_succ, List.getElem_cons_zero]
        try simp only [List.setIfInBounds_toArray]
        try simp only [List.set_cons_succ]
        try simp only [List.set_cons_zero]
        refine wpAnyH_ready (rs := [6]) (by kernel_rfl) (by simp) (AllReadyH.cons rfl (fun K hK => ?_) AllReadyH.nil)
        rw [if_pos (by rfl)]
        go_simp
        refine (cloneT_any (HI.out _ H3.out.bel).links (by have := HN.out.2; omega)).mono ?_
        rintro e w4 ⟨v, rfl, hb, A4, c4, rfl, htx⟩
        rw [HLEM.out]
        rw [HLEM.out] at htx
        have H4 := Lib.hid (H3.out.on hb)
        have X4 := Lib.hid (show Cx (b + 2) w4 A3 s.n c3 (S.cells.map (celP f)) ∧ Tx (b + 2) w4 A4 s.m c4 S.links from ⟨X3.out.below hb, htx.lower H3.out.lt⟩)
        clear hb htx c8
        have f2 := H4.out.b1.free 2
        have d2 := (sx_cells H4.out.b1).c2
        have H5 := Lib.hid (H4.out.set rfl (sx_setA H4.out.b1 A3 s.n c3))
        have f8 := H5.out.b1.free 8
        have d8 := (sx_cells H5.out.b1).c8
        have H6 := Lib.hid (H5.out.set rfl (sx_setT H5.out.b1 A4 s.m c4))
        dsimp only at d2 d8
        refine hK.out _ _ trivial (fun hHeld => ?_)
        clear hK K
        try simp only [Act.put, List.getElem_toArray, List.getElem_cons_succ, List.getElem_cons_zero]
        try simp only [List.setIfInBounds_toArray]
        try simp only [List.set_cons_succ]
        try simp only [List.set_cons_zero]
        refine wpAnyH_ready (rs := [8]) (by kernel_rfl) (by simp) (AllReadyH.cons rfl (fun K hK => ?_) AllReadyH.nil)
        rw [if_pos (by rfl)]
        go_simp
        refine hK.out _ _ trivial (fun hHeld => ?_)
        clear hK K
        try simp only [Act.put, List.getElem_toArray, List.getElem_cons_succ, List.getElem_cons_zero]
        try simp only [List.setIfInBounds_toArray]
        try simp only [List.set_cons_succ]
        try simp only [List.set_cons_zero]
        refine wpAnyH_take (i := 9) (v := .pointer (some ⟨b, 8, none⟩)) rfl (by kernel_rfl) (by kernel_rfl) (by kernel_rfl) (fun _ _ _ h => h) (Or.inl ⟨by rfl, fun wz hSz => ?_⟩) hHeld ?_
        · go_simp
        simp only [Act.put, List.getElem_toArray, List.getElem_cons_succ, List.getElem_cons_zero]
        try simp only [List.setIfInBounds_toArray]
        try simp only [List.set_cons_succ]
        try simp only [List.set_cons_zero]
        refine wpAnyH_ready (rs := [10]) (by kernel_rfl) (by simp) (AllReadyH.cons rfl (fun K hK => ?_) AllReadyH.nil)
        rw [if_pos (by rfl)]
        go_simp
        refine hK.out _ _ trivial (fun hHeld => ?_)
        clear hK K
        try simp only [Act.put, List.getElem_toArray, List.getElem_cons_succ, List.getElem_cons_zero]
        try simp only [List.setIfInBounds_toArray]
        try simp only [List.set_cons_succ]
        try simp only [List.set_cons_zero]
        refine wpAnyH_done (by kernel_rfl) ?_ _
        refine NoPanic.normal ?_
        refine meetP_end (by assumption) (by assumption) ?_
        (repeat apply Exists.intro)
        refine ⟨?rel, rfl⟩
        case rel => exact ⟨_, S2.made (s := s) H6.out HS.out (parts_set (parts_set X4.out)).1 (parts_set (parts_set X4.out)).2⟩
    · rw [if_pos (by rfl)]
      go_simp
      refine hK.out _ _ trivial (fun hHeld => ?_)
      clear hK K
      try simp only [Act.put, List.getElem_toArray, List.getElem_cons_succ, List.getElem_cons_zero]
      try simp only [List.setIfInBounds_toArray]
      try simp only [List.set_cons_succ]
      try simp only [List.set_cons_zero]
      refine wpAnyH_ready (rs := [1]) (by kernel_rfl) (by simp) (AllReadyH.cons rfl (fun K hK => ?_) AllReadyH.nil)
      rw [if_pos (by rfl)]
      go_simp
      refine hK.out _ _ trivial (fun hHeld => ?_)
      clear hK K
      try simp only [Act.put, List.getElem_toArray, List.getElem_cons_succ, List.getElem_cons_zero]
      try simp only [List.setIfInBounds_toArray]
      try simp only [List.set_cons_succ]
      try simp only [List.set_cons_zero]
      refine wpAnyH_ready (rs := [3]) (by kernel_rfl) (by simp) (AllReadyH.cons rfl (fun K hK => ?_) AllReadyH.nil)
      rw [if_pos (by rfl)]
      go_simp
      refine (cellsBy_any (HC.out _ H2.out.bel) (HI.out _ H2.out.bel).cells HN.out.1 HP.out HF.out).mono ?_
      rintro e w3 ⟨hb, A3, c3, rfl, hcx⟩
      rw [HLEN.out]
      rw [HLEN.out] at hcx
      have H3 := Lib.hid (H2.out.on hb)
      have X3 := Lib.hid (show Cx (b + 2) w3 A3 s.n c3 (S.cells.map (celP f)) from hcx.lower H2.out.lt)
      clear hb hcx c2 c8
      have c8 := (sx_cells H3.out.b1).c8
      refine hK.out _ _ trivial (fun hHeld => ?_)
      clear hK K
      try simp only [Act.put, List.getElem_toArray, List.getElem_cons_succ, List.getElem_cons_zero]
      try simp only [List.setIfInBounds_toArray]
      try simp only [List.set_cons_succ]
      try simp only [List.set_cons_zero]
      refine wpAnyH_take (i := 7) (v := .pointer (some ⟨b, 2, none⟩)) rfl (by kernel_rfl) (by kernel_rfl) (by kernel_rfl) (fun _ _ _ h => h) (Or.inl ⟨by rfl, fun wz hSz => ?_⟩) hHeld ?_
      · go_simp
      simp only [Act.put, List.getElem_toArray, List.getElem_cons_succ, List.getElem_cons_zero]
      try simp only [List.setIfInBounds_toArray]
      try simp only [List.set_cons_succ]
      try simp only [List.set_cons_zero]
      refine wpAnyH_ready (rs := [6]) (by kernel_rfl) (by simp) (AllReadyH.cons rfl (fun K hK => ?_) AllReadyH.nil)
      rw [if_pos (by rfl)]
      go_simp
      refine (cloneT_any (HI.out _ H3.out.bel).links (by have := HN.out.2; omega)).mono ?_
      rintro e w4 ⟨v, rfl, hb, A4, c4, rfl, htx⟩
      rw [HLEM.out]
      rw [HLEM.out] at htx
      have H4 := Lib.hid (H3.out.on hb)
      have X4 := Lib.hid (show Cx (b + 2) w4 A3 s.n c3 (S.cells.map (celP f)) ∧ Tx (b + 2) w4 A4 s.m c4 S.links from ⟨X3.out.below hb, htx.lower H3.out.lt⟩)
      clear hb htx c8
      have f2 := H4.out.b1.free 2
      have d2 := (sx_cells H4.out.b1).c2
      have H5 := Lib.hid (H4.out.set rfl (sx_setA H4.out.b1 A3 s.n c3))
      have f8 := H5.out.b1.free 8
      have d8 := (sx_cells H5.out.b1).c8
      have H6 := Lib.hid (H5.out.set rfl (sx_setT H5.out.b1 A4 s.m c4))
      dsimp only at d2 d8
      refine hK.out _ _ trivial (fun hHeld => ?_)
      clear hK K
      try simp only [Act.put, List.getElem_toArray, List.getElem_cons_succ, List.getElem_cons_zero]
      try simp only [List.setIfInBounds_toArray]
      try simp only [List.set_cons_succ]
      try simp only [List.set_cons_zero]
      refine wpAnyH_ready (rs := [8]) (by kernel_rfl) (by simp) (AllReadyH.cons rfl (fun K hK => ?_) AllReadyH.nil)
      rw [if_pos (by rfl)]
      go_simp
      refine hK.out _ _ trivial (fun hHeld => ?_)
      clear hK K
      try simp only [Act.put, List.getElem_toArray, List.getElem_cons_succ, List.getElem_cons_zero]
      try simp only [List.setIfInBounds_toArray]
      try simp only [List.set_cons_succ]
      try simp only [List.set_cons_zero]
      refine wpAnyH_take (i := 9) (v := .pointer (some ⟨b, 8, none⟩)) rfl (by kernel_rfl) (by kernel_rfl) (by kernel_rfl) (fun _ _ _ h => h) (Or.inl ⟨by rfl, fun wz hSz => ?_⟩) hHeld ?_
      · go_simp
      simp only [Act.put, List.getElem_toArray, List.getElem_cons_succ, List.getElem_cons_zero]
      try simp only [List.setIfInBounds_toArray]
      try simp only [List.set_cons_succ]
      try simp only [List.set_cons_zero]
      refine wpAnyH_ready (rs := [10]) (by kernel_rfl) (by simp) (AllReadyH.cons rfl (fun K hK => ?_) AllReadyH.nil)
      rw [if_pos (by rfl)]
      go_simp
      refine hK.out _ _ trivial (fun hHeld => ?_)
      clear hK K
      try simp only [Act.put, List.getElem_toArray, List.getElem_cons_succ, List.getElem_cons_zero]
      try simp only [List.setIfInBounds_toArray]
      try simp only [List.set_cons_succ]
      try simp only [List.set_cons_zero]
      refine wpAnyH_done (by kernel_rfl) ?_ _
      refine NoPanic.normal ?_
      refine meetP_end (by assumption) (by assumption) ?_
      (repeat apply Exists.intro)
      refine ⟨?rel, rfl⟩
      case rel => exact ⟨_, S2.made (s := s) H6.out HS.out (parts_set (parts_set X4.out)).1 (parts_set (parts_set X4.out)).2⟩
   case rest =>
    obtain ⟨s1, h1⟩ := hcut
    have V1 := Lib.hid h1
    clear h1 H2
    go_wp2_with fail
    refine (HL8.out _).mono ?_
    rintro e w3 ⟨rfl, rfl⟩
    obtain ⟨B, hB⟩ : ∃ B, hasB f 3 = B := ⟨_, rfl⟩
    rw [hB]
    have HB3 := Lib.hid hB
    clear hB
    go_upto_if 19 with fail
    go_cut [] from 20 to 20 (fun wc => ∃ s', Swk w wc b s' { scC f S with links := if hasB f 3 = true then S.links else [] })
    case first =>
     cases B
     · have f0 := V1.out.st.b1.free 8
       have c0 := (sx_cells V1.out.st.b1).c8
       have V := Lib.hid (V1.out.noLinks rfl)
       go_wp2_with fail
       go_meet
       case rel => exact ⟨_, by rw [HB3.out]; exact V.out⟩
     · go_wp2_with fail
       go_meet
       case rel => exact ⟨_, by rw [HB3.out]; exact V1.out⟩
    case rest =>
    obtain ⟨s3, h1⟩ := hcut
    have V3 := Lib.hid h1
    clear h1 V1 HB3
    go_wp2_with fail
    refine (HL16.out _).mono ?_
    rintro e w4 ⟨rfl, rfl⟩
    obtain ⟨B, hB⟩ : ∃ B, hasB f 4 = B := ⟨_, rfl⟩
    rw [hB]
    have HB4 := Lib.hid hB
    clear hB
    go_upto_if 22 with fail
    go_cut [] from 23 to 23 (fun wc => ∃ s', Swk w wc b s' { { scC f S with links := if hasB f 3 = true then S.links else [] } with title := if hasB f 4 = true then S.title else [] })
    case first =>
     cases B
     · have f0 := V3.out.st.b1.free 7
       have c0 := (sx_cells V3.out.st.b1).c7
       have V := Lib.hid (V3.out.noTitle rfl)
       go_wp2_with fail
       go_meet
       case rel => exact ⟨_, by rw [HB4.out]; exact V.out⟩
     · go_wp2_with fail
       go_meet
       case rel => exact ⟨_, by rw [HB4.out]; exact V3.out⟩
    case rest =>
    obtain ⟨s4, h1⟩ := hcut
    have V4 := Lib.hid h1
    clear h1 V3 HB4
    go_wp2_with fail
    refine (HL32.out _).mono ?_
    rintro e w5 ⟨rfl, rfl⟩
    obtain ⟨B, hB⟩ : ∃ B, hasB f 5 = B := ⟨_, rfl⟩
    rw [hB]
    have HB5 := Lib.hid hB
    clear hB
    go_upto_if 25 with fail
    go_cut [] from 26 to 26 (fun wc => ∃ s', Swk w wc b s' { { { scC f S with links := if hasB f 3 = true then S.links else [] } with title := if hasB f 4 = true then S.title else [] } with mouse := if hasB f 5 = true then S.mouse else 0 })
    case first =>
     cases B
     · have f0 := V4.out.st.b1.free 6
       have c0 := (sx_cells V4.out.st.b1).c6
       have V := Lib.hid (V4.out.noMouse rfl)
       go_wp2_with fail
       go_meet
       case rel => exact ⟨_, by rw [HB5.out]; exact V.out⟩
     · go_wp2_with fail
       go_meet
       case rel => exact ⟨_, by rw [HB5.out]; exact V4.out⟩
    case rest =>
    obtain ⟨s5, h1⟩ := hcut
    have V5 := Lib.hid h1
    clear h1 V4 HB5
    have V6 := Lib.hid (show Swk w wc b s5 (scrP f S) from V5.out)
    clear V5
    obtain ⟨a0, a1, a2, a3, a4, a5, a6, a7, a8, _⟩ := sx_cells V6.out.st.b1
    go_wp2_with (refine wpList_store_V rfl 25 (.tmp 4) (.tmp 27) rfl scF_len one_sc info56 (b + 1) _ 0 s5 _ rfl (by omega) rfl rfl 25 [scN] V6.out.st.b2 (by decide) ?_; intro w7 hR7 hg7)
    have HE := Lib.hid (show Below w.heap.size w w7 ∧ ScOwn w.heap.size w7 s5 (scrP f S) from ⟨V6.out.st.bel.grown hg7 V6.out.st.bel.size (fun k hk => by injection hk with hk; have := V6.out.st.lo; omega), (V6.out.own.grown hg7 (by omega)).lower (by have := V6.out.st.lo; omega)⟩)
    clear hg7 V6
    obtain ⟨y0, y1, y2, y3, y4, y5, y6, y7, y8, _⟩ := sx_cells (s := s5) hR7
    try dsimp only at y0 y1 y2 y3 y4 y5 y6 y7 y8
    exact bodyPost_ret (v := .agg (scrA s5)) (by simp [results, Tryd.results11, scrA, go_sem, y0, y1, y2, y3, y4, y5, y6, y7, y8]) rfl ⟨HE.out.1, _, rfl, by rw [HZ.out]; exact HE.out.2⟩
end Go.Proofs.YtojchkhnalnncaaDoor
