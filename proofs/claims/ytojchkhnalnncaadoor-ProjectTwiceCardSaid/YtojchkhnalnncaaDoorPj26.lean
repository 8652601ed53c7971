/-
  Part 26 of what the laws of emul want: ProjRef.
-/
import Derived.Test.YtojchkhnalnncaaDoorPj21
import Derived.Test.YtojchkhnalnncaaDoorPj25
namespace Go.Proofs.YtojchkhnalnncaaDoor
open Go.RowKit
def scO (s : ScR) (A : Option Addr) (k cap : Nat) : ScR := ⟨s.c, s.r, A, k, cap, s.x, s.y, s.hid, 0, ⟨#[]⟩, none, 0, 0⟩
theorem sx_setAO {w : World} {g : Nat} {s : ScR} {A A' : Option Addr} {k k' c c' : Nat} (h : Sx w g (scO s A k c)) : Sx (w.setCell ⟨g, 2, none⟩ (.slice A' k' c')) g (scO s A' k' c') := sx_setA h A' k' c'
structure PRl (w wr : World) (b bo : Nat) (s : ScR) (A : Option Addr) (k cap : Nat) (L : List Ce) : Prop where
 st : S2 w wr b s scN
 so : Sx wr bo (scO s A k cap)
 own : wr.ownsRow (bo + 1) 37 6 (.slice A k cap) k (rowV ceV L)
 gt : b + 1 < bo
section
variable {w wr w2 : World} {b bo k cap : Nat} {s : ScR} {A : Option Addr} {L : List Ce}
theorem PRl.on (h : PRl w wr b bo s A k cap L) (hb : Below wr.heap.size wr w2) : PRl w w2 b bo s A k cap L :=
 ⟨h.st.on hb, h.so.below hb, row_same h.own fun q hq => hb.block q (h.own.lt q hq).2, h.gt⟩
theorem PRl.far (h : PRl w wr b bo s A k cap L) {g : Nat} (hg : wr.grownBy w2 (some g)) (hl : bo < g) (hn : ∀ q, (Value.slice A k cap).ownBlock = some q → q ≠ g) : PRl w w2 b bo s A k cap L :=
 ⟨⟨h.st.b1.grown hg (by have := h.gt; intro e; injection e with e; omega), h.st.b2.grown hg (by have := h.gt; intro e; injection e with e; omega), h.st.bel.grown hg h.st.bel.size (fun q hq => by injection hq with hq; have := h.st.lo; have := h.gt; omega), h.st.lo⟩,
  h.so.grown hg (by intro e; injection e with e; omega), row_same h.own fun q hq => hg.block q (h.own.lt q hq).2 (fun e => hn q hq (by injection e)), h.gt⟩
end
section
variable {w wr w8 w9 : World} {b bo k cap c5 : Nat} {s : ScR} {A A5 : Option Addr} {L : List Ce} {z : Ce}
theorem PRl.so9 (h : PRl w wr b bo s A k cap L) (hb : Below wr.heap.size wr w8) (hg : w8.grownBy w9 (Value.slice A k cap).ownBlock) : Sx w9 bo (scO s A k cap) :=
 (h.so.below hb).grown hg (fun e => by have := (h.own.lt bo e).1; omega)
theorem PRl.more (h : PRl w wr b bo s A k cap L) (hb : Below wr.heap.size wr w8) (hg : w8.grownBy w9 (Value.slice A k cap).ownBlock) (hown : w9.ownsRow (bo + 1) 37 6 (.slice A5 (k + 1) c5) (k + 1) (rowV ceV (L ++ [z]))) :
  PRl w (w9.setCell ⟨bo, 2, none⟩ (.slice A5 (k + 1) c5)) b bo s A5 (k + 1) c5 (L ++ [z]) := by
 have hs := h.st.on hb
 have hgt := h.gt
 have hlo := h.st.lo
 have ho : ∀ q, (Value.slice A k cap).ownBlock = some q → bo + 1 ≤ q := fun q hq => (h.own.lt q hq).1
 have hset : w9.grownBy (w9.setCell ⟨bo, 2, none⟩ (.slice A5 (k + 1) c5)) (some bo) := grownBy_set w9 _ _
 have hso := h.so9 hb hg
 refine ⟨⟨(hs.b1.grown hg (fun e => by have := ho b e; omega)).grown hset (by intro e; injection e with e; omega), (hs.b2.grown hg (fun e => by have := ho (b + 1) e; omega)).grown hset (by intro e; injection e with e; omega),
  (hs.bel.grown hg hs.bel.size (fun q hq => by have := ho q hq; omega)).grown hset (Nat.le_trans hs.bel.size hg.size) (fun q hq => by injection hq with hq; omega), hlo⟩, sx_setAO hso, row_same hown fun q hq => hset.block q (hown.lt q hq).2 (fun e => by have := (hown.lt q hq).1; injection e with e; omega), hgt⟩
end
structure PRi (w wr : World) (b bo cb : Nat) (s : ScR) (A : Option Addr) (k cap : Nat) (L : List Ce) (x : Ce) : Prop where
 rl : PRl w wr b bo s A k cap L
 ce : Cb wr cb x
 lt : bo < cb
 hi : ∀ q, (Value.slice A k cap).ownBlock = some q → q < cb
section
variable {w wr w2 : World} {b bo cb k cap : Nat} {s : ScR} {A : Option Addr} {L : List Ce} {x : Ce}
theorem PRi.on (h : PRi w wr b bo cb s A k cap L x) (hb : Below wr.heap.size wr w2) : PRi w w2 b bo cb s A k cap L x := ⟨h.rl.on hb, h.ce.below hb, h.lt, h.hi⟩
theorem PRi.far (h : PRi w wr b bo cb s A k cap L x) {g : Nat} (hg : wr.grownBy w2 (some g)) (hl : cb < g) : PRi w w2 b bo cb s A k cap L x :=
 ⟨h.rl.far hg (by have := h.lt; omega) (fun q hq => by have := h.hi q hq; omega), h.ce.grown hg (by intro e; injection e with e; omega), h.lt, h.hi⟩
theorem PRl.round (h : PRl w wr b bo s A k cap L) (x : Ce) (hs : bo < wr.heap.size) : PRi w (wr.alloc (.cells (ceA x) 37)) b bo wr.heap.size s A k cap L x :=
 ⟨h.on ((Below.refl _ _).alloc (Nat.le_refl _) _), Cb.new wr x, hs, fun q hq => (h.own.lt q hq).2⟩
end
def scT (f : Int) (S : Sc) : Sc := { S with cells := S.cells.map (celP f), links := [], title := [], mouse := 0 }
structure PRt (w wr : World) (b bo : Nat) (s o : ScR) (S : Sc) : Prop where
 st : S2 w wr b s scN
 so : Sx wr bo o
 own : ScOwn (bo + 1) wr o S
 gt : b + 1 < bo
section
variable {w wr w2 : World} {b bo : Nat} {s o : ScR} {S : Sc}
theorem PRt.on (h : PRt w wr b bo s o S) (hb : Below wr.heap.size wr w2) : PRt w w2 b bo s o S := ⟨h.st.on hb, h.so.below hb, h.own.below hb, h.gt⟩
theorem PRt.cell {k : Nat} {v : Value} {o' : ScR} {S' : Sc} (h : PRt w wr b bo s o S) (e : w2 = wr.setCell ⟨bo, k, none⟩ v) (h' : Sx w2 bo o') (h2 : ScOwn (bo + 1) w2 o' S') : PRt w w2 b bo s o' S' := by
 have hg : wr.grownBy w2 (some bo) := by rw [e]; exact grownBy_set wr ⟨bo, k, none⟩ v
 have hgt := h.gt
 have hlo := h.st.lo
 exact ⟨⟨h.st.b1.grown hg (by intro e; injection e with e; omega), h.st.b2.grown hg (by intro e; injection e with e; omega), h.st.bel.grown hg h.st.bel.size (fun q hq => by injection hq with hq; omega), hlo⟩, h', h2, hgt⟩
theorem PRt.setLinks {A : Option Addr} {m c : Nat} {M : List ByteArray} (h : PRt w wr b bo s o S) (ht : Tx (bo + 1) wr A m c M) (hm : m ≤ 16) (hz : ∀ u ∈ M, u.size ≤ 140737488351232) : PRt w (wr.setCell ⟨bo, 8, none⟩ (.slice A m c)) b bo s { o with T := A, m := m, q := c } { S with links := M } := by
 have hg : wr.grownBy (wr.setCell ⟨bo, 8, none⟩ (.slice A m c)) (some bo) := grownBy_set wr ⟨bo, 8, none⟩ _
 have h1 := h.own.grown hg (by omega)
 have h2 : Tx (bo + 1) (wr.setCell ⟨bo, 8, none⟩ (.slice A m c)) A m c M := ht.grown hg (fun k e e2 => by injection e2 with e2; have := ht.ownB k (by rw [e]; rfl); omega)
 exact h.cell rfl (sx_setT h.so A m c) ⟨{ h1.sc with links := h2.vs, mq := h2.le, sz := hz }, h1.cx, h2, h1.n, hm⟩
theorem PRt.setTitle {t : ByteArray} {T : List Int} (h : PRt w wr b bo s o S) (ht : T = sL t) (hz : t.size ≤ 140737488351232) : PRt w (wr.setCell ⟨bo, 7, none⟩ (.string t)) b bo s { o with ttl := t } { S with title := T } := by
 have hg : wr.grownBy (wr.setCell ⟨bo, 7, none⟩ (.string t)) (some bo) := grownBy_set wr ⟨bo, 7, none⟩ _
 have h1 := h.own.grown hg (by omega)
 exact h.cell rfl (sx_set7 h.so t) ⟨{ h1.sc with ttl := ht, tz := hz }, h1.cx, h1.tx, h1.n, h1.m⟩
theorem PRt.setMouse {z z' : Int} (h : PRt w wr b bo s o S) (e : z' = z) : PRt w (wr.setCell ⟨bo, 6, none⟩ (.int .u8 z)) b bo s { o with mouse := z } { S with mouse := z' } := by
 have hg : wr.grownBy (wr.setCell ⟨bo, 6, none⟩ (.int .u8 z)) (some bo) := grownBy_set wr ⟨bo, 6, none⟩ _
 have h1 := h.own.grown hg (by omega)
 exact h.cell rfl (sx_set6 h.so z) ⟨{ h1.sc with mouse := e }, h1.cx, h1.tx, h1.n, h1.m⟩
end
theorem PRl.done {w wr : World} {b bo cap : Nat} {s : ScR} {S : Sc} {A : Option Addr} {f : Int} (h : PRl w wr b bo s A s.n cap (S.cells.map (celP f))) (hs : ScIn w s S ∧ rightSc S = true) : PRt w wr b bo s (scO s A s.n cap) (scT f S) := by
 obtain ⟨A9, c9, e9, l1, l2⟩ := own_shape h.own
 injection e9 with _ _ e9
 subst e9
 have hf := right_few hs.2
 have hl := hs.1.cells.len
 have hlen : (S.cells.map (celP f)).length = s.n := by rw [List.length_map, hl]
 have hc : Cx (bo + 1) wr A s.n cap (S.cells.map (celP f)) := ⟨hlen, l1, l2, fun h0 => by
  obtain ⟨g, e, hb, _, _, hR⟩ := own_some h0 h.own
  exact ⟨g, e, hb, hR⟩⟩
 refine ⟨h.st, h.so, ⟨⟨hs.1.c, hs.1.r, hs.1.x, hs.1.y, hs.1.hid, rfl, rfl, hc.vs, Vs.nil _ _, l1, hs.1.n9, Nat.le_refl _, fun x hx => ?_, (fun _ h => by cases h), by show (0 : Nat) ≤ _; omega⟩, hc, Tx.nil _ _, by show s.n ≤ _; omega, by show 0 ≤ _; omega⟩, h.gt⟩
 obtain ⟨y, hy, rfl⟩ := List.mem_map.1 hx
 have := hs.1.lk y hy
 rw [cel_lk]
 split <;> omega
set_option maxHeartbeats 6400000 in
set_option maxRecDepth 100000 in
theorem rScreen_any {s : ScR} {S : Sc} {f : Int} {w : World} (h : ScIn w s S) (hp : PosC S.cells) (hn : s.n ≤ 60000) (hm : s.m ≤ 60000) (hf : 0 ≤ f ∧ f < 4294967296) :
  Calls Tryd.prog 13 #[.agg (scrA s), .int .u32 f] w (ScEnd (projS f S) w) := by
 have HP := Lib.hid hp
 have HF := Lib.hid hf
 have HN := Lib.hid (And.intro hn hm)
 have HL4 := Lib.hid (fun w => has_any (has4 hf) (by omega) w)
 have HL8 := Lib.hid (fun w => has_any (has8 hf) (by omega) w)
 have HL16 := Lib.hid (fun w => has_any (has16 hf) (by omega) w)
 have HL32 := Lib.hid (fun w => has_any (has32 hf) (by omega) w)
 obtain ⟨b, hb⟩ : ∃ b, b = w.heap.size := ⟨_, rfl⟩
 have HBW := Lib.hid hb
 obtain ⟨w1, hw1⟩ : ∃ w1, w1 = (w.alloc (.cells (scrA s) 25)).alloc (.cells (scrA scN) 25) := ⟨_, rfl⟩
 have H0 := Lib.hid (show S2 w w1 b s scN from by
  have h1 := Sx.new w s
  have h2 := Sx.new (w.alloc (.cells (scrA s) 25)) scN
  rw [World.size_alloc] at h2
  rw [hb, hw1]
  exact ⟨h1.below ((Below.refl _ _).alloc (Nat.le_refl _) _), h2, ((Below.refl _ _).alloc (Nat.le_refl _) _).alloc (by simp) _, Nat.le_refl _⟩)
 have HI := Lib.hid (fun w' (hb' : Below w.heap.size w w') => h.below hb')
 have HR := Lib.hid (refRightS_any (h.below H0.out.bel) hn hm)
 have HS0 := Lib.hid h
 clear h hp hf hn hm
 obtain ⟨a0, a1, a2, a3, a4, a5, a6, a7, a8, _⟩ := sx_cells H0.out.b1
 unfold scrA scN at hw1
 unfold scrA at HR ⊢
 dsimp only at hw1
 go_enter Tryd.func13, Tryd.ntmps13
 go_upto_region 1 with fail
 rw [← hw1, ← hb]
 clear hw1 hb
 go_wp2_with fail
 refine HR.out.mono ?_
 rintro e w2 ⟨rfl, hb2⟩
 have H2 := Lib.hid (H0.out.on hb2)
 clear HR a0 a1 a2 a3 a4 a5 a6 a7 a8 hb2 H0
 cases hRS : rightSc S
 · have HZ := Lib.hid (proj_no (f := f) hRS)
   clear hRS
   go_wp2_with (refine wpList_store_V rfl 25 (.tmp 4) (.tmp 13) rfl scF_len one_sc info56 (b + 1) _ 0 scN _ rfl (by omega) rfl rfl 25 [scN] H2.out.b2 (by decide) ?_; intro w7 hR7 hg7)
   have HE := Lib.hid (show Below w.heap.size w w7 ∧ ScOwn w.heap.size w7 scN scZero from ⟨H2.out.bel.grown hg7 H2.out.bel.size (fun k hk => by injection hk with hk; have := H2.out.lo; omega), zero_own _ _⟩)
   clear hg7 H2
   obtain ⟨y0, y1, y2, y3, y4, y5, y6, y7, y8, _⟩ := sx_cells (s := scN) hR7
   exact bodyPost_ret (v := .agg (scrA scN)) (by simp [results, Tryd.results13, scrA, scN, go_sem, y0, y1, y2, y3, y4, y5, y6, y7, y8]) rfl ⟨HE.out.1, _, rfl, by rw [HZ.out]; exact HE.out.2⟩
 · have HZ := Lib.hid (proj_yes (f := f) hRS)
   have HS := Lib.hid (And.intro HS0.out hRS)
   clear hRS HS0
   obtain ⟨bo, hbo⟩ : ∃ bo, bo = w2.heap.size := ⟨_, rfl⟩
   obtain ⟨w3, hw3⟩ : ∃ w3, w3 = w2.alloc (.cells (scrA (scO s none 0 0)) 25) := ⟨_, rfl⟩
   have H3 := Lib.hid (show PRl w w3 b bo s none 0 0 (([] : List Ce).map (celP f)) ∧ bo < w3.heap.size from by
    rw [hw3, hbo]
    exact ⟨⟨H2.out.on ((Below.refl _ _).alloc (Nat.le_refl _) _), Sx.new w2 _, World.ownsRow_nil _ _ _ _, H2.out.lt⟩, by simp⟩)
   obtain ⟨a0, a1, a2, a3, a4, a5, a6, a7, a8, _⟩ := sx_cells H2.out.b1
   unfold scrA scO at hw3
   dsimp only at hw3
   go_upto_region 4 with fail
   rw [← hw3, ← hbo]
   clear hw3 hbo a0 a1 a2 a3 a4 a5 a6 a7 a8 H2
   have c2 := (sx_cells H3.out.1.st.b1).c2
   go_wp2_with fail
   clear c2
   have hn60 := HN.out.1
   go_loopw [28] (fun i wr => ∃ (k cap : Nat) (A : Option Addr), k ≤ s.n ∧ i = .int .i64 k ∧ PRl w wr b bo s A k cap ((S.cells.take k).map (celP f)) ∧ bo < wr.heap.size) (fun i _ => s.n - (intOf i).toNat)
   case atStart => exact ⟨0, 0, none, Nat.zero_le _, rfl, H3.out.1, H3.out.2⟩
   case round =>
    obtain ⟨k, cap, A, hk, rfl, hX, hbo⟩ := hrel
    have Y := Lib.hid (And.intro hX hbo)
    clear hX H3 hbo
    by_cases hlt : k < s.n
    · have hkl : (k : Int) < (s.n : Int) := by omega
      have HKL := Lib.hid hlt
      have HKS := Lib.hid (show k < S.cells.length from by rw [HS.out.1.cells.len]; exact hlt)
      have HV := Lib.hid (HI.out _ Y.out.1.st.bel).cells
      obtain ⟨ad, had⟩ := HV.out.addr (by omega)
      obtain ⟨x, hx⟩ : ∃ x, x = cAt S.cells k := ⟨_, rfl⟩
      have HX := Lib.hid hx
      have hv := HV.out
      rw [had] at hv
      have hsx := hv.six hlt
      rw [← hx] at hsx
      obtain ⟨a0, a1, a2, a3, a4, a5⟩ := hsx
      have c2 := (sx_cells Y.out.1.st.b1).c2
      rw [had] at c2
      clear hv hx HV
      obtain ⟨cb, hcb⟩ : ∃ cb, cb = wr.heap.size := ⟨_, rfl⟩
      obtain ⟨w4, hw4⟩ : ∃ w4, w4 = wr.alloc (.cells (ceA x) 37) := ⟨_, rfl⟩
      have R4 := Lib.hid (show PRi w w4 b bo cb s A k cap ((S.cells.take k).map (celP f)) x from by
       rw [hw4, hcb]
       exact Y.out.1.round x Y.out.2)
      have HPX := Lib.hid (HP.out x (by rw [HX.out]; exact cAt_mem HKS.out))
      unfold ceA at hw4
      go_upto_region 8 with fail
      rw [← hw4, ← hcb]
      clear hw4 hcb a0 a1 a2 a3 a4 a5 c2 Y had
      go_cut [8] from 36 to 49 (fun v8 wc => ∃ pb, v8 = .pointer (some ⟨pb, 0, none⟩) ∧ PRi w wc b bo cb s A k cap ((S.cells.take k).map (celP f)) x ∧ Pb wc pb ⟨fitS x.p.fg f, fitS x.p.bg f, x.p.st, 0⟩ ∧ cb < pb)
      case first =>
       have R0 := Lib.hid (R4.out.on (Below.refl _ _).drew)
       refine wp_region_noPanic ?_
       refine wp_region_held_drew (S := fun w' => Cb w' cb x) (by kernel_rfl) R0.out.ce (fun hHeld => ?_)
       generalize w4.drew = v0 at R0 hHeld ⊢
       refine wpAnyH_take (i := 0) (v := .pointer (some ⟨cb, 2, none⟩)) rfl (by kernel_rfl) (by kernel_rfl) (by kernel_rfl) (fun _ _ _ h => h) (Or.inl ⟨by rfl, fun wz hSz => ?_⟩) hHeld ?_
       · go_simp
       simp only [Act.put, List.getElem_toArray, List.getElem_cons_zero]
       try simp only [List.setIfInBounds_toArray]
       try simp only [List.set_cons_succ]
       try simp only [List.set_cons_zero]
       refine wpAnyH_take (i := 1) (v := .pointer (some ⟨cb, 2, none⟩)) rfl (by kernel_rfl) (by kernel_rfl) (by kernel_rfl) (fun _ _ _ h => h) (Or.inl ⟨by rfl, fun wz hSz => ?_⟩) hHeld ?_
       · go_simp
       simp only [Act.put, List.getElem_toArray, List.getElem_cons_succ, List.getElem_cons_zero]
       try simp only [List.setIfInBounds_toArray]
       try simp only [List.set_cons_succ]
       try simp only [List.set_cons_zero]
       refine wpAnyH_take (i := 2) (v := .int .u32 x.p.fg) rfl (by kernel_rfl) (by kernel_rfl) (by kernel_rfl) (fun _ _ _ h => h) (Or.inl ⟨by rfl, fun wz hSz => ?_⟩) hHeld ?_
       · obtain ⟨_, _, s2, s3, s4, s5⟩ := Cb.all hSz
         go_simp
       simp only [Act.put, List.getElem_toArray, List.getElem_cons_succ, List.getElem_cons_zero]
       try simp only [List.setIfInBounds_toArray]
       try simp only [List.set_cons_succ]
       try simp only [List.set_cons_zero]
       refine wpAnyH_take (i := 3) (v := .int .u32 f) rfl (by kernel_rfl) (by kernel_rfl) (by kernel_rfl) (fun _ _ _ h => h) (Or.inl ⟨by rfl, fun wz hSz => ?_⟩) hHeld ?_
       · go_simp
       simp only [Act.put, List.getElem_toArray, List.getElem_cons_succ, List.getElem_cons_zero]
       try simp only [List.setIfInBounds_toArray]
       try simp only [List.set_cons_succ]
       try simp only [List.set_cons_zero]
       refine wpAnyH_take (i := 5) (v := .pointer (some ⟨cb, 2, none⟩)) rfl (by kernel_rfl) (by kernel_rfl) (by kernel_rfl) (fun _ _ _ h => h) (Or.inl ⟨by rfl, fun wz hSz => ?_⟩) hHeld ?_
       · go_simp
       simp only [Act.put, List.getElem_toArray, List.getElem_cons_succ, List.getElem_cons_zero]
       try simp only [List.setIfInBounds_toArray]
       try simp only [List.set_cons_succ]
       try simp only [List.set_cons_zero]
       refine wpAnyH_take (i := 6) (v := .pointer (some ⟨cb, 3, none⟩)) rfl (by kernel_rfl) (by kernel_rfl) (by kernel_rfl) (fun _ _ _ h => h) (Or.inl ⟨by rfl, fun wz hSz => ?_⟩) hHeld ?_
       · go_simp
       simp only [Act.put, List.getElem_toArray, List.getElem_cons_succ, List.getElem_cons_zero]
       try simp only [List.setIfInBounds_toArray]
       try simp only [List.set_cons_succ]
       try simp only [List.set_cons_zero]
       refine wpAnyH_take (i := 7) (v := .int .u32 x.p.bg) rfl (by kernel_rfl) (by kernel_rfl) (by kernel_rfl) (fun _ _ _ h => h) (Or.inl ⟨by rfl, fun wz hSz => ?_⟩) hHeld ?_
       · obtain ⟨_, _, s2, s3, s4, s5⟩ := Cb.all hSz
         go_simp
       simp only [Act.put, List.getElem_toArray, List.getElem_cons_succ, List.getElem_cons_zero]
       try simp only [List.setIfInBounds_toArray]
       try simp only [List.set_cons_succ]
       try simp only [List.set_cons_zero]
       refine wpAnyH_take (i := 8) (v := .int .u32 f) rfl (by kernel_rfl) (by kernel_rfl) (by kernel_rfl) (fun _ _ _ h => h) (Or.inl ⟨by rfl, fun wz hSz => ?_⟩) hHeld ?_
       · go_simp
       simp only [Act.put, List.getElem_toArray, List.getElem_cons_succ, List.getElem_cons_zero]
       try simp only [List.setIfInBounds_toArray]
       try simp only [List.set_cons_succ]
       try simp only [List.set_cons_zero]
       refine wpAnyH_take (i := 10) (v := .pointer (some ⟨cb, 2, none⟩)) rfl (by kernel_rfl) (by kernel_rfl) (by kernel_rfl) (fun _ _ _ h => h) (Or.inl ⟨by rfl, fun wz hSz => ?_⟩) hHeld ?_
       · go_simp
       simp only [Act.put, List.getElem_toArray, List.getElem_cons_succ, List.getElem_cons_zero]
       try simp only [List.setIfInBounds_toArray]
       try simp only [List.set_cons_succ]
       try simp only [List.set_cons_zero]
       refine wpAnyH_take (i := 11) (v := .pointer (some ⟨cb, 4, none⟩)) rfl (by kernel_rfl) (by kernel_rfl) (by kernel_rfl) (fun _ _ _ h => h) (Or.inl ⟨by rfl, fun wz hSz => ?_⟩) hHeld ?_
       · go_simp
       simp only [Act.put, List.getElem_toArray, List.getElem_cons_succ, List.getElem_cons_zero]
       try simp only [List.setIfInBounds_toArray]
       try simp only [List.set_cons_succ]
       try simp only [List.set_cons_zero]
       refine wpAnyH_take (i := 12) (v := .int .u8 x.p.st) rfl (by kernel_rfl) (by kernel_rfl) (by kernel_rfl) (fun _ _ _ h => h) (Or.inl ⟨by rfl, fun wz hSz => ?_⟩) hHeld ?_
       · obtain ⟨_, _, s2, s3, s4, s5⟩ := Cb.all hSz
         go_simp
       simp only [Act.put, List.getElem_toArray, List.getElem_cons_succ, List.getElem_cons_zero]
       try simp only [List.setIfInBounds_toArray]
       try simp only [List.set_cons_succ]
       try simp only [List.set_cons_zero]
       refine wpAnyH_ready (rs := [4, 14]) (by kernel_rfl) (by simp) (AllReadyH.cons rfl (fun K hK => ?_) (AllReadyH.cons rfl (fun K hK => ?_) AllReadyH.nil))
       · rw [if_pos (by rfl)]
         go_simp
         refine (rfit_any HPX.out.1 HF.out.1).mono ?_
         rintro e v1 ⟨rfl, hb⟩
         have R1 := Lib.hid (R0.out.on hb)
         clear hb
         refine hK.out _ _ (R1.out.ce) (fun hHeld => ?_)
         clear hK K
         try simp only [Act.put, List.getElem_toArray, List.getElem_cons_succ, List.getElem_cons_zero]
         try simp only [List.setIfInBounds_toArray]
         try simp only [List.set_cons_succ]
         try simp only [List.set_cons_zero]
         refine wpAnyH_ready (rs := [9, 14]) (by kernel_rfl) (by simp) (AllReadyH.cons rfl (fun K hK => ?_) (AllReadyH.cons rfl (fun K hK => ?_) AllReadyH.nil))
         · rw [if_pos (by rfl)]
           go_simp
           refine (rfit_any HPX.out.2 HF.out.1).mono ?_
           rintro e v2 ⟨rfl, hb⟩
           have R2 := Lib.hid (R1.out.on hb)
           clear hb
           refine hK.out _ _ (R2.out.ce) (fun hHeld => ?_)
           clear hK K
           try simp only [Act.put, List.getElem_toArray, List.getElem_cons_succ, List.getElem_cons_zero]
           try simp only [List.setIfInBounds_toArray]
           try simp only [List.set_cons_succ]
           try simp only [List.set_cons_zero]
           refine wpAnyH_take (i := 13) (v := .agg #[.int .u32 (fitS x.p.fg f), .int .u32 (fitS x.p.bg f), .int .u8 x.p.st, .int .u16 0]) rfl (by kernel_rfl) (by kernel_rfl) (by kernel_rfl) (fun _ _ _ h => h) (Or.inl ⟨by rfl, fun wz hSz => ?_⟩) hHeld ?_
           · go_simp
           simp only [Act.put, List.getElem_toArray, List.getElem_cons_succ, List.getElem_cons_zero]
           try simp only [List.setIfInBounds_toArray]
           try simp only [List.set_cons_succ]
           try simp only [List.set_cons_zero]
           refine wpAnyH_ready (rs := [14]) (by kernel_rfl) (by simp) (AllReadyH.cons rfl (fun K hK => ?_) AllReadyH.nil)
           rw [if_pos (by rfl)]
           go_simp
           obtain ⟨v3, hv⟩ : ∃ v3, v3 = v2.alloc (.cells (pnA pn0) 35) := ⟨_, rfl⟩
           obtain ⟨pb, hpb⟩ : ∃ pb, pb = v2.heap.size := ⟨_, rfl⟩
           have Q3 := Lib.hid (show Pb v3 pb pn0 ∧ cb < pb from by rw [hv, hpb]; exact ⟨Pb.new v2 pn0, R2.out.ce.lt⟩)
           have R3 := Lib.hid (show PRi w v3 b bo cb s A k cap ((S.cells.take k).map (celP f)) x from by rw [hv]; exact R2.out.on ((Below.refl _ _).alloc (Nat.le_refl _) _))
           unfold pnA pn0 at hv
           rw [← hv, ← hpb]
           clear hv hpb
           refine hK.out _ _ (R3.out.ce) (fun hHeld => ?_)
           clear hK K
           try simp only [Act.put, List.getElem_toArray, List.getElem_cons_succ, List.getElem_cons_zero]
           try simp only [List.setIfInBounds_toArray]
           try simp only [List.set_cons_succ]
           try simp only [List.set_cons_zero]
           have Z := Lib.hid (show PRi w (v3.setCells pb 0 (pnL ⟨fitS x.p.fg f, fitS x.p.bg f, x.p.st, 0⟩)) b bo cb s A k cap ((S.cells.take k).map (celP f)) x ∧ Pb (v3.setCells pb 0 (pnL ⟨fitS x.p.fg f, fitS x.p.bg f, x.p.st, 0⟩)) pb ⟨fitS x.p.fg f, fitS x.p.bg f, x.p.st, 0⟩ from ⟨R3.out.far (Q3.out.1.over _).2 Q3.out.2, (Q3.out.1.over _).1⟩)
           refine wpAnyH_ready (rs := [15]) (by kernel_rfl) (by simp) (AllReadyH.cons rfl (fun K hK => ?_) AllReadyH.nil)
           rw [if_pos (by rfl)]
           refine wp_store_mid 35 (.tmp 8) (.tmp 49) rfl pb 0 (pnA ⟨fitS x.p.fg f, fitS x.p.bg f, x.p.st, 0⟩) rfl rfl Q3.out.1.there infoPn2 (pnA_one _) ?_
           refine hK.out _ _ (Z.out.1.ce) (fun hHeld => ?_)
           clear hK K
           try simp only [Act.put, List.getElem_toArray, List.getElem_cons_succ, List.getElem_cons_zero]
           try simp only [List.setIfInBounds_toArray]
           try simp only [List.set_cons_succ]
           try simp only [List.set_cons_zero]
           refine wpAnyH_done (by kernel_rfl) ?_ _
           refine NoPanic.normal ?_
           refine meetP_end (by assumption) (by assumption) ?_
           (repeat apply Exists.intro)
           refine ⟨?rel, rfl⟩
           case rel => exact ⟨pb, rfl, Z.out.1, Z.out.2, Q3.out.2⟩
         · rw [if_pos (by rfl)]
           go_simp
           obtain ⟨v2, hv⟩ : ∃ v2, v2 = v1.alloc (.cells (pnA pn0) 35) := ⟨_, rfl⟩
           obtain ⟨pb, hpb⟩ : ∃ pb, pb = v1.heap.size := ⟨_, rfl⟩
           have Q2 := Lib.hid (show Pb v2 pb pn0 ∧ cb < pb from by rw [hv, hpb]; exact ⟨Pb.new v1 pn0, R1.out.ce.lt⟩)
           have R2 := Lib.hid (show PRi w v2 b bo cb s A k cap ((S.cells.take k).map (celP f)) x from by rw [hv]; exact R1.out.on ((Below.refl _ _).alloc (Nat.le_refl _) _))
           unfold pnA pn0 at hv
           rw [← hv, ← hpb]
           clear hv hpb
           refine hK.out _ _ (R2.out.ce) (fun hHeld => ?_)
           clear hK K
           try simp only [Act.put, List.getElem_toArray, List.getElem_cons_succ, List.getElem_cons_zero]
           try simp only [List.setIfInBounds_toArray]
           try simp only [List.set_cons_succ]
           try simp only [List.set_cons_zero]
           refine wpAnyH_ready (rs := [9]) (by kernel_rfl) (by simp) (AllReadyH.cons rfl (fun K hK => ?_) AllReadyH.nil)
           rw [if_pos (by rfl)]
           go_simp
           refine (rfit_any HPX.out.2 HF.out.1).mono ?_
           rintro e v3 ⟨rfl, hb⟩
           have R3 := Lib.hid (R2.out.on hb)
           have Q3 := Lib.hid (show Pb v3 pb pn0 ∧ cb < pb from ⟨Q2.out.1.below hb, Q2.out.2⟩)
           clear hb
           refine hK.out _ _ (R3.out.ce) (fun hHeld => ?_)
           clear hK K
           try simp only [Act.put, List.getElem_toArray, List.getElem_cons_succ, List.getElem_cons_zero]
           try simp only [List.setIfInBounds_toArray]
           try simp only [List.set_cons_succ]
           try simp only [List.set_cons_zero]
           refine wpAnyH_take (i := 13) (v := .agg #[.int .u32 (fitS x.p.fg f), .int .u32 (fitS x.p.bg f), .int .u8 x.p.st, .int .u16 0]) rfl (by kernel_rfl) (by kernel_rfl) (by kernel_rfl) (fun _ _ _ h => h) (Or.inl ⟨by rfl, fun wz hSz => ?_⟩) hHeld ?_
           · go_simp
           simp only [Act.put, List.getElem_toArray, List.getElem_cons_succ, List.getElem_cons_zero]
           try simp only [List.setIfInBounds_toArray]
           try simp only [List.set_cons_succ]
           try simp only [List.set_cons_zero]
           have Z := Lib.hid (show PRi w (v3.setCells pb 0 (pnL ⟨fitS x.p.fg f, fitS x.p.bg f, x.p.st, 0⟩)) b bo cb s A k cap ((S.cells.take k).map (celP f)) x ∧ Pb (v3.setCells pb 0 (pnL ⟨fitS x.p.fg f, fitS x.p.bg f, x.p.st, 0⟩)) pb ⟨fitS x.p.fg f, fitS x.p.bg f, x.p.st, 0⟩ from ⟨R3.out.far (Q3.out.1.over _).2 Q3.out.2, (Q3.out.1.over _).1⟩)
           refine wpAnyH_ready (rs := [15]) (by kernel_rfl) (by simp) (AllReadyH.cons rfl (fun K hK => ?_) AllReadyH.nil)
           rw [if_pos (by rfl)]
           refine wp_store_mid 35 (.tmp 8) (.tmp 49) rfl pb 0 (pnA ⟨fitS x.p.fg f, fitS x.p.bg f, x.p.st, 0⟩) rfl rfl Q3.out.1.there infoPn2 (pnA_one _) ?_
           refine hK.out _ _ (Z.out.1.ce) (fun hHeld => ?_)
           clear hK K
           try simp only [Act.put, List.getElem_toArray, List.getElem_cons_succ, List.getElem_cons_zero]
           try simp only [List.setIfInBounds_toArray]
           try simp only [List.set_cons_succ]
           try simp only [List.set_cons_zero]
           refine wpAnyH_done (by kernel_rfl) ?_ _
           refine NoPanic.normal ?_
           refine meetP_end (by assumption) (by assumption) ?_
           (repeat apply Exists.intro)
           refine ⟨?rel, rfl⟩
           case rel => exact ⟨pb, rfl, Z.out.1, Z.out.2, Q3.out.2⟩
       · rw [if_pos (by rfl)]
         go_simp
         obtain ⟨v1, hv⟩ : ∃ v1, v1 = v0.alloc (.cells (pnA pn0) 35) := ⟨_, rfl⟩
         obtain ⟨pb, hpb⟩ : ∃ pb, pb = v0.heap.size := ⟨_, rfl⟩
         have Q1 := Lib.hid (show Pb v1 pb pn0 ∧ cb < pb from by rw [hv, hpb]; exact ⟨Pb.new v0 pn0, R0.out.ce.lt⟩)
         have R1 := Lib.hid (show PRi w v1 b bo cb s A k cap ((S.cells.take k).map (celP f)) x from by rw [hv]; exact R0.out.on ((Below.refl _ _).alloc (Nat.le_refl _) _))
         unfold pnA pn0 at hv
         rw [← hv, ← hpb]
         clear hv hpb
         refine hK.out _ _ (R1.out.ce) (fun hHeld => ?_)
         clear hK K
         try simp only [Act.put, List.getElem_toArray, List.getElem_cons_succ, List.getElem_cons_zero]
         try simp only [List.setIfInBounds_toArray]
         try simp only [List.set_cons_succ]
         try simp only [List.set_cons_zero]
         refine wpAnyH_ready (rs := [4]) (by kernel_rfl) (by simp) (AllReadyH.cons rfl (fun K hK => ?_) AllReadyH.nil)
         rw [if_pos (by rfl)]
         go_simp
         refine (rfit_any HPX.out.1 HF.out.1).mono ?_
         rintro e v2 ⟨rfl, hb⟩
         have R2 := Lib.hid (R1.out.on hb)
         have Q2 := Lib.hid (show Pb v2 pb pn0 ∧ cb < pb from ⟨Q1.out.1.below hb, Q1.out.2⟩)
         clear hb
         refine hK.out _ _ (R2.out.ce) (fun hHeld => ?_)
         clear hK K
         try simp only [Act.put, List.getElem_toArray, List.getElem_cons_succ, List.getElem_cons_zero]
         try simp only [List.setIfInBounds_toArray]
         try simp only [List.set_cons_succ]
         try simp only [List.set_cons_zero]
         refine wpAnyH_ready (rs := [9]) (by kernel_rfl) (by simp) (AllReadyH.cons rfl (fun K hK => ?_) AllReadyH.nil)
         rw [if_pos (by rfl)]
         go_simp
         refine (rfit_any HPX.out.2 HF.out.1).mono ?_
         rintro e v3 ⟨rfl, hb⟩
         have R3 := Lib.hid (R2.out.on hb)
         have Q3 := Lib.hid (show Pb v3 pb pn0 ∧ cb < pb from ⟨Q2.out.1.below hb, Q2.out.2⟩)
         clear hb
         refine hK.out _ _ (R3.out.ce) (fun hHeld => ?_)
         clear hK K
         try simp only [Act.put, List.getElem_toArray, List.getElem_cons_succ, List.getElem_cons_zero]
         try simp only [List.setIfInBounds_toArray]
         try simp only [List.set_cons_succ]
         try simp only [List.set_cons_zero]
         refine wpAnyH_take (i := 13) (v := .agg #[.int .u32 (fitS x.p.fg f), .int .u32 (fitS x.p.bg f), .int .u8 x.p.st, .int .u16 0]) rfl (by kernel_rfl) (by kernel_rfl) (by kernel_rfl) (fun _ _ _ h => h) (Or.inl ⟨by rfl, fun wz hSz => ?_⟩) hHeld ?_
         · go_simp
         simp only [Act.put, List.getElem_toArray, List.getElem_cons_succ, List.getElem_cons_zero]
         try simp only [List.setIfInBounds_toArray]
         try simp only [List.set_cons_succ]
         try simp only [List.set_cons_zero]
         have Z := Lib.hid (show PRi w (v3.setCells pb 0 (pnL ⟨fitS x.p.fg f, fitS x.p.bg f, x.p.st, 0⟩)) b bo cb s A k cap ((S.cells.take k).map (celP f)) x ∧ Pb (v3.setCells pb 0 (pnL ⟨fitS x.p.fg f, fitS x.p.bg f, x.p.st, 0⟩)) pb ⟨fitS x.p.fg f, fitS x.p.bg f, x.p.st, 0⟩ from ⟨R3.out.far (Q3.out.1.over _).2 Q3.out.2, (Q3.out.1.over _).1⟩)
         refine wpAnyH_ready (rs := [15]) (by kernel_rfl) (by simp) (AllReadyH.cons rfl (fun K hK => ?_) AllReadyH.nil)
         rw [if_pos (by rfl)]
         refine wp_store_mid 35 (.tmp 8) (.tmp 49) rfl pb 0 (pnA ⟨fitS x.p.fg f, fitS x.p.bg f, x.p.st, 0⟩) rfl rfl Q3.out.1.there infoPn2 (pnA_one _) ?_
         refine hK.out _ _ (Z.out.1.ce) (fun hHeld => ?_)
         clear hK K
         try simp only [Act.put, List.getElem_toArray, List.getElem_cons_succ, List.getElem_cons_zero]
         try simp only [List.setIfInBounds_toArray]
         try simp only [List.set_cons_succ]
         try simp only [List.set_cons_zero]
         refine wpAnyH_done (by kernel_rfl) ?_ _
         refine NoPanic.normal ?_
         refine meetP_end (by assumption) (by assumption) ?_
         (repeat apply Exists.intro)
         refine ⟨?rel, rfl⟩
         case rel => exact ⟨pb, rfl, Z.out.1, Z.out.2, Q3.out.2⟩
      case rest =>
       obtain ⟨pb, rfl, h1, h2, h3⟩ := hcut
       have V := Lib.hid (And.intro h1 (And.intro h2 h3))
       clear h1 h2 h3 R4
       go_wp2_with fail
       refine (HL8.out _).mono ?_
       rintro e w5 ⟨rfl, rfl⟩
       obtain ⟨B, hB⟩ : ∃ B, hasB f 3 = B := ⟨_, rfl⟩
       rw [hB]
       have HB := Lib.hid hB
       clear hB
       go_upto_if 51 with fail
       go_cut [] from 52 to 55 (fun wc => PRi w wc b bo cb s A k cap ((S.cells.take k).map (celP f)) x ∧ Pb wc pb (penP f x.p) ∧ cb < pb)
       case first =>
        have HPE := Lib.hid (show penP f x.p = ⟨fitS x.p.fg f, fitS x.p.bg f, x.p.st, if B = true then x.p.lk else 0⟩ from by rw [← HB.out]; rfl)
        cases B
        · go_wp2_with fail
          go_meet
          case rel => exact ⟨V.out.1, by rw [HPE.out]; exact V.out.2.1, V.out.2.2⟩
        · have c5 := V.out.1.ce.all.2.2.2.2.2
          have d3 := V.out.2.1.lk
          have f3 := V.out.2.1.free 3
          dsimp only at d3
          have V5 := Lib.hid (show PRi w (w5.setCell ⟨pb, 3, none⟩ (.int .u16 x.p.lk)) b bo cb s A k cap ((S.cells.take k).map (celP f)) x ∧ Pb (w5.setCell ⟨pb, 3, none⟩ (.int .u16 x.p.lk)) pb ⟨fitS x.p.fg f, fitS x.p.bg f, x.p.st, x.p.lk⟩ from ⟨V.out.1.far (grownBy_set w5 ⟨pb, 3, none⟩ _) V.out.2.2, V.out.2.1.set3 _⟩)
          go_wp2_with fail
          go_meet
          case rel => exact ⟨V5.out.1, by rw [HPE.out]; exact V5.out.2, V.out.2.2⟩
       case rest =>
       have V2 := Lib.hid hcut
       clear hcut V HB
       obtain ⟨d0, d1, d2, d3, d4, d5⟩ := V2.out.1.ce.all
       obtain ⟨q0, q1, q2, q3⟩ := V2.out.2.1.all
       obtain ⟨xb, hxb⟩ : ∃ xb, xb = wc.heap.size := ⟨_, rfl⟩
       obtain ⟨y, hy⟩ : ∃ y : Ce, y = ⟨x.r, x.wd, penP f x.p⟩ := ⟨_, rfl⟩
       obtain ⟨w6, hw6⟩ : ∃ w6, w6 = wc.alloc (.cells (ceA ⟨x.r, x.wd, penP f x.p⟩) 37) := ⟨_, rfl⟩
       have V6 := Lib.hid (show PRi w w6 b bo cb s A k cap ((S.cells.take k).map (celP f)) x ∧ Pb w6 pb (penP f x.p) ∧ Cb w6 xb y ∧ cb < xb from by
        rw [hw6, hxb, hy]
        exact ⟨V2.out.1.on ((Below.refl _ _).alloc (Nat.le_refl _) _), V2.out.2.1.below ((Below.refl _ _).alloc (Nat.le_refl _) _), Cb.new wc _, V2.out.1.ce.lt⟩)
       have HY := Lib.hid (show celP f x = if hasB f 2 = true then y else narrowS y from by rw [hy]; rfl)
       have HYW := Lib.hid (show y.wd = x.wd ∧ y.p = penP f x.p from by rw [hy]; exact ⟨rfl, rfl⟩)
       unfold ceA at hw6
       dsimp only at hw6
       go_upto_region 12 with fail
       rw [← hw6, ← hxb]
       clear hw6 hxb d0 d1 d2 d3 d4 d5 q0 q1 q2 q3 V2 hy
       have e1 := V6.out.1.ce.all.2.1
       cases hB : hasB f 2
       · have HY2 := Lib.hid (show celP f x = narrowS y from by rw [HY.out, hB]; rfl)
         rw [hB] at HL4
         clear hB HY
         go_wp2_with fail
         refine (HL4.out _).mono ?_
         rintro e w7 ⟨rfl, rfl⟩
         by_cases h1 : x.wd = 1
         · rw [h1] at e1
           have HNY := Lib.hid (show celP f x = ⟨63, 0, penP f x.p⟩ from by rw [HY2.out]; unfold narrowS; rw [if_pos (by rw [HYW.out.1]; exact h1), HYW.out.2])
           obtain ⟨q0, q1, q2, q3⟩ := V6.out.2.1.all
           go_upto_region 14 with (refine wpList_store_V rfl 37 (.tmp 9) (.tmp 71) rfl ceV_len one_ce infoCe xb _ 0 ⟨63, 0, penP f x.p⟩ _ rfl (by omega) rfl rfl 37 [y] V6.out.2.2.1 (by simp) ?_; intro w9 hR7 hg7)
           have R6 := Lib.hid (V6.out.1.far hg7 V6.out.2.2.2)
           have HCX := Lib.hid (show Cb w9 xb ⟨63, 0, penP f x.p⟩ from hR7)
           clear hR7 hg7 V6 q0 q1 q2 q3 e1
           have e1 := R6.out.ce.all.2.1
           rw [h1] at e1
           clear h1
           go_wp2_with fail
           refine (HL4.out _).mono ?_
           rintro e w10 ⟨rfl, rfl⟩
           go_upto_region 16 with fail
           clear e1
           have HZC := Lib.hid (show celP f x = ⟨63, 0, penP f x.p⟩ from HNY.out)
           have c2 := (sx_cells R6.out.rl.so).c2
           obtain ⟨d0, d1, d2, d3, d4, d5⟩ := HCX.out.all
           have HB8 := Lib.hid (show Below w10.heap.size w10 (w10.alloc (.cells (ceA ⟨63, 0, penP f x.p⟩) 37)) from (Below.refl _ _).alloc (Nat.le_refl _) _)
           have HO8 := Lib.hid (R6.out.rl.on HB8.out).own
           have HV8 := Lib.hid (show Vs ceV (w10.alloc (.cells (ceA ⟨63, 0, penP f x.p⟩) 37)) (some ⟨w10.heap.size, 0, none⟩) 1 [⟨63, 0, penP f x.p⟩] from (made_rw (f := ceV) w10 37 [⟨63, 0, penP f x.p⟩]).vs)
           have HLT8 := Lib.hid (show bo + 1 ≤ w10.heap.size from by have := R6.out.rl.so.lt; omega)
           unfold scO at c2
           dsimp only at c2
           go_upto_region 17 with (at_builtin; refine wpList_app_V _ rfl (.tmp 83) (.tmp 85) 22 rfl ceV_len one_ce (bo + 1) 37 _ 20 (by omega) Tryd.underlying22 infoCe3 rfl (by omega) (.slice A k cap) k ((S.cells.take k).map (celP f)) rfl HO8.out (some ⟨w10.heap.size, 0, none⟩) 1 1 (k + 1) rfl [⟨63, 0, penP f x.p⟩] rfl HV8.out (by have := HN.out.1; omega) (by have := HLT8.out; simp; omega) ?_; intro A5 c5 w9 hown hg; have H9 := Lib.hid (And.intro hg hown); clear hown hg c2 d0 d1 d2 d3 d4 d5; have c2 := (sx_cells (R6.out.rl.so9 HB8.out H9.out.1)).c2; have f2 := (R6.out.rl.so9 HB8.out H9.out.1).free 2; unfold scO at c2; dsimp only at c2)
           have R9 := Lib.hid (R6.out.rl.more HB8.out H9.out.1 H9.out.2)
           have HEQ := Lib.hid (show (S.cells.take k).map (celP f) ++ [⟨63, 0, penP f x.p⟩] = (S.cells.take (k + 1)).map (celP f) from by rw [List.take_add_one, getElem?_cAt HKS.out, List.map_append, ← HX.out, ← HZC.out]; rfl)
           rw [HEQ.out] at R9
           clear HB8 HO8 HV8 H9 HEQ c2 f2 R6 HCX HZC
           go_wp2_with fail
           go_roundw
           case rel => exact ⟨k + 1, c5, A5, by have := HKL.out; omega, by go_num, R9.out, R9.out.so.lt⟩
           case measure => simp [intOf]; have := HKL.out; omega
         · by_cases h2 : x.wd = 2
           · rw [h2] at e1
             have HNY := Lib.hid (show celP f x = ⟨32, 0, penP f x.p⟩ from by rw [HY2.out]; unfold narrowS; rw [if_neg (by rw [HYW.out.1]; exact h1), if_pos (by rw [HYW.out.1]; exact h2), HYW.out.2])
             clear h1 h2
             go_wp2_with fail
             refine (HL4.out _).mono ?_
             rintro e w8 ⟨rfl, rfl⟩
             obtain ⟨q0, q1, q2, q3⟩ := V6.out.2.1.all
             go_upto_region 16 with (refine wpList_store_V rfl 37 (.tmp 9) (.tmp 81) rfl ceV_len one_ce infoCe xb _ 0 ⟨32, 0, penP f x.p⟩ _ rfl (by omega) rfl rfl 37 [y] V6.out.2.2.1 (by simp) ?_; intro w10 hR7 hg7)
             have R6 := Lib.hid (V6.out.1.far hg7 V6.out.2.2.2)
             have HCX := Lib.hid (show Cb w10 xb ⟨32, 0, penP f x.p⟩ from hR7)
             clear hR7 hg7 V6 q0 q1 q2 q3 e1
             have HZC := Lib.hid (show celP f x = ⟨32, 0, penP f x.p⟩ from HNY.out)
             have c2 := (sx_cells R6.out.rl.so).c2
             obtain ⟨d0, d1, d2, d3, d4, d5⟩ := HCX.out.all
             have HB8 := Lib.hid (show Below w10.heap.size w10 (w10.alloc (.cells (ceA ⟨32, 0, penP f x.p⟩) 37)) from (Below.refl _ _).alloc (Nat.le_refl _) _)
             have HO8 := Lib.hid (R6.out.rl.on HB8.out).own
             have HV8 := Lib.hid (show Vs ceV (w10.alloc (.cells (ceA ⟨32, 0, penP f x.p⟩) 37)) (some ⟨w10.heap.size, 0, none⟩) 1 [⟨32, 0, penP f x.p⟩] from (made_rw (f := ceV) w10 37 [⟨32, 0, penP f x.p⟩]).vs)
             have HLT8 := Lib.hid (show bo + 1 ≤ w10.heap.size from by have := R6.out.rl.so.lt; omega)
             unfold scO at c2
             dsimp only at c2
             go_upto_region 17 with (at_builtin; refine wpList_app_V _ rfl (.tmp 83) (.tmp 85) 22 rfl ceV_len one_ce (bo + 1) 37 _ 20 (by omega) Tryd.underlying22 infoCe3 rfl (by omega) (.slice A k cap) k ((S.cells.take k).map (celP f)) rfl HO8.out (some ⟨w10.heap.size, 0, none⟩) 1 1 (k + 1) rfl [⟨32, 0, penP f x.p⟩] rfl HV8.out (by have := HN.out.1; omega) (by have := HLT8.out; simp; omega) ?_; intro A5 c5 w9 hown hg; have H9 := Lib.hid (And.intro hg hown); clear hown hg c2 d0 d1 d2 d3 d4 d5; have c2 := (sx_cells (R6.out.rl.so9 HB8.out H9.out.1)).c2; have f2 := (R6.out.rl.so9 HB8.out H9.out.1).free 2; unfold scO at c2; dsimp only at c2)
             have R9 := Lib.hid (R6.out.rl.more HB8.out H9.out.1 H9.out.2)
             have HEQ := Lib.hid (show (S.cells.take k).map (celP f) ++ [⟨32, 0, penP f x.p⟩] = (S.cells.take (k + 1)).map (celP f) from by rw [List.take_add_one, getElem?_cAt HKS.out, List.map_append, ← HX.out, ← HZC.out]; rfl)
             rw [HEQ.out] at R9
             clear HB8 HO8 HV8 H9 HEQ c2 f2 R6 HCX HZC
             go_wp2_with fail
             go_roundw
             case rel => exact ⟨k + 1, c5, A5, by have := HKL.out; omega, by go_num, R9.out, R9.out.so.lt⟩
             case measure => simp [intOf]; have := HKL.out; omega
           · have HNY := Lib.hid (show celP f x = y from by rw [HY2.out]; unfold narrowS; rw [if_neg (by rw [HYW.out.1]; exact h1), if_neg (by rw [HYW.out.1]; exact h2)])
             have b1 : (x.wd == 1) = false := beq_eq_false_iff_ne.2 h1
             have b2 : (x.wd == 2) = false := beq_eq_false_iff_ne.2 h2
             clear h1 h2
             go_wp2_with fail
             refine (HL4.out _).mono ?_
             rintro e w8 ⟨rfl, rfl⟩
             go_upto_region 16 with fail
             have R6 := Lib.hid V6.out.1
             have HCX := Lib.hid V6.out.2.2.1
             clear V6 e1 b1 b2
             have HZC := Lib.hid (show celP f x = y from HNY.out)
             have c2 := (sx_cells R6.out.rl.so).c2
             obtain ⟨d0, d1, d2, d3, d4, d5⟩ := HCX.out.all
             have HB8 := Lib.hid (show Below w8.heap.size w8 (w8.alloc (.cells (ceA y) 37)) from (Below.refl _ _).alloc (Nat.le_refl _) _)
             have HO8 := Lib.hid (R6.out.rl.on HB8.out).own
             have HV8 := Lib.hid (show Vs ceV (w8.alloc (.cells (ceA y) 37)) (some ⟨w8.heap.size, 0, none⟩) 1 [y] from (made_rw (f := ceV) w8 37 [y]).vs)
             have HLT8 := Lib.hid (show bo + 1 ≤ w8.heap.size from by have := R6.out.rl.so.lt; omega)
             unfold scO at c2
             dsimp only at c2
             go_upto_region 17 with (at_builtin; refine wpList_app_V _ rfl (.tmp 83) (.tmp 85) 22 rfl ceV_len one_ce (bo + 1) 37 _ 20 (by omega) Tryd.underlying22 infoCe3 rfl (by omega) (.slice A k cap) k ((S.cells.take k).map (celP f)) rfl HO8.out (some ⟨w8.heap.size, 0, none⟩) 1 1 (k + 1) rfl [y] rfl HV8.out (by have := HN.out.1; omega) (by have := HLT8.out; simp; omega) ?_; intro A5 c5 w9 hown hg; have H9 := Lib.hid (And.intro hg hown); clear hown hg c2 d0 d1 d2 d3 d4 d5; have c2 := (sx_cells (R6.out.rl.so9 HB8.out H9.out.1)).c2; have f2 := (R6.out.rl.so9 HB8.out H9.out.1).free 2; unfold scO at c2; dsimp only at c2)
             have R9 := Lib.hid (R6.out.rl.more HB8.out H9.out.1 H9.out.2)
             have HEQ := Lib.hid (show (S.cells.take k).map (celP f) ++ [y] = (S.cells.take (k + 1)).map (celP f) from by rw [List.take_add_one, getElem?_cAt HKS.out, List.map_append, ← HX.out, ← HZC.out]; rfl)
             rw [HEQ.out] at R9
             clear HB8 HO8 HV8 H9 HEQ c2 f2 R6 HCX HZC
             go_wp2_with fail
             go_roundw
             case rel => exact ⟨k + 1, c5, A5, by have := HKL.out; omega, by go_num, R9.out, R9.out.so.lt⟩
             case measure => simp [intOf]; have := HKL.out; omega
       · rw [hB] at HL4
         have HY2 := Lib.hid (show celP f x = y from by rw [HY.out, hB]; rfl)
         clear hB HY
         go_wp2_with fail
         refine (HL4.out _).mono ?_
         rintro e w7 ⟨rfl, rfl⟩
         go_wp2_with fail
         refine (HL4.out _).mono ?_
         rintro e w8 ⟨rfl, rfl⟩
         go_upto_region 16 with fail
         have R6 := Lib.hid V6.out.1
         have HCX := Lib.hid V6.out.2.2.1
         clear V6 e1
         have HZC := Lib.hid (show celP f x = y from HY2.out)
         have c2 := (sx_cells R6.out.rl.so).c2
         obtain ⟨d0, d1, d2, d3, d4, d5⟩ := HCX.out.all
         have HB8 := Lib.hid (show Below w8.heap.size w8 (w8.alloc (.cells (ceA y) 37)) from (Below.refl _ _).alloc (Nat.le_refl _) _)
         have HO8 := Lib.hid (R6.out.rl.on HB8.out).own
         have HV8 := Lib.hid (show Vs ceV (w8.alloc (.cells (ceA y) 37)) (some ⟨w8.heap.size, 0, none⟩) 1 [y] from (made_rw (f := ceV) w8 37 [y]).vs)
         have HLT8 := Lib.hid (show bo + 1 ≤ w8.heap.size from by have := R6.out.rl.so.lt; omega)
         unfold scO at c2
         dsimp only at c2
         go_upto_region 17 with (at_builtin; refine wpList_app_V _ rfl (.tmp 83) (.tmp 85) 22 rfl ceV_len one_ce (bo + 1) 37 _ 20 (by omega) Tryd.underlying22 infoCe3 rfl (by omega) (.slice A k cap) k ((S.cells.take k).map (celP f)) rfl HO8.out (some ⟨w8.heap.size, 0, none⟩) 1 1 (k + 1) rfl [y] rfl HV8.out (by have := HN.out.1; omega) (by have := HLT8.out; simp; omega) ?_; intro A5 c5 w9 hown hg; have H9 := Lib.hid (And.intro hg hown); clear hown hg c2 d0 d1 d2 d3 d4 d5; have c2 := (sx_cells (R6.out.rl.so9 HB8.out H9.out.1)).c2; have f2 := (R6.out.rl.so9 HB8.out H9.out.1).free 2; unfold scO at c2; dsimp only at c2)
         have R9 := Lib.hid (R6.out.rl.more HB8.out H9.out.1 H9.out.2)
         have HEQ := Lib.hid (show (S.cells.take k).map (celP f) ++ [y] = (S.cells.take (k + 1)).map (celP f) from by rw [List.take_add_one, getElem?_cAt HKS.out, List.map_append, ← HX.out, ← HZC.out]; rfl)
         rw [HEQ.out] at R9
         clear HB8 HO8 HV8 H9 HEQ c2 f2 R6 HCX HZC
         go_wp2_with fail
         go_roundw
         case rel => exact ⟨k + 1, c5, A5, by have := HKL.out; omega, by go_num, R9.out, R9.out.so.lt⟩
         case measure => simp [intOf]; have := HKL.out; omega
    · have e : k = s.n := by omega
      subst e
      have HT := Lib.hid (show (S.cells.take s.n).map (celP f) = S.cells.map (celP f) from by rw [List.take_of_length_le (by rw [HS.out.1.cells.len]; exact Nat.le_refl _)])
      rw [HT.out] at Y
      clear HT hlt
      have W0 := Lib.hid (show PRt w wr b bo s (scO s A s.n cap) (scT f S) from Y.out.1.done HS.out)
      clear Y
      go_wp2_with fail
      refine (HL8.out _).mono ?_
      rintro e w5 ⟨rfl, rfl⟩
      obtain ⟨B, hB⟩ : ∃ B, hasB f 3 = B := ⟨_, rfl⟩
      rw [hB]
      have HB1 := Lib.hid hB
      clear hB
      go_upto_if 90 with fail
      go_cut [] from 91 to 95 (fun wc => ∃ o, PRt w wc b bo s o { scT f S with links := if hasB f 3 = true then S.links else [] })
      case first =>
       cases B
       · go_wp2_with fail
         go_meet
         case rel => exact ⟨_, by rw [HB1.out]; exact W0.out⟩
       · have c8 := (sx_cells (W0.out.on ((Below.refl _ _).alloc (Nat.le_refl _) (.cells #[] 9))).st.b1).c8
         have HVL := Lib.hid ((HI.out _ W0.out.st.bel).links.below ((Below.refl _ _).alloc (Nat.le_refl _) (.cells #[] 9)))
         have HLEM := Lib.hid HS.out.1.links.len
         have HFEW := Lib.hid (right_few HS.out.2).2
         go_wp2_with (at_builtin; refine wpList_appT _ rfl _ _ rfl w5.heap.size (some ⟨w5.heap.size, 0, none⟩) 0 0 [] rfl (Tx.mk' (World.ownsRow_lit w5 #[] 0 (Nat.le_refl _) (by unfold maxLen; omega) rfl)) s.T s.m s.q s.m (by omega) S.links rfl HVL.out (by have := HN.out.2; omega) (by simp) ?_; intro A6 c6 w6 hown hg; have H6 := Lib.hid (And.intro hown (show Below w5.heap.size w5 w6 from ((Below.refl _ _).alloc (Nat.le_refl _) _).grown hg (by simp) (by intro k hk; have : w5.heap.size = k := (by simpa [Value.ownBlock] using hk); omega))); clear hown hg c8; have W1 := Lib.hid (W0.out.on H6.out.2); have c8 := (sx_cells W1.out.so).c8; have f8 := W1.out.so.free 8)
         have W2 := Lib.hid (W1.out.setLinks (H6.out.1.lower (by have := W0.out.so.lt; omega)) (by have := HLEM.out; have := HFEW.out; omega) HS.out.1.sz)
         go_meet
         case rel => exact ⟨_, by rw [HB1.out]; exact W2.out⟩
      case rest =>
      obtain ⟨o1, h1⟩ := hcut
      have W1 := Lib.hid h1
      clear h1 W0 HB1
      go_wp2_with fail
      refine (HL16.out _).mono ?_
      rintro e w6 ⟨rfl, rfl⟩
      obtain ⟨B, hB⟩ : ∃ B, hasB f 4 = B := ⟨_, rfl⟩
      rw [hB]
      have HB2 := Lib.hid hB
      clear hB
      go_upto_if 97 with fail
      go_cut [] from 98 to 100 (fun wc => ∃ o, PRt w wc b bo s o { { scT f S with links := if hasB f 3 = true then S.links else [] } with title := if hasB f 4 = true then S.title else [] })
      case first =>
       cases B
       · go_wp2_with fail
         go_meet
         case rel => exact ⟨_, by rw [HB2.out]; exact W1.out⟩
       · have c7 := (sx_cells W1.out.st.b1).c7
         have d7 := (sx_cells W1.out.so).c7
         have f7 := W1.out.so.free 7
         have W2 := Lib.hid (W1.out.setTitle HS.out.1.ttl HS.out.1.tz)
         go_wp2_with fail
         go_meet
         case rel => exact ⟨_, by rw [HB2.out]; exact W2.out⟩
      case rest =>
      obtain ⟨o2, h1⟩ := hcut
      have W2 := Lib.hid h1
      clear h1 W1 HB2
      go_wp2_with fail
      refine (HL32.out _).mono ?_
      rintro e w7 ⟨rfl, rfl⟩
      obtain ⟨B, hB⟩ : ∃ B, hasB f 5 = B := ⟨_, rfl⟩
      rw [hB]
      have HB3 := Lib.hid hB
      clear hB
      go_upto_if 102 with fail
      go_cut [] from 103 to 105 (fun wc => ∃ o, PRt w wc b bo s o { { { scT f S with links := if hasB f 3 = true then S.links else [] } with title := if hasB f 4 = true then S.title else [] } with mouse := if hasB f 5 = true then S.mouse else 0 })
      case first =>
       cases B
       · go_wp2_with fail
         go_meet
         case rel => exact ⟨_, by rw [HB3.out]; exact W2.out⟩
       · have c7 := (sx_cells W2.out.st.b1).c6
         have d7 := (sx_cells W2.out.so).c6
         have f7 := W2.out.so.free 6
         have W3 := Lib.hid (W2.out.setMouse HS.out.1.mouse)
         go_wp2_with fail
         go_meet
         case rel => exact ⟨_, by rw [HB3.out]; exact W3.out⟩
      case rest =>
      obtain ⟨o3, h1⟩ := hcut
      have W3 := Lib.hid h1
      clear h1 W2 HB3
      have W6 := Lib.hid (show PRt w wc b bo s o3 (scrP f S) from W3.out)
      clear W3
      obtain ⟨a0, a1, a2, a3, a4, a5, a6, a7, a8, _⟩ := sx_cells W6.out.so
      go_wp2_with (refine wpList_store_V rfl 25 (.tmp 4) (.tmp 106) rfl scF_len one_sc info56 (b + 1) _ 0 o3 _ rfl (by omega) rfl rfl 25 [scN] W6.out.st.b2 (by decide) ?_; intro w7 hR7 hg7)
      have HE := Lib.hid (show Below w.heap.size w w7 ∧ ScOwn w.heap.size w7 o3 (scrP f S) from ⟨W6.out.st.bel.grown hg7 W6.out.st.bel.size (fun k hk => by injection hk with hk; have := W6.out.st.lo; omega), (W6.out.own.grown hg7 (by have := W6.out.gt; omega)).lower (by have := W6.out.st.lo; have := W6.out.gt; omega)⟩)
      clear hg7 W6
      obtain ⟨y0, y1, y2, y3, y4, y5, y6, y7, y8, _⟩ := sx_cells (s := o3) hR7
      exact bodyPost_ret (v := .agg (scrA o3)) (by simp [results, Tryd.results13, scrA, go_sem, y0, y1, y2, y3, y4, y5, y6, y7, y8]) rfl ⟨HE.out.1, _, rfl, by rw [HZ.out]; exact HE.out.2⟩
end Go.Proofs.YtojchkhnalnncaaDoor
