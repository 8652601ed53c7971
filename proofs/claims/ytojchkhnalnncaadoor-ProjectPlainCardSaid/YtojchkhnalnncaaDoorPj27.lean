/-
  Part 27 of what the laws of emul want: ProjFixed, LinksIn, GridOpen, EmulIn, ColorIn, ProjIn, ProjBits, Weights, ProjShowsL.
-/
import Derived.SliceStrings
import Derived.ChangeMaps5
import Derived.StillTailTactics
import Derived.Deep.RegionHeld3
import Derived.Maps.RangeWalk
import Derived.LoopTactic
import Derived.Test.YtojchkhnalnncaaDoorPj01
import Derived.Test.YtojchkhnalnncaaDoorPj02
import Derived.Test.YtojchkhnalnncaaDoorPj05
import Derived.Test.YtojchkhnalnncaaDoorPj07
import Derived.Test.YtojchkhnalnncaaDoorPj09
import Derived.Test.YtojchkhnalnncaaDoorPj10
import Derived.Test.YtojchkhnalnncaaDoorPj14
import Derived.Test.YtojchkhnalnncaaDoorPj15
import Derived.Test.YtojchkhnalnncaaDoorPj18
import Derived.Test.YtojchkhnalnncaaDoorPj20
import Derived.Test.YtojchkhnalnncaaDoorPj26
namespace Go.Proofs.YtojchkhnalnncaaDoor
open Go.RowKit
def greatS (s : ScR) : Bool := decide (3000 < s.n) || decide (1000 < s.ttl.size) || decide (1000 < s.m)
theorem great_no {s : ScR} (h : greatS s = false) : s.n ≤ 3000 ∧ s.ttl.size ≤ 1000 ∧ s.m ≤ 1000 := by
 unfold greatS at h
 simp only [Bool.or_eq_false_iff, decide_eq_false_iff_not] at h
 omega
set_option maxRecDepth 100000 in
theorem greatP_any (s : ScR) (w : World) : Calls Tryd.prog 8 #[.agg (scrA s)] w fun e w' => e = .returned (.bool (greatS s)) ∧ Below w.heap.size w w' := by
 obtain ⟨G, hG⟩ : ∃ G, greatS s = G := ⟨_, rfl⟩
 rw [hG]
 have HG := Lib.hid hG
 clear hG
 obtain ⟨b, hb⟩ : ∃ b, b = w.heap.size := ⟨_, rfl⟩
 obtain ⟨w1, hw1⟩ : ∃ w1, w1 = w.alloc (.cells (scrA s) 25) := ⟨_, rfl⟩
 have H1 := Lib.hid (show Sx w1 b s ∧ Below w.heap.size w w1 from by
  rw [hw1, hb]
  exact ⟨Sx.new w s, (Below.refl _ _).alloc (Nat.le_refl _) _⟩)
 obtain ⟨a0, a1, a2, a3, a4, a5, a6, a7, a8, _⟩ := sx_cells H1.out.1
 clear a0 a1 a3 a4 a5 a6
 unfold scrA at hw1 ⊢
 by_cases h1 : 3000 < s.n
 · have e : G = true := by rw [← HG.out]; simp [greatS, h1]
   subst e
   go_enter Tryd.func8, Tryd.ntmps8
   go_upto_region 1 with fail
   rw [← hw1, ← hb]
   clear hw1 hb
   go_wp2_with fail
   go_ret
   exact ⟨rfl, H1.out.2⟩
 · by_cases h2 : 1000 < s.ttl.size
   · have e : G = true := by rw [← HG.out]; simp [greatS, h2]
     subst e
     go_enter Tryd.func8, Tryd.ntmps8
     go_upto_region 1 with fail
     rw [← hw1, ← hb]
     clear hw1 hb
     go_wp2_with fail
     go_ret
     exact ⟨rfl, H1.out.2⟩
   · by_cases h3 : 1000 < s.m
     · have e : G = true := by rw [← HG.out]; simp [greatS, h3]
       subst e
       go_enter Tryd.func8, Tryd.ntmps8
       go_upto_region 1 with fail
       rw [← hw1, ← hb]
       clear hw1 hb
       go_wp2_with fail
       go_ret
       refine ⟨?_, H1.out.2⟩
       simp
       omega
     · have e : G = false := by rw [← HG.out]; simp [greatS]; omega
       subst e
       go_enter Tryd.func8, Tryd.ntmps8
       go_upto_region 1 with fail
       rw [← hw1, ← hb]
       clear hw1 hb
       go_wp2_with fail
       go_ret
       refine ⟨?_, H1.out.2⟩
       simp
       omega
def exL : List Ce := [⟨19968, 1, pn0⟩, ⟨0, 2, pn0⟩]
def exS : Sc := { blS 2 1 with cells := exL }
theorem w19968 : widthS 19968 = 2 := by decide +kernel
theorem ex_row : RowOk exL := by
 refine ⟨by decide, by decide, fun i hi => ?_⟩
 have hp : penMayS pn0 = true := by decide
 have h2 : i = 0 ∨ i = 1 := by have : exL.length = 2 := rfl; omega
 rcases h2 with rfl | rfl
 · refine ⟨?_, fun _ => ⟨by decide, rfl⟩, (fun h => by cases h)⟩
   show cellMay ⟨19968, 1, pn0⟩ = true
   unfold cellMay
   simp [hp, w19968]
 · refine ⟨?_, (fun h => by cases h), fun _ => ⟨by decide, rfl⟩⟩
   show cellMay ⟨0, 2, pn0⟩ = true
   unfold cellMay
   simp [hp]
theorem ex_right : rightSc exS = true := by
 have hk : Gk 2 1 [exL] := by
  refine ⟨⟨rfl, fun y hy => ?_⟩, by decide, by decide, by decide, by decide, fun y hy => ?_⟩
  · have e : y = 0 := by omega
    subst e
    rfl
  · have e : y = 0 := by omega
    subst e
    exact ex_row
 have hg : gridMay (2 : Nat) (1 : Nat) [exL].flatten = true := hk.may
 have ho : ordS exL [] = true := ord_none fun c hc => by
  rcases List.mem_cons.1 hc with rfl | hc
  · rfl
  · obtain rfl := List.mem_singleton.1 hc
    rfl
 unfold rightSc
 have e1 : gridMay exS.c exS.r exS.cells = true := hg
 have e2 : ordS exS.cells exS.links = true := ho
 rw [e1, e2]
 decide
theorem ex_proj : projS 0 exS = { blS 2 1 with cells := [⟨63, 0, pn0⟩, ⟨32, 0, pn0⟩] } := by
 have hp : penP 0 pn0 = pn0 := by unfold penP; rw [fit_low (by decide), fit_low (by decide)]; rfl
 have h2 : hasB 0 2 = false := by decide
 rw [proj_yes ex_right]
 unfold scrP
 have e : exS.cells.map (celP 0) = [⟨63, 0, pn0⟩, ⟨32, 0, pn0⟩] := by
  show [celP 0 ⟨19968, 1, pn0⟩, celP 0 ⟨0, 2, pn0⟩] = _
  unfold celP
  rw [h2]
  dsimp only
  rw [hp]
  rfl
 rw [e]
 rfl
theorem ex_pos : PosC exS.cells := fun c hc => by
 rcases List.mem_cons.1 hc with rfl | hc
 · exact ⟨by decide, by decide⟩
 · obtain rfl := List.mem_singleton.1 hc
   exact ⟨by decide, by decide⟩
theorem ex_size : sizeOk 2 1 = true := by decide
theorem Cx.two {base : Nat} {w : World} {A : Option Addr} {c : Nat} {L : List Ce} {n : Nat} (h : Cx base w A n c L) (hn : n = 2) : ∃ g, A = some ⟨g, 0, none⟩ ∧ base ≤ g ∧ 2 ≤ c ∧ Rw ceV 37 w g L := by
 obtain ⟨g, e, hb, hR⟩ := h.own (by omega)
 exact ⟨g, e, hb, by have := h.le; omega, hR⟩
set_option maxHeartbeats 6400000 in
set_option maxRecDepth 100000 in
theorem fixedP_any {w : World} (hT : Tabs w) (hC : CTabs w) : Calls Tryd.prog 9 #[] w fun e w' => e = .returned (.bool true) ∧ Below w.heap.size w w' := by
 have HT := Lib.hid (fun w' (hb' : Below w.heap.size w w') => And.intro (hT.below hb' (Nat.le_refl _)) (hC.below hb' (Nat.le_refl _)))
 clear hT hC
 go_enter Tryd.func9, Tryd.ntmps9
 go_wp2_with fail
 refine (pBlank_any (HT.out _ (Below.refl _ _)).1 2 1).mono ?_
 rintro e w1 ⟨hb1, ⟨_, s, rfl, hS⟩ | ⟨hs, _⟩⟩
 rotate_left
 · exact absurd hs (by rw [ex_size]; simp)
 replace hS : ScOwn w.heap.size w1 s (blS 2 1) := hS
 have hl : s.n = 2 := by rw [← hS.sc.cells.len]; rfl
 obtain ⟨g, hA, hg, hc2, hR⟩ := hS.cx.two hl
 obtain ⟨bs, hbs⟩ : ∃ bs, bs = w1.heap.size := ⟨_, rfl⟩
 obtain ⟨w2, hw2⟩ : ∃ w2, w2 = w1.alloc (.cells (scrA s) 25) := ⟨_, rfl⟩
 have H2 := Lib.hid (show Sx w2 bs s ∧ Below w.heap.size w w2 ∧ Rw ceV 37 w2 g [blankS pn0, blankS pn0] ∧ g < bs ∧ ScOwn w.heap.size w2 s (blS 2 1) from by
  have hb2 : Below w1.heap.size w1 w2 := by rw [hw2]; exact (Below.refl _ _).alloc (Nat.le_refl _) _
  refine ⟨by rw [hw2, hbs]; exact Sx.new w1 s, hb1.trans (hb2.mono hb1.size), hR.below hb2, by rw [hbs]; exact hR.lt, hS.below hb2⟩)
 have HG := Lib.hid (And.intro hg hc2)
 have HL := Lib.hid hl
 have HM := Lib.hid hS.m
 have HA := Lib.hid hA
 clear hS hR hb1 hg hc2 hA hl
 unfold scrA at hw2 ⊢
 go_upto_region 2 with fail
 rw [← hw2, ← hbs]
 clear hw2 hbs
 have c2 := (sx_cells H2.out.1).c2
 rw [HL.out, HA.out] at c2
 go_upto_region 4 with fail
 go_upto_region 5 with (refine wpList_store_V rfl 37 (.tmp 19) (.tmp 18) rfl ceV_len one_ce infoCe g _ 0 ⟨19968, 1, pn0⟩ _ rfl (by omega) rfl rfl 37 _ H2.out.2.2.1 (by decide) ?_; intro w3 hR3 hg3)
 have H3 := Lib.hid (show Sx w3 bs s ∧ Rw ceV 37 w3 g [⟨19968, 1, pn0⟩, blankS pn0] ∧ w2.grownBy w3 (some g) from ⟨H2.out.1.grown hg3 (by have := H2.out.2.2.2.1; intro e; injection e with e; omega), hR3, hg3⟩)
 clear c2 hR3 hg3
 have c2 := (sx_cells H3.out.1).c2
 rw [HL.out, HA.out] at c2
 go_upto_region 6 with (refine wpList_store_V rfl 37 (.tmp 23) (.tmp 22) rfl ceV_len one_ce infoCe g _ 1 ⟨0, 2, pn0⟩ _ rfl (by omega) rfl rfl 37 _ H3.out.2.1 (by decide) ?_; intro w4 hR4 hg4)
 have H4 := Lib.hid (show Sx w4 bs s ∧ Below w.heap.size w w4 ∧ ScIn w4 s exS from by
  have h24 : w2.grownBy w4 (some g) := H3.out.2.2.trans hg4
  have hR : Rw ceV 37 w4 g exL := hR4
  have hv := hR.vs
  refine ⟨H3.out.1.grown hg4 (by have := H2.out.2.2.2.1; intro e; injection e with e; omega), H2.out.2.1.grown h24 H2.out.2.1.size (fun k hk => by injection hk with hk; have := HG.out.1; omega), ?_⟩
  have hl : Vs stV w4 s.T s.m [] := ⟨by have := H2.out.2.2.2.2.sc.links.len; exact this, fun hn => absurd H2.out.2.2.2.2.sc.links.len (by show ¬ (0 = s.m); omega)⟩
  have hk : ∀ x ∈ exS.cells, 0 ≤ x.p.lk ∧ x.p.lk ≤ 65535 := fun x hx => by
   rcases List.mem_cons.1 hx with rfl | hx
   · exact ⟨by decide, by decide⟩
   · obtain rfl := List.mem_singleton.1 hx
     exact ⟨by decide, by decide⟩
  have hc : Vs ceV w4 s.A s.n exL := by rw [HL.out, HA.out]; exact hv
  exact { H2.out.2.2.2.2.sc with cells := hc, links := hl, lk := hk })
 clear c2 hR4 hg4 H3 H2
 have HP := Lib.hid (pScreen_any (f := 0) (HT.out _ H4.out.2.1).1 (HT.out _ H4.out.2.1).2 H4.out.2.2 ex_pos (by rw [HL.out]; omega) (by have := HM.out; omega) (by omega))
 rw [ex_proj] at HP
 obtain ⟨a0, a1, a2, a3, a4, a5, a6, a7, a8, _⟩ := sx_cells H4.out.1
 unfold scrA at HP
 go_wp2_with fail
 refine HP.out.mono ?_
 rintro e w5 ⟨hb5, s5, rfl, hS5⟩
 clear a0 a1 a2 a3 a4 a5 a6 a7 a8 HP
 have hl5 : s5.n = 2 := by rw [← hS5.sc.cells.len]; rfl
 obtain ⟨g5, hA5, hg5, hc5, hR5⟩ := hS5.cx.two hl5
 have h05 : (2 : Nat) ≤ s5.k := hc5
 obtain ⟨b5, hb5'⟩ : ∃ b5, b5 = w5.heap.size := ⟨_, rfl⟩
 obtain ⟨w6, hw6⟩ : ∃ w6, w6 = w5.alloc (.cells (scrA s5) 25) := ⟨_, rfl⟩
 have H6 := Lib.hid (show Sx w6 b5 s5 ∧ Below w.heap.size w w6 ∧ Rw ceV 37 w6 g5 [⟨63, 0, pn0⟩, ⟨32, 0, pn0⟩] from by
  have hb6 : Below w5.heap.size w5 w6 := by rw [hw6]; exact (Below.refl _ _).alloc (Nat.le_refl _) _
  refine ⟨by rw [hw6, hb5']; exact Sx.new w5 s5, (H4.out.2.1.trans (hb5.mono H4.out.2.1.size)).trans (hb6.mono (Nat.le_trans H4.out.2.1.size hb5.size)), hR5.below hb6⟩)
 have HL5 := Lib.hid (And.intro hl5 hA5)
 clear hS5 hR5 hb5 hg5 hc5 hA5 hl5
 unfold scrA at hw6 ⊢
 go_upto_region 7 with fail
 rw [← hw6, ← hb5']
 clear hw6 hb5'
 have c2 := (sx_cells H6.out.1).c2
 rw [HL5.out.1, HL5.out.2] at c2
 have r0 : w6.cell? ⟨g5, 0, none⟩ = some (.int .i32 63) := H6.out.2.2.cell (j := 0) rfl
 have r6 : w6.cell? ⟨g5, 6, none⟩ = some (.int .i32 32) := H6.out.2.2.cell (j := 6) rfl
 have r7 : w6.cell? ⟨g5, 7, none⟩ = some (.int .u8 0) := H6.out.2.2.cell (j := 7) rfl
 go_wp2_with fail
 go_ret
 exact ⟨rfl, H6.out.2.1⟩
open Go.ChangeShapes Go.WideShapes Go.ChangeAt Go.RowKit Go.Deep
theorem cellsStr : Tryd.prog.cellsOf 9 = 1 := by kernel_rfl
theorem bytesStr : Tryd.prog.bytesOf 9 = 16 := by kernel_rfl
theorem cellsBool : Tryd.prog.cellsOf 4 = 1 := by kernel_rfl
theorem weights_strs {H : Type} {P : Program} {e : TypeId} {ss : List ByteArray} {s : ByteArray} (h : s ∈ ss) : s.data.toList.length ∈ DataW.weightsAll P e (strs (H := H) ss) := by
 induction ss with
 | nil => cases h
 | cons a ss ih =>
  show _ ∈ DataW.weights P e (.lit (.string a.data.toList)) ++ DataW.weightsAll P e (strs ss)
  rcases List.mem_cons.1 h with rfl | h
  · exact List.mem_append_left _ (by simp [DataW.weights])
  · exact List.mem_append_right _ (ih h)
section
variable {H : Type} {enc : TypeId × Value → H} {W : World} {base fuel : Nat} {spare : Nat → Bool} {held : Bool} {cs : List Value} {x : DataW H × List MemPlace}
set_option maxRecDepth 100000 in
theorem trod_cellL (h : DataW.trod enc Tryd.prog W base spare held fuel 37 cs = some x) : ∃ c : Ce, cs = ceV c ∧ 0 ≤ c.p.lk ∧ c.p.lk ≤ 65535 := by
 obtain ⟨c, rfl⟩ := trod_cell h
 refine ⟨c, rfl, ?_⟩
 obtain ⟨ys, n1, hn1, hys, hcl, hyl, hf⟩ := DataW.trod_struct Tryd.underlying37 h
 match ys, hyl with
 | [y0, y1, y2], _ =>
  have f2 : DataW.trod enc Tryd.prog W base spare held n1 35 [.int .u32 c.p.fg, .int .u32 c.p.bg, .int .u8 c.p.st, .int .u16 c.p.lk] = some y2 := by simpa [cellsPn, ceV] using hf 2 _ rfl
  obtain ⟨zs, n2, hn2, hzs, hcl2, hzl, hf2⟩ := DataW.trod_struct Tryd.underlying35 f2
  match zs, hzl with
  | [z0, z1, z2, z3], _ =>
   have f3 : DataW.trod enc Tryd.prog W base spare held n2 33 [.int .u16 c.p.lk] = some z3 := by simpa [cells_16] using hf2 3 _ rfl
   obtain ⟨d, e3, _, w3⟩ := DataW.trod_int Tryd.underlying33 f3
   injection e3 with e3
   injection e3 with _ e3
   rw [e3]
   exact bounds_u16 w3
end
open Go.ChangeShapes Go.WideShapes Go.ChangeAt Go.RowKit Go.Deep
theorem cellsSl : Tryd.prog.cellsOf 22 = 1 := by kernel_rfl
theorem rows_in {α : Type} {f : α → List Value} {d0 : Nat} (hf : ∀ a, (f a).length = d0) (hd : 0 < d0) {Q : α → Prop} {H : Type} {enc : TypeId × Value → H} {W : World} {v : Value} {fuel : Nat} {x : DataW H × List MemPlace} (t e : TypeId) (ht : Tryd.prog.underlying t = some (.slice e)) (he : Tryd.prog.cellsOf e = d0)
  (htrod : ∀ (fuel : Nat) (cs : List Value) (x : DataW H × List MemPlace), DataW.trod enc Tryd.prog W 0 (fun _ => true) true fuel e cs = some x → ∃ a : α, cs = f a ∧ Q a)
  (hx : DataW.trod enc Tryd.prog W 0 (fun _ => true) true fuel t [v] = some x) :
  ∃ A n c L, v = .slice A n c ∧ Vs f W A n L ∧ (∀ a ∈ L, Q a) ∧ n ≤ c ∧ c ≤ maxLen := by
 rcases open_slice ht hx with ⟨hcs, _⟩ | ⟨a, n, cap, m, n1, D, Pl, hcs, hb, hl, hm, hmm, _, hi⟩
 · simp at hcs
   subst hcs
   exact ⟨none, 0, 0, [], rfl, Vs.nil _ _, (fun _ h => by cases h), Nat.le_refl _, by unfold maxLen; omega⟩
 · simp at hcs
   subst hcs
   simp only [if_true] at hmm
   subst hmm
   obtain ⟨L, h1, h2, h3⟩ := vs_of hf (w := W) (ad := a) (Q := Q) n fun k hk => by
    obtain ⟨cs', hc, ht'⟩ := hi k (by omega)
    rw [he] at hc
    obtain ⟨_, hcl, hat⟩ := World.cells?_some hc
    obtain ⟨q, e1, hq⟩ := htrod _ _ _ ht'
    refine ⟨q, hq, fun j v hj => ?_⟩
    have hjl : j < d0 := by
     have := (List.getElem?_eq_some_iff.1 hj).1
     rwa [hf] at this
    rw [← Go.Deep.add_add, hat j hjl, e1]
    exact hj
   refine ⟨some a, n, _, L, rfl, ⟨h1, fun hn => ⟨a, rfl, ?_, h3⟩⟩, h2, hl, hm⟩
   have hr : 0 < (rowV f L).length := by rw [rowV_len hf, h1]; exact Nat.mul_pos hn hd
   have h0 := h3 0 _ (List.getElem?_eq_getElem hr)
   have := World.block_lt_of_cell? W _ h0
   rwa [addBlock] at this
open Go.ChangeShapes Go.WideShapes Go.ChangeAt Go.RowKit Go.Deep
theorem cellsScr : Tryd.prog.cellsOf 25 = 9 := by kernel_rfl
theorem cellsTxs : Tryd.prog.cellsOf 23 = 1 := by kernel_rfl
theorem cellsU8S : Tryd.prog.cellsOf 5 = 1 := by kernel_rfl
section
variable {H : Type} {enc : TypeId × Value → H} {W : World} {base : Nat} {v : Value} {d : DataW H} {p : List MemPlace}
set_option maxRecDepth 100000 in
theorem texts_in {fuel : Nat} {cs : List Value} {x : DataW H × List MemPlace} (hw : ∀ y ∈ x.1.weights Tryd.prog 23, y ≤ reachBytes) (hf : DataW.trod enc Tryd.prog W 0 (fun _ => true) true fuel 23 cs = some x) :
  ∃ A n c L, cs = [.slice A n c] ∧ Vs stV W A n L ∧ (∀ s ∈ L, s.size ≤ 140737488351232) ∧ n ≤ c ∧ c ≤ maxLen := by
 rcases open_strings Tryd.underlying23 Tryd.underlying9 cellsStr hf with ⟨hcs, _⟩ | ⟨a, len, cap, ss, hcs, _, hl, hm, hz, hx, hcell, hsz⟩
 · exact ⟨none, 0, 0, [], hcs, Vs.nil _ _, (fun _ h => by cases h), Nat.le_refl _, by unfold maxLen; omega⟩
 · have hzl : ss.length = cap := by simpa using hz
   have hlen : (ss.take len).length = len := by simp; omega
   subst hx
   have key : ∀ y ∈ ((strs (H := H) (ss.take len)).length + (strs (H := H) (ss.drop len)).length) * 16 :: (DataW.weightsAll Tryd.prog 9 (strs (H := H) (ss.take len)) ++ DataW.weightsAll Tryd.prog 9 (strs (H := H) (ss.drop len))), y ≤ reachBytes := by
    intro y hy
    refine hw y ?_
    simp only [DataW.weights, Tryd.underlying23, bytesStr]
    exact hy
   refine ⟨some a, len, cap, ss.take len, hcs, ⟨hlen, fun hn => ⟨a, rfl, ?_, fun j v hj => ?_⟩⟩, fun s hs => ?_, hl, hm⟩
   · have h0 := hcell 0 (by omega)
     have := World.block_lt_of_cell? W _ h0
     rwa [addBlock] at this
   · have hjl := (List.getElem?_eq_some_iff.1 hj).1
     rw [rowT_len, hlen] at hjl
     rw [rowT_get (by rw [hlen]; exact hjl)] at hj
     injection hj with hj
     rw [hcell j (by omega), ← hj]
     congr 2
     unfold sAt
     simp only [List.getD, List.getElem?_take, if_pos hjl]
     rfl
   · have := key _ (List.mem_cons_of_mem _ (List.mem_append_left _ (weights_strs hs)))
     unfold reachBytes at this
     simpa using this
end
open Go.ChangeShapes Go.WideShapes Go.ChangeAt Go.RowKit
theorem wf_u32 {a : Int} (h : (Lit.int .u32 a).wf = true) : 0 ≤ a ∧ a ≤ 4294967295 := by
 have h2 : (decide ((0 : Int) ≤ a) && decide (a ≤ 4294967295)) = true := h
 simpa using h2
variable {H : Type} {enc : TypeId × Value → H} {W : World} {base : Nat} {v : Value} {d : DataW H} {p : List MemPlace}
set_option maxRecDepth 100000 in
theorem open_u32h (hv : Value.okWide Tryd.prog W .any base 26 v) (h : DataW.Trod enc Tryd.prog W 0 (fun _ => true) true 26 v d p) : ∃ k : Int, v = .int .u32 k ∧ (0 ≤ k ∧ k ≤ 4294967295) := by
 obtain ⟨a, rfl, _, _, w⟩ := open_int Tryd.underlying26 hv h
 exact ⟨a, rfl, wf_u32 w⟩
open Go.ChangeShapes Go.WideShapes Go.ChangeAt Go.RowKit Go.Deep
section
variable {H : Type} {enc : TypeId × Value → H} {W : World} {base fuel : Nat} {spare : Nat → Bool} {held : Bool} {cs : List Value} {x : DataW H × List MemPlace}
theorem cells_col : Tryd.prog.cellsOf 32 = 1 := by kernel_rfl
set_option maxRecDepth 100000 in
theorem trod_cellP (h : DataW.trod enc Tryd.prog W base spare held fuel 37 cs = some x) : ∃ c : Ce, cs = ceV c ∧ (0 ≤ c.p.lk ∧ c.p.lk ≤ 65535) ∧ (0 ≤ c.p.fg ∧ 0 ≤ c.p.bg) := by
 obtain ⟨c, rfl, hl⟩ := trod_cellL h
 refine ⟨c, rfl, hl, ?_⟩
 obtain ⟨ys, n1, hn1, hys, hcl, hyl, hf⟩ := DataW.trod_struct Tryd.underlying37 h
 match ys, hyl with
 | [y0, y1, y2], _ =>
  have f2 : DataW.trod enc Tryd.prog W base spare held n1 35 [.int .u32 c.p.fg, .int .u32 c.p.bg, .int .u8 c.p.st, .int .u16 c.p.lk] = some y2 := by simpa [cellsPn, ceV] using hf 2 _ rfl
  obtain ⟨zs, n2, hn2, hzs, hcl2, hzl, hf2⟩ := DataW.trod_struct Tryd.underlying35 f2
  match zs, hzl with
  | [z0, z1, z2, z3], _ =>
   have f0 : DataW.trod enc Tryd.prog W base spare held n2 32 [.int .u32 c.p.fg] = some z0 := by simpa [cells_col] using hf2 0 _ rfl
   have f1 : DataW.trod enc Tryd.prog W base spare held n2 32 [.int .u32 c.p.bg] = some z1 := by simpa [cells_col] using hf2 1 _ rfl
   obtain ⟨d, e, _, w0⟩ := DataW.trod_int Tryd.underlying32 f0
   obtain ⟨d', e', _, w1⟩ := DataW.trod_int Tryd.underlying32 f1
   injection e with e
   injection e with _ e
   injection e' with e'
   injection e' with _ e'
   rw [e, e']
   exact ⟨(wf_u32 w0).1, (wf_u32 w1).1⟩
end
section
variable {H : Type} {enc : TypeId × Value → H} {W : World} {base : Nat} {v : Value} {d : DataW H} {p : List MemPlace}
set_option maxRecDepth 100000 in
theorem open_screenP (hw : ∀ x ∈ d.weights Tryd.prog 25, x ≤ reachBytes) (hv : Value.okWide Tryd.prog W .any base 25 v) (h : DataW.Trod enc Tryd.prog W 0 (fun _ => true) true 25 v d p) :
  ∃ (s : ScR) (S : Sc), v = .agg (scrA s) ∧ (ScIn W s S ∧ PosC S.cells) := by
 obtain ⟨cs, rfl, hsz⟩ := okWide_struct Tryd.underlying25 hv
 obtain ⟨cs⟩ := cs
 match cs, hsz.trans cellsScr with
 | [v0, v1, v2, v3, v4, v5, v6, v7, v8], _ =>
  obtain ⟨fuel, hf0⟩ := h
  obtain ⟨ys, n1, hn1, hys, _, hyl, hf⟩ := DataW.trod_struct Tryd.underlying25 hf0
  match ys, hyl with
  | [y0, y1, y2, y3, y4, y5, y6, y7, y8], _ =>
   have f0 : DataW.trod enc Tryd.prog W 0 (fun _ => true) true n1 3 [v0] = some y0 := by simpa [Value.cells, cells_i] using hf 0 _ rfl
   have f1 : DataW.trod enc Tryd.prog W 0 (fun _ => true) true n1 3 [v1] = some y1 := by simpa [Value.cells, cells_i] using hf 1 _ rfl
   have f2 : DataW.trod enc Tryd.prog W 0 (fun _ => true) true n1 22 [v2] = some y2 := by simpa [Value.cells, cellsSl] using hf 2 _ rfl
   have f3 : DataW.trod enc Tryd.prog W 0 (fun _ => true) true n1 3 [v3] = some y3 := by simpa [Value.cells, cells_i] using hf 3 _ rfl
   have f4 : DataW.trod enc Tryd.prog W 0 (fun _ => true) true n1 3 [v4] = some y4 := by simpa [Value.cells, cells_i] using hf 4 _ rfl
   have f5 : DataW.trod enc Tryd.prog W 0 (fun _ => true) true n1 4 [v5] = some y5 := by simpa [Value.cells, cellsBool] using hf 5 _ rfl
   have f6 : DataW.trod enc Tryd.prog W 0 (fun _ => true) true n1 5 [v6] = some y6 := by simpa [Value.cells, cellsU8S] using hf 6 _ rfl
   have f7 : DataW.trod enc Tryd.prog W 0 (fun _ => true) true n1 9 [v7] = some y7 := by simpa [Value.cells, cellsStr] using hf 7 _ rfl
   have f8 : DataW.trod enc Tryd.prog W 0 (fun _ => true) true n1 23 [v8] = some y8 := by simpa [Value.cells, cellsTxs] using hf 8 _ rfl
   simp only [Prod.mk.injEq, List.map_cons, List.map_nil] at hys
   have hd := hys.1
   have hW : ∀ x ∈ DataW.weightsEach Tryd.prog [3, 3, 22, 3, 3, 4, 5, 9, 23] [y0.1, y1.1, y2.1, y3.1, y4.1, y5.1, y6.1, y7.1, y8.1], x ≤ reachBytes := by
    intro x hx
    refine hw x ?_
    rw [hd]
    simp only [DataW.weights, Tryd.underlying25]
    exact hx
   obtain ⟨c0, e0, _, _⟩ := DataW.trod_int Tryd.underlying3 f0
   obtain ⟨c1, e1, _, _⟩ := DataW.trod_int Tryd.underlying3 f1
   obtain ⟨A, n, k, L, e2, h2, hQ, hk1, hk2⟩ := rows_in (Q := fun c : Ce => (0 ≤ c.p.lk ∧ c.p.lk ≤ 65535) ∧ (0 ≤ c.p.fg ∧ 0 ≤ c.p.bg)) ceV_len (by omega) _ _ Tryd.underlying22 cellsCe (fun _ _ _ ht => trod_cellP ht) f2
   obtain ⟨c3, e3, _, _⟩ := DataW.trod_int Tryd.underlying3 f3
   obtain ⟨c4, e4, _, _⟩ := DataW.trod_int Tryd.underlying3 f4
   obtain ⟨c5, e5, _⟩ := DataW.trod_bool Tryd.underlying4 f5
   obtain ⟨c6, e6, _, _⟩ := DataW.trod_int Tryd.underlying5 f6
   obtain ⟨c7, e7, hx7, _⟩ := DataW.trod_string Tryd.underlying9 f7
   have hw8 : ∀ x ∈ y8.1.weights Tryd.prog 23, x ≤ reachBytes := fun x hx => hW x (by simp only [DataW.weightsEach, List.mem_append]; simp [hx])
   have hw7 : c7.size ≤ 140737488351232 := by
    have := hW c7.data.toList.length (by simp only [DataW.weightsEach, List.mem_append]; simp [hx7, DataW.weights])
    unfold reachBytes at this
    simpa using this
   obtain ⟨T, m, q, K, e8, h8, hs8, hm1, hm2⟩ := texts_in hw8 f8
   injection e0 with e0
   injection e1 with e1
   injection e3 with e3
   injection e4 with e4
   injection e5 with e5
   injection e6 with e6
   injection e7 with e7
   injection e8 with e8
   subst e0 e1 e2 e3 e4 e5 e6 e7 e8
   exact ⟨⟨c0, c1, A, n, k, c3, c4, c5, c6, c7, T, m, q⟩, ⟨c0, c1, L, c3, c4, c5, c6, sL c7, K⟩, rfl, ⟨rfl, rfl, rfl, rfl, rfl, rfl, rfl, h2, h8, hk1, Nat.le_trans hk1 (Nat.le_trans hk2 (by unfold maxLen; omega)), hm1, fun x hx => (hQ x hx).1, hs8, hw7⟩, fun x hx => (hQ x hx).2⟩
end
theorem both_of_laid {W : World} (h : laidMetH Tryd.prog laidL W) : Tabs W ∧ CTabs W := ⟨tabs_of_laid h, ctabs_of_laid h⟩
theorem hasB_nat (n k : Nat) : hasB (n : Int) k = n.testBit k := by unfold hasB; rw [Int.toNat_natCast]
theorem all_bits {f : Int} (h : 0 ≤ f ∧ f < 4294967296) : (0 ≤ bits .or .u32 f 63 ∧ bits .or .u32 f 63 < 4294967296) ∧ ∀ k, k < 6 → hasB (bits .or .u32 f 63) k = true := by
 have e : bits .or .u32 f 63 = ((f.toNat ||| 63 : Nat) : Int) := u32_or f 63 h.1 h.2 (by omega) (by omega)
 have hl : f.toNat ||| 63 < 2 ^ 32 := Nat.or_lt_two_pow (by omega) (by omega)
 rw [e]
 refine ⟨⟨by omega, by omega⟩, fun k hk => ?_⟩
 rw [hasB_nat, Nat.testBit_or]
 have h63 : Nat.testBit 63 k = true := by
  have : k = 0 ∨ k = 1 ∨ k = 2 ∨ k = 3 ∨ k = 4 ∨ k = 5 := by omega
  rcases this with rfl | rfl | rfl | rfl | rfl | rfl <;> decide
 rw [h63, Bool.or_true]
theorem proj_most {f : Int} {S : Sc} (hS : rightSc S = true) (h : 0 ≤ f ∧ f < 4294967296) : projS (bits .or .u32 f 63) S = S := by
 obtain ⟨⟨h0, _⟩, hb⟩ := all_bits h
 exact proj_all hS (by rw [bit0_has h0]; exact hb 0 (by omega)) (by rw [bit1_has h0]; exact hb 1 (by omega)) fun k _ h6 => hb k h6
theorem few_bits {f o : Int} (h : 0 ≤ f ∧ f < 4294967296) (k : 0 ≤ o ∧ o < 4294967296) : (0 ≤ bits .or .u32 (bits .and .u32 (bits .and .u32 f o) 60) (bits .and .u32 f 3) ∧ bits .or .u32 (bits .and .u32 (bits .and .u32 f o) 60) (bits .and .u32 f 3) < 4294967296) ∧ Fewer f (bits .or .u32 (bits .and .u32 (bits .and .u32 f o) 60) (bits .and .u32 f 3)) := by
 have e1 : bits .and .u32 f o = ((f.toNat &&& o.toNat : Nat) : Int) := u32_and f o h.1 h.2 k.1 k.2
 have l1 : f.toNat &&& o.toNat ≤ f.toNat := Nat.and_le_left
 have e2 : bits .and .u32 (bits .and .u32 f o) 60 = ((f.toNat &&& o.toNat &&& 60 : Nat) : Int) := by
  rw [e1, u32_and _ 60 (by omega) (by omega) (by omega) (by omega), Int.toNat_natCast]; rfl
 have l2 : f.toNat &&& o.toNat &&& 60 ≤ 60 := Nat.and_le_right
 have e3 : bits .and .u32 f 3 = ((f.toNat &&& 3 : Nat) : Int) := u32_and f 3 h.1 h.2 (by omega) (by omega)
 have l3 : f.toNat &&& 3 ≤ 3 := Nat.and_le_right
 have e : bits .or .u32 (bits .and .u32 (bits .and .u32 f o) 60) (bits .and .u32 f 3) = (((f.toNat &&& o.toNat &&& 60) ||| (f.toNat &&& 3) : Nat) : Int) := by
  rw [e2, e3, u32_or _ _ (by omega) (by omega) (by omega) (by omega), Int.toNat_natCast, Int.toNat_natCast]
 have hl : (f.toNat &&& o.toNat &&& 60) ||| (f.toNat &&& 3) < 2 ^ 32 := Nat.or_lt_two_pow (by omega) (by omega)
 rw [e]
 have h0 : (0 : Int) ≤ (((f.toNat &&& o.toNat &&& 60) ||| (f.toNat &&& 3) : Nat) : Int) := by omega
 have lo : ∀ i, i < 2 → ((f.toNat &&& o.toNat &&& 60) ||| (f.toNat &&& 3)).testBit i = f.toNat.testBit i := fun i hi => by
  have : i = 0 ∨ i = 1 := by omega
  rw [Nat.testBit_or, Nat.testBit_and, Nat.testBit_and, Nat.testBit_and]
  rcases this with rfl | rfl
  · rw [show Nat.testBit 60 0 = false by decide, show Nat.testBit 3 0 = true by decide]; simp
  · rw [show Nat.testBit 60 1 = false by decide, show Nat.testBit 3 1 = true by decide]; simp
 refine ⟨⟨h0, by omega⟩, ?_, ?_, fun i hi => ?_⟩
 · rw [bit0_has h.1, bit0_has h0, hasB_nat, lo 0 (by omega)]; rfl
 · rw [bit1_has h.1, bit1_has h0, hasB_nat, lo 1 (by omega)]; rfl
 · rw [hasB_nat, Nat.testBit_or, Nat.testBit_and, Nat.testBit_and, Nat.testBit_and] at hi
   show f.toNat.testBit i = true
   cases hf : f.toNat.testBit i
   · rw [hf] at hi; simp at hi
   · rfl
theorem fit_nat {c f : Int} (h : 0 ≤ c) : 0 ≤ fitS c f := by
 rcases fit_is c f with ⟨e, _⟩ | ⟨a, _⟩ | ⟨a, _⟩
 · rw [e]; exact h
 · omega
 · omega
theorem cel_pen {f : Int} {c : Ce} : (celP f c).p = penP f c.p := by
 unfold celP
 split
 · rfl
 · exact narrow_p _
theorem pos_proj {f : Int} {S : Sc} (h : PosC S.cells) : PosC (projS f S).cells := by
 unfold projS
 split
 · intro c hc
   obtain ⟨d, hd, rfl⟩ := List.mem_map.1 hc
   have := h d hd
   rw [cel_pen]
   exact ⟨fit_nat this.1, fit_nat this.2⟩
 · intro c hc
   cases hc
theorem proj_size (f : Int) {S : Sc} (h : rightSc S = true) : (projS f S).c = S.c ∧ (projS f S).r = S.r ∧ (projS f S).x = S.x ∧ (projS f S).y = S.y := by
 rw [proj_yes h]; exact ⟨rfl, rfl, rfl, rfl⟩
open Go.ChangeShapes Go.WideShapes Go.ChangeAt Go.RowKit
theorem weights_at {H : Type} {P : Program} {ts : List TypeId} {ds : List (DataW H)} (h : (DataW.weightsEach P ts ds).all (· ≤ reachBytes) = true) {j : Nat} {t : TypeId} {d : DataW H} (ht : ts[j]? = some t) (hd : ds[j]? = some d) : ∀ x ∈ d.weights P t, x ≤ reachBytes :=
 fun x hx => by simpa using List.all_eq_true.1 h x (DataW.weights_mem_each ht hd x hx)
open Go.RowKit
theorem row_setR (z : Int) : ∀ (L : List Ce) (k : Nat), k < L.length → (rowV ceV L).set (k * 6) (.int .i32 z) = rowV ceV (L.set k ⟨z, (cAt L k).wd, (cAt L k).p⟩) := by
 intro L
 induction L with
 | nil => intro k hk; simp at hk
 | cons a L ih =>
  intro k hk
  cases k with
  | zero =>
   show (ceV a ++ rowV ceV L).set 0 _ = ceV ⟨z, a.wd, a.p⟩ ++ rowV ceV L
   rw [List.set_append_left _ _ (by rw [ceV_len]; omega)]
   rfl
  | succ k =>
   have := ih k (by simpa using hk)
   show (ceV a ++ rowV ceV L).set ((k + 1) * 6) _ = ceV a ++ rowV ceV (L.set k ⟨z, (cAt L k).wd, (cAt L k).p⟩)
   rw [List.set_append_right _ _ (by rw [ceV_len]; omega), ceV_len, ← this, show (k + 1) * 6 - 6 = k * 6 by omega]
theorem Rw.setR {t : TypeId} {w : World} {g : Nat} {L : List Ce} (h : Rw ceV t w g L) {k : Nat} (hk : k < L.length) (z : Int) :
  Rw ceV t (w.setCell ⟨g, k * 6, none⟩ (.int .i32 z)) g (L.set k ⟨z, (cAt L k).wd, (cAt L k).p⟩) := by
 obtain ⟨r, h⟩ := h
 refine ⟨r, ?_⟩
 rw [heap_setCell_same w g (k * 6) _ _ _ h, ← row_setR z L k hk]
 congr 2
 rw [List.setIfInBounds_toArray, List.set_append_left]
 rw [rowV_len ceV_len]
 omega
theorem sx_not_ce {w : World} {b g : Nat} {s : ScR} {L : List Ce} (h : Sx w b s) (k : Rw ceV 37 w g L) : b ≠ g := by
 rintro rfl
 obtain ⟨r, h⟩ := h
 obtain ⟨q, k⟩ := k
 rw [h] at k
 injection k with k
 injection k with _ k _
 exact absurd k (by decide)
theorem sx_not_tx {base : Nat} {w : World} {b n c : Nat} {A : Option Addr} {s : ScR} {L : List ByteArray} (h : Sx w b s) (k : Tx base w A n c L) : (Value.slice A n c).ownBlock ≠ some b := by
 intro hk
 obtain ⟨r, h⟩ := h
 rcases k.own.2 with ⟨h1, _⟩ | ⟨g2, cap, cur, hv, _, hg, _⟩
 · rw [h1] at hk; cases hk
 · rw [hv] at hk
   injection hk with hk
   have hk' : g2 = b := hk
   subst hk'
   rw [h] at hg
   injection hg with hg
   injection hg with _ hg _
   exact absurd hg (by decide)
structure Wk (w3 wr : World) (b : Nat) (s : ScR) (L : List Ce) (M : List ByteArray) : Prop where
 sx : Sx wr b s
 cx : Cx w3.heap.size wr s.A s.n s.k L
 tx : Tx w3.heap.size wr s.T s.m s.q M
 bel : Below w3.heap.size w3 wr
section
variable {w3 wr : World} {b : Nat} {s : ScR} {L : List Ce} {M : List ByteArray}
theorem Wk.cell (h : Wk w3 wr b s L M) {k : Nat} (hk : k < s.n) (z : Int) : ∃ g, s.A = some ⟨g, 0, none⟩ ∧ wr.cell? ⟨g, k * 6, none⟩ = some (.int .i32 (cAt L k).r) ∧ wr.frozen? ⟨g, k * 6, none⟩ = false ∧
  Wk w3 (wr.setCell ⟨g, k * 6, none⟩ (.int .i32 z)) b s (L.set k ⟨z, (cAt L k).wd, (cAt L k).p⟩) M := by
 obtain ⟨g, e, hb, hR⟩ := h.cx.own (by omega)
 have hl := h.cx.len
 have hlt : k < L.length := by omega
 have hg : wr.grownBy (wr.setCell ⟨g, k * 6, none⟩ (.int .i32 z)) (some g) := grownBy_set wr ⟨g, k * 6, none⟩ _
 refine ⟨g, e, hR.cell (rowV_get ceV_len (getElem?_cAt hlt) (j := 0) rfl), hR.free _, h.sx.grown hg (by have := sx_not_ce h.sx hR; intro e; injection e with e; exact this e.symm), ⟨by rw [List.length_set]; exact hl, h.cx.le, h.cx.max, fun _ => ⟨g, e, hb, hR.setR hlt z⟩⟩, h.tx.grown hg (fun q e2 e3 => ?_), h.bel.grown hg h.bel.size (fun q hq => by injection hq with hq; omega)⟩
 injection e3 with e3
 exact cx_not_tx h.cx h.tx (by omega) g e (by rw [e2, e3]; rfl)
theorem Wk.link (h : Wk w3 wr b s L M) {k : Nat} (hk : k < s.m) (u : ByteArray) : ∃ g, s.T = some ⟨g, 0, none⟩ ∧ wr.cell? ⟨g, k, none⟩ = some (.string (sAt M k)) ∧ wr.frozen? ⟨g, k, none⟩ = false ∧ b ≠ g ∧ Wk w3 (wr.setCell ⟨g, k, none⟩ (.string u)) b s L (M.set k u) := by
 obtain ⟨g, e, hb, hlt, hfr⟩ := h.tx.blk (by omega)
 have hl := h.tx.len
 have hc := h.tx.vs
 have hne : b ≠ g := fun e2 => sx_not_tx h.sx h.tx (by rw [e, e2]; rfl)
 have htx := h.tx
 rw [e] at hc htx
 have hstr := hc.str hk
 obtain ⟨h1, hg⟩ := htx.stored k u
 have ea : (⟨g, 0, none⟩ : Addr).add k = ⟨g, k, none⟩ := by unfold Addr.add; simp; omega
 rw [ea] at hstr
 refine ⟨g, e, hstr, hfr k, hne, h.sx.grown hg (by intro e2; injection e2 with e2; exact hne e2.symm), h.cx.grownP hg (fun hn q eq e2 => ?_), by rw [e]; exact h1, h.bel.grown hg h.bel.size (fun q hq => by injection hq with hq; omega)⟩
 injection e2 with e2
 exact cx_not_tx h.cx h.tx hn q eq (by rw [e, e2]; rfl)
theorem Wk.on (h : Wk w3 wr b s L M) {w' : World} (hb : Below wr.heap.size wr w') : Wk w3 w' b s L M := ⟨h.sx.below hb, h.cx.below hb, h.tx.below hb, h.bel.trans (hb.mono h.bel.size)⟩
end
end Go.Proofs.YtojchkhnalnncaaDoor
