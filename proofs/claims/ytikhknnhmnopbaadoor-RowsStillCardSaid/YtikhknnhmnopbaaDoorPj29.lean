/-
  Part 29 of what the laws of emul want: RowsBase, RowsCopy, RowsLaws, RowsTab, Weights, WireTake.
-/
import Derived.Deep.MidRow
import Derived.Test.YtikhknnhmnopbaaDoorPj01
import Derived.Test.YtikhknnhmnopbaaDoorPj02
import Derived.Test.YtikhknnhmnopbaaDoorPj16
import Derived.Test.YtikhknnhmnopbaaDoorPj22
import Derived.Test.YtikhknnhmnopbaaDoorPj23
import Derived.Test.YtikhknnhmnopbaaDoorPj27
import Derived.Test.YtikhknnhmnopbaaDoorPj28
namespace Go.Proofs.YtikhknnhmnopbaaDoor
open Go.RowKit
def BaEnd (cols rows fl : Int) (A : Sc) (w : World) (e : Ending) (w' : World) : Prop :=
 Below w.heap.size w w' ∧ ((∃ s, e = .returned (.tuple #[.agg (scrA s), .int .i64 0]) ∧ ScOwn w.heap.size w' s { (if fl < 4 then A else blS cols.toNat rows.toNat) with x := 0, y := 0, hid := false } ∧ sizeOk cols rows = true ∧ ¬ (7 < fl ∨ sizeOk cols rows = false) ∧ ¬ (fl < 4 ∧ (cols ≠ A.c ∨ rows ≠ A.r))) ∨
  (e = .returned (.tuple #[.agg (scrA scN), .int .i64 3]) ∧ (7 < fl ∨ sizeOk cols rows = false)) ∨
  (e = .returned (.tuple #[.agg (scrA scN), .int .i64 15]) ∧ ¬ (7 < fl ∨ sizeOk cols rows = false) ∧ (fl < 4 ∧ (cols ≠ A.c ∨ rows ≠ A.r))))
theorem Sx.set {w : World} {g : Nat} {s s' : ScR} {k : Nat} {v : Value} (h : Sx w g s) (e : (scF s).set k v = scF s') (hk : k < 9) : Sx (w.setCell ⟨g, k, none⟩ v) g s' := by
 obtain ⟨r, h⟩ := h
 refine ⟨r, ?_⟩
 rw [heap_setCell_same w g k _ _ _ h]
 have e1 : rowV scF [s] = scF s := by simp [rowV]
 have e2 : rowV scF [s'] = scF s' := by simp [rowV]
 have e3 : ((rowV scF [s] ++ r).toArray.setIfInBounds k v) = (rowV scF [s'] ++ r).toArray := by
  rw [List.setIfInBounds_toArray, e1, e2, List.set_append_left _ _ (by rw [scF_len]; exact hk), e]
 rw [e3]
theorem Tx.onto {α : Type} {f : α → List Value} {t : TypeId} {B g : Nat} {w w' : World} {T : Option Addr} {m q : Nat} {L : List ByteArray} {M : List α} (h : Tx B w T m q L) (hR : Rw f t w g M) (hn : t ≠ 9) (hg : w.grownBy w' (some g)) : Tx B w' T m q L := ⟨h.len, h.le, h.max, by
 refine World.ownsRow.kept h.own hg ?_
 rcases h.own.2 with ⟨h1, _⟩ | ⟨q, cap, cur, hv, hb, hgg, _⟩
 · left; rw [h1]; rfl
 · right
   rw [hv]
   intro e
   have e2 : q = g := by injection e
   subst e2
   obtain ⟨r, h3⟩ := hR
   rw [h3] at hgg
   injection hgg with e3
   injection e3 with _ e3
   exact absurd e3 hn⟩
theorem wp_store_S {w : World} {o : Oper} {a : Act} {K : Act → World → Prop} {Q : Exit → Act → World → Prop} (x y : Operand) (ho : o.op = .store 25 x y)
  (g : Nat) (s0 s : ScR) (hx : a.eval x = .pointer (some ⟨g, 0, none⟩)) (hy : a.eval y = .agg (scrA s)) (hR : Sx w g s0)
  (h : ∀ w', Sx w' g s → w.grownBy w' (some g) → K (a.put o.dst undef) w') : o.wp Tryd.prog a w K Q := by
 obtain ⟨e1, e2⟩ := Rw.stored scF_len hR (k := 0) (M := [s]) (by simp)
 have hone : rowV scF [s] = (scrA s).toList := by simp [rowV, scF, scrA]
 refine wp_store_mid 25 x y ho g 0 (scrA s) hx hy (by simpa [scrA] using Rw.there scF_len hR (k := 0) (m := 1) (by simp)) (by kernel_rfl) ?_ ?_
 · rw [Array.all_eq_true_iff_forall_mem]
   intro v hv
   exact one_sc [s] v (by rw [hone]; simpa using hv)
 · have e3 : w.setCells g 0 (scrA s).toList = w.setCells g (0 * 9) (rowV scF [s]) := by rw [hone]
   rw [e3]
   refine h _ ?_ e2
   have := e1
   simpa using this
theorem ScOwn.box {base : Nat} {w w' : World} {s s0 : ScR} {S : Sc} {g : Nat} (h : ScOwn base w s S) (hR : Sx w g s0) (hg : w.grownBy w' (some g)) : ScOwn base w' s S := by
 have hc : Cx base w' s.A s.n s.k S.cells := ⟨h.cx.len, h.cx.le, h.cx.max, fun hn => by
  obtain ⟨q, e, hb, hQ⟩ := h.cx.own hn
  exact ⟨q, e, hb, hQ.grown hg (fun e2 => by injection e2 with e2; exact Rw.apart hQ hR (by decide) e2.symm)⟩⟩
 have ht : Tx base w' s.T s.m s.q S.links := Tx.onto h.tx hR (by decide) hg
 exact ⟨{ h.sc with cells := hc.vs, links := ht.vs }, hc, ht, h.n, h.m⟩
theorem ScOwn.ttl {base : Nat} {w : World} {s : ScR} {S : Sc} (h : ScOwn base w s S) (t : ByteArray) (ht : t.size ≤ 140737488351232) : ScOwn base w { s with ttl := t } { S with title := sL t } :=
 ⟨{ h.sc with ttl := rfl, tz := ht }, h.cx, h.tx, h.n, h.m⟩
theorem and4 {fl : Int} (h : 0 ≤ fl ∧ fl ≤ 7) : bits .and .u64 fl 4 = if fl < 4 then 0 else 4 := by
 have : fl = 0 ∨ fl = 1 ∨ fl = 2 ∨ fl = 3 ∨ fl = 4 ∨ fl = 5 ∨ fl = 6 ∨ fl = 7 := by omega
 rcases this with rfl | rfl | rfl | rfl | rfl | rfl | rfl | rfl <;> decide
theorem and2 {fl : Int} (h : 0 ≤ fl ∧ fl ≤ 7) : bits .and .u64 fl 2 = if fl / 2 % 2 = 1 then 2 else 0 := by
 have : fl = 0 ∨ fl = 1 ∨ fl = 2 ∨ fl = 3 ∨ fl = 4 ∨ fl = 5 ∨ fl = 6 ∨ fl = 7 := by omega
 rcases this with rfl | rfl | rfl | rfl | rfl | rfl | rfl | rfl <;> decide
theorem and1 {fl : Int} (h : 0 ≤ fl ∧ fl ≤ 7) : bits .and .u64 fl 1 = if fl % 2 = 1 then 1 else 0 := by
 have : fl = 0 ∨ fl = 1 ∨ fl = 2 ∨ fl = 3 ∨ fl = 4 ∨ fl = 5 ∨ fl = 6 ∨ fl = 7 := by omega
 rcases this with rfl | rfl | rfl | rfl | rfl | rfl | rfl | rfl <;> decide
set_option maxHeartbeats 6400000 in
set_option maxRecDepth 100000 in
theorem base_any {sa : ScR} {A : Sc} {cols rows fl : Int} {c r : Nat} {BL : Rws} {w : World} (hT : Tabs w) (h : ScIn w sa A) (hA : FitS A c r BL) (hf : 0 ≤ fl ∧ fl ≤ 255) :
  Calls Tryd.prog 51 #[.agg (scrA sa), .int .i64 cols, .int .i64 rows, .int .u64 fl] w (BaEnd cols rows fl A w) := by
 have HI := Lib.hid (And.intro h hA)
 obtain ⟨b, hb⟩ : ∃ b, b = w.heap.size := ⟨_, rfl⟩
 obtain ⟨w1, hw1⟩ : ∃ w1, w1 = (w.alloc (.cells (scrA sa) 25)).alloc (.cells (scrA scN) 25) := ⟨_, rfl⟩
 have H1 := Lib.hid (show S2 w w1 b sa scN from by
  have h1 := Sx.new w sa
  have h2 := Sx.new (w.alloc (.cells (scrA sa) 25)) scN
  rw [World.size_alloc] at h2
  rw [hb, hw1]
  exact ⟨h1.below ((Below.refl _ _).alloc (Nat.le_refl _) _), h2, ((Below.refl _ _).alloc (Nat.le_refl _) _).alloc (by simp) _, Nat.le_refl _⟩)
 have HBZ := Lib.hid (show b + 2 = w1.heap.size from by rw [hb, hw1]; simp)
 have PB := Lib.hid (pBlank_any (hT.below H1.out.bel (Nat.le_refl _)) cols rows)
 clear h hA hT
 unfold scrA scN at hw1
 dsimp only at hw1
 unfold scrA
 go_enter Tryd.func51, Tryd.ntmps51
 go_upto_region 1 with fail
 rw [← hw1, ← hb]
 clear hw1 hb
 go_wp2_with fail
 refine PB.out.mono ?_
 rintro e w2 ⟨hb2, ⟨hz, s, rfl, hS⟩ | ⟨hz, rfl⟩⟩
 rotate_left
 · obtain ⟨b10, hb10⟩ : ∃ q, q = w2.heap.size := ⟨_, rfl⟩
   obtain ⟨w3, hw3⟩ : ∃ q, q = w2.alloc (.cells (scrA scN) 25) := ⟨_, rfl⟩
   have H3 := Lib.hid (show S2 w w3 b sa scN from by
    have hbb : Below w2.heap.size w2 w3 := by rw [hw3]; exact (Below.refl _ _).alloc (Nat.le_refl _) _
    exact (H1.out.on hb2).on hbb)
   have HZ := Lib.hid hz
   clear hb2 hz H1 PB
   unfold scrA scN at hw3 ⊢
   dsimp only at hw3 ⊢
   go_upto_region 2 with fail
   rw [← hw3, ← hb10]
   clear hw3 hb10
   by_cases h7 : 7 < fl
   all_goals
    go_wp2_with (refine wpList_store_V rfl 25 (.tmp 8) (.tmp 25) rfl scF_len one_sc info56 (b + 1) _ 0 scN _ rfl (by omega) rfl rfl 25 [scN] H3.out.b2 (by decide) ?_; intro w7 hR7 hg7)
    have HE := Lib.hid (show Below w.heap.size w w7 from H3.out.bel.grown hg7 H3.out.bel.size (fun k hk => by injection hk with hk; have := H3.out.lo; omega))
    obtain ⟨y0, y1, y2, y3, y4, y5, y6, y7, y8, _⟩ := sx_cells (s := scN) hR7
    exact bodyPost_ret (v := .tuple #[.agg (scrA scN), .int .i64 3]) (by simp [results, Tryd.results51, scrA, scN, go_sem, y0, y1, y2, y3, y4, y5, y6, y7, y8]) rfl ⟨HE.out, .inr (.inl ⟨rfl, .inr HZ.out⟩)⟩
 · obtain ⟨b10, hb10⟩ : ∃ q, q = w2.heap.size := ⟨_, rfl⟩
   obtain ⟨w3, hw3⟩ : ∃ q, q = w2.alloc (.cells (scrA s) 25) := ⟨_, rfl⟩
   have H3 := Lib.hid (show S2 w w3 b sa scN ∧ Sx w3 b10 s ∧ ScOwn w1.heap.size w3 s (blS cols.toNat rows.toNat) ∧ b + 2 ≤ b10 from by
    have hbb : Below w2.heap.size w2 w3 := by rw [hw3]; exact (Below.refl _ _).alloc (Nat.le_refl _) _
    exact ⟨(H1.out.on hb2).on hbb, by rw [hw3, hb10]; exact Sx.new w2 s, hS.below hbb, by rw [hb10]; exact (H1.out.on hb2).lt⟩)
   have HZ := Lib.hid hz
   have HSZ := Lib.hid (size_nat hz)
   clear hb2 hz hS H1 PB
   unfold scrA at hw3 ⊢
   go_upto_region 2 with fail
   rw [← hw3, ← hb10]
   clear hw3 hb10
   by_cases h7 : 7 < fl
   · go_wp2_with (refine wpList_store_V rfl 25 (.tmp 8) (.tmp 25) rfl scF_len one_sc info56 (b + 1) _ 0 scN _ rfl (by omega) rfl rfl 25 [scN] H3.out.1.b2 (by decide) ?_; intro w7 hR7 hg7)
     have HE := Lib.hid (show Below w.heap.size w w7 from H3.out.1.bel.grown hg7 H3.out.1.bel.size (fun k hk => by injection hk with hk; have := H3.out.1.lo; omega))
     obtain ⟨y0, y1, y2, y3, y4, y5, y6, y7, y8, _⟩ := sx_cells (s := scN) hR7
     exact bodyPost_ret (v := .tuple #[.agg (scrA scN), .int .i64 3]) (by simp [results, Tryd.results51, scrA, scN, go_sem, y0, y1, y2, y3, y4, y5, y6, y7, y8]) rfl ⟨HE.out, .inr (.inl ⟨rfl, .inl h7⟩)⟩
   have ha4 := and4 (fl := fl) (by omega)
   have HN3 := Lib.hid (show ¬ (7 < fl ∨ sizeOk cols rows = false) from by rw [HZ.out]; simp; omega)
   by_cases h4 : fl < 4
   rotate_left
   · rw [if_neg h4] at ha4
     obtain ⟨d0, d1, d2, d3, d4, d5, d6, d7, d8, _⟩ := sx_cells H3.out.2.1
     have H4 := Lib.hid (show ¬ fl < 4 from h4)
     clear h4
     go_wp2_with (refine wpList_store_V rfl 25 (.tmp 8) (.tmp 30) rfl scF_len one_sc info56 (b + 1) _ 0 s _ rfl (by omega) rfl rfl 25 [scN] H3.out.1.b2 (by decide) ?_; intro w7 hR7 hg7)
     have HE := Lib.hid (show Below w.heap.size w w7 ∧ ScOwn w.heap.size w7 s (blS cols.toNat rows.toNat) from
      ⟨H3.out.1.bel.grown hg7 H3.out.1.bel.size (fun k hk => by injection hk with hk; have := H3.out.1.lo; omega), (H3.out.2.2.1.grown hg7 (by have := HBZ.out; omega)).lower (by have := H3.out.1.lo; have := HBZ.out; omega)⟩)
     obtain ⟨y0, y1, y2, y3, y4, y5, y6, y7, y8, _⟩ := sx_cells (s := s) hR7
     exact bodyPost_ret (v := .tuple #[.agg (scrA s), .int .i64 0]) (by simp [results, Tryd.results51, scrA, go_sem, y0, y1, y2, y3, y4, y5, y6, y7, y8]) rfl ⟨HE.out.1, .inl ⟨s, rfl, by rw [if_neg (by have := H4.out; omega)]; exact HE.out.2, HZ.out, HN3.out, fun hh => by have := H4.out; have := hh.1; omega⟩⟩
   rw [if_pos h4] at ha4
   have HSC := Lib.hid (show s.c = cols ∧ s.r = rows ∧ sa.c = A.c ∧ sa.r = A.r from by
    obtain ⟨c', r', e1, e2, _⟩ := HSZ.out
    have h1 := H3.out.2.2.1.sc.c
    have h2 := H3.out.2.2.1.sc.r
    refine ⟨?_, ?_, HI.out.1.c.symm, HI.out.1.r.symm⟩
    · rw [← h1, e1]; rfl
    · rw [← h2, e2]; rfl)
   obtain ⟨a0, a1, a2, a3, a4, a5, a6, a7, a8, _⟩ := sx_cells H3.out.1.b1
   obtain ⟨d0, d1, d2, d3, d4, d5, d6, d7, d8, _⟩ := sx_cells H3.out.2.1
   have PK := Lib.hid (likeR_any sa s w3)
   obtain ⟨K, hK⟩ : ∃ K, decide (sa.c = s.c ∧ sa.r = s.r) = K := ⟨_, rfl⟩
   rw [hK] at PK
   have HK := Lib.hid (show (K = true ↔ (cols = A.c ∧ rows = A.r)) from by rw [← hK, HSC.out.1, HSC.out.2.1, HSC.out.2.2.1, HSC.out.2.2.2]; simp only [decide_eq_true_eq]; exact ⟨fun h => ⟨h.1.symm, h.2.symm⟩, fun h => ⟨h.1.symm, h.2.symm⟩⟩)
   clear hK
   unfold scrA at PK
   have H4 := Lib.hid h4
   go_wp2_with fail
   refine PK.out.mono ?_
   rintro e w4 ⟨rfl, hb4⟩
   have H5 := Lib.hid (show S2 w w4 b sa scN ∧ Sx w4 b10 s ∧ ScOwn w1.heap.size w4 s (blS cols.toNat rows.toNat) from ⟨H3.out.1.on hb4, H3.out.2.1.below hb4, H3.out.2.2.1.below hb4⟩)
   have HBB := Lib.hid H3.out.2.2.2
   clear hb4 PK a0 a1 a2 a3 a4 a5 a6 a7 a8 d0 d1 d2 d3 d4 d5 d6 d7 d8 H3 h4 ha4
   cases K
   · have hno : fl < 4 ∧ (cols ≠ A.c ∨ rows ≠ A.r) := ⟨H4.out, by
      by_cases e : cols = A.c
      · exact .inr fun e2 => by have := HK.out.2 ⟨e, e2⟩; cases this
      · exact .inl e⟩
     have HNO := Lib.hid hno
     clear hno
     go_wp2_with (refine wpList_store_V rfl 25 (.tmp 8) (.tmp 36) rfl scF_len one_sc info56 (b + 1) _ 0 scN _ rfl (by omega) rfl rfl 25 [scN] H5.out.1.b2 (by decide) ?_; intro w7 hR7 hg7)
     have HE := Lib.hid (show Below w.heap.size w w7 from H5.out.1.bel.grown hg7 H5.out.1.bel.size (fun k hk => by injection hk with hk; have := H5.out.1.lo; omega))
     obtain ⟨y0, y1, y2, y3, y4, y5, y6, y7, y8, _⟩ := sx_cells (s := scN) hR7
     exact bodyPost_ret (v := .tuple #[.agg (scrA scN), .int .i64 15]) (by simp [results, Tryd.results51, scrA, scN, go_sem, y0, y1, y2, y3, y4, y5, y6, y7, y8]) rfl ⟨HE.out, .inr (.inr ⟨rfl, HN3.out, HNO.out⟩)⟩
   · have hcc := HK.out.1 rfl
     have HCR := Lib.hid (show cols = (c : Int) ∧ rows = (r : Int) from ⟨by rw [hcc.1, HI.out.2.ec], by rw [hcc.2, HI.out.2.er]⟩)
     clear hcc HK
     rw [HCR.out.1, HCR.out.2, Int.toNat_natCast, Int.toNat_natCast] at H5
     have hsm := HI.out.2.gk.small
     have HLN := Lib.hid (show s.n = r * c ∧ sa.n = r * c ∧ 0 < r * c from by
      have h1 := HI.out.2.gk.c1
      have h2 := HI.out.2.gk.r1
      refine ⟨?_, ?_, Nat.mul_pos h2 h1⟩
      · rw [← H5.out.2.2.sc.cells.len]
        exact (bl_fit h1 HI.out.2.gk.c80 h2 HI.out.2.gk.r24).gk.box.flen
      · rw [← HI.out.1.cells.len, HI.out.2.el]
        exact HI.out.2.gk.box.flen)
     obtain ⟨g, hA, hg, hR⟩ := H5.out.2.2.cx.own (by have := HLN.out; omega)
     have HG := Lib.hid (show s.A = some ⟨g, 0, none⟩ ∧ w1.heap.size ≤ g ∧ Rw ceV 51 w4 g (blS c r).cells ∧ g ≠ b10 from ⟨hA, hg, hR, Rw.apart hR H5.out.2.1 (by decide)⟩)
     clear hA hg hR
     obtain ⟨_, _, a2, _, _, _, _, _, _, _⟩ := sx_cells H5.out.1.b1
     obtain ⟨_, _, d2, _, _, _, _, _, _, _⟩ := sx_cells H5.out.2.1
     rw [HG.out.1] at d2
     have HFA := Lib.hid (HI.out.2.gk.box.flen)
     go_upto_region 9 with (refine wpList_copy_V rfl (.tmp 38) (.tmp 40) 22 22 rfl 51 ceV_len one_ce Tryd.underlying22 infoCe g 0 s.n s.k (some ⟨g, 0, none⟩) sa.A sa.n sa.k rfl rfl 51 (blS c r).cells A.cells HG.out.2.2.1 (by rw [HI.out.1.cells.len, HLN.out.1, HLN.out.2.1]; exact (Nat.min_self _).symm) (by rw [HI.out.1.cells.len]; exact HI.out.1.cells.below H5.out.1.bel) (fun _ => rfl) (by rw [HI.out.1.cells.len, H5.out.2.2.sc.cells.len, HLN.out.1, HLN.out.2.1]; omega) ?_; intro w5 hR5 hg5)
     have H6 := Lib.hid (show S2 w w5 b sa scN ∧ Sx w5 b10 s ∧ ScOwn w1.heap.size w5 s { blS c r with cells := A.cells } from by
      have hne : g ≠ b10 := HG.out.2.2.2
      have hgw := HG.out.2.1
      have hbz := HBZ.out
      have hlb := HBB.out
      have hl5 := H5.out.1.lt
      have hRA : Rw ceV 51 w5 g A.cells := by
       have e : (blS c r).cells.take 0 ++ (A.cells ++ (blS c r).cells.drop (0 + A.cells.length)) = A.cells := by
        rw [List.drop_of_length_le (by rw [HI.out.1.cells.len, H5.out.2.2.sc.cells.len, HLN.out.1, HLN.out.2.1]; omega)]
        simp
       rw [e] at hR5
       exact hR5
      have hcx : Cx w1.heap.size w5 s.A s.n s.k A.cells := ⟨by rw [HI.out.1.cells.len, HLN.out.1, HLN.out.2.1], H5.out.2.2.cx.le, H5.out.2.2.cx.max, fun _ => ⟨g, HG.out.1, hgw, hRA⟩⟩
      have htx : Tx w1.heap.size w5 s.T s.m s.q [] := Tx.onto H5.out.2.2.tx HG.out.2.2.1 (by decide) hg5
      refine ⟨⟨H5.out.1.b1.grown hg5 (by intro e; injection e with e; omega), H5.out.1.b2.grown hg5 (by intro e; injection e with e; omega), H5.out.1.bel.grown hg5 H5.out.1.bel.size (fun k hk => by injection hk with hk; have := H5.out.1.bel.size; have := H5.out.1.lo; omega), H5.out.1.lo⟩, H5.out.2.1.grown hg5 (by intro e; injection e with e; exact hne e), ?_⟩
      exact ⟨{ H5.out.2.2.sc with cells := hcx.vs, links := htx.vs, lk := HI.out.1.lk }, hcx, htx, H5.out.2.2.n, H5.out.2.2.m⟩)
     clear hR5 hg5 a2 d2
     have hlb := HBB.out
     obtain ⟨_, _, _, _, _, _, _, a7, _, _⟩ := sx_cells H6.out.1.b1
     obtain ⟨_, _, _, _, _, _, _, d7, _, _⟩ := sx_cells H6.out.2.1
     have hfz := H6.out.2.1.free 7
     obtain ⟨w6, hw6⟩ : ∃ q, q = w5.setCell ⟨b10, 7, none⟩ (.string sa.ttl) := ⟨_, rfl⟩
     have H7 := Lib.hid (show S2 w w6 b sa scN ∧ Sx w6 b10 { s with ttl := sa.ttl } ∧ ScOwn w1.heap.size w6 { s with ttl := sa.ttl } { A with x := 0, y := 0, hid := false } from by
      have hg6 : w5.grownBy w6 (some b10) := by rw [hw6]; exact grownBy_set w5 ⟨b10, 7, none⟩ _
      have hlo := H6.out.1.lo
      have hsz := H6.out.1.bel.size
      have hx : Sx w6 b10 { s with ttl := sa.ttl } := by rw [hw6]; exact Sx.set H6.out.2.1 rfl (by omega)
      refine ⟨⟨H6.out.1.b1.grown hg6 (by intro e; injection e with e; omega), H6.out.1.b2.grown hg6 (by intro e; injection e with e; omega), H6.out.1.bel.grown hg6 hsz (fun k hk => by injection hk with hk; omega), hlo⟩, hx, ?_⟩
      have hcx : Cx w1.heap.size w6 s.A s.n s.k A.cells := ⟨H6.out.2.2.cx.len, H6.out.2.2.cx.le, H6.out.2.2.cx.max, fun hn => by
       obtain ⟨q, e, hb, hQ⟩ := H6.out.2.2.cx.own hn
       exact ⟨q, e, hb, hQ.grown hg6 (fun e2 => by injection e2 with e2; exact Rw.apart hQ H6.out.2.1 (by decide) e2.symm)⟩⟩
      have htx : Tx w1.heap.size w6 s.T s.m s.q [] := Tx.onto H6.out.2.2.tx H6.out.2.1 (by decide) hg6
      have hl := HI.out.2.lk
      have hmo := HI.out.2.mo
      have hbs := H6.out.2.2.sc
      refine ⟨⟨?_, ?_, hbs.x, hbs.y, hbs.hid, ?_, HI.out.1.ttl, hcx.vs, ?_, hbs.nk, hbs.n9, hbs.mq, HI.out.1.lk, ?_, HI.out.1.tz⟩, hcx, ?_, H6.out.2.2.n, H6.out.2.2.m⟩
      · show A.c = s.c
        rw [HSC.out.1, HCR.out.1, HI.out.2.ec]
      · show A.r = s.r
        rw [HSC.out.2.1, HCR.out.2, HI.out.2.er]
      · show A.mouse = s.mouse
        rw [hmo]
        exact hbs.mouse
      · show Vs stV w6 s.T s.m A.links
        rw [hl]
        exact htx.vs
      · show ∀ u ∈ A.links, _
        rw [hl]
        intro u hu
        cases hu
      · show Tx _ w6 s.T s.m s.q A.links
        rw [hl]
        exact htx)
     go_upto_region 10 with fail
     rw [← hw6]
     clear hw6 a7 d7 hfz
     obtain ⟨d0, d1, d2, d3, d4, d5, d6, d7, d8, _⟩ := sx_cells H7.out.2.1
     try dsimp only at d0 d1 d2 d3 d4 d5 d6 d7 d8
     go_wp2_with (refine wpList_store_V rfl 25 (.tmp 8) (.tmp 45) rfl scF_len one_sc info56 (b + 1) _ 0 { s with ttl := sa.ttl } _ rfl (by omega) rfl rfl 25 [scN] H7.out.1.b2 (by decide) ?_; intro w7 hR7 hg7)
     have HE := Lib.hid (show Below w.heap.size w w7 ∧ ScOwn w.heap.size w7 { s with ttl := sa.ttl } { A with x := 0, y := 0, hid := false } from
      ⟨H7.out.1.bel.grown hg7 H7.out.1.bel.size (fun k hk => by injection hk with hk; have := H7.out.1.lo; omega), (H7.out.2.2.grown hg7 (by have := HBZ.out; omega)).lower (by have := H7.out.1.lo; have := HBZ.out; omega)⟩)
     obtain ⟨y0, y1, y2, y3, y4, y5, y6, y7, y8, _⟩ := sx_cells (s := { s with ttl := sa.ttl }) hR7
     try dsimp only at y0 y1 y2 y3 y4 y5 y6 y7 y8
     have hyes : ¬ (fl < 4 ∧ (cols ≠ A.c ∨ rows ≠ A.r)) := fun hh => by
      have h1 := HI.out.2.ec
      have h2 := HI.out.2.er
      have h3 := HCR.out
      rcases hh.2 with e | e
      · exact e (by rw [h3.1, h1])
      · exact e (by rw [h3.2, h2])
     exact bodyPost_ret (v := .tuple #[.agg (scrA { s with ttl := sa.ttl }), .int .i64 0]) (by simp [results, Tryd.results51, scrA, go_sem, y0, y1, y2, y3, y4, y5, y6, y7, y8]) rfl ⟨HE.out.1, .inl ⟨_, rfl, by rw [if_pos (show fl < 4 from by have := H4.out; omega)]; exact HE.out.2, HZ.out, HN3.out, hyes⟩⟩
open Go.RowKit
theorem cx_of {base : Nat} {w : World} {A : Option Addr} {n c : Nat} {L : List Ce} (hl : L.length = n) (h : w.ownsRow base 51 6 (.slice A n c) n (rowV ceV L)) : Cx base w A n c L := by
 obtain ⟨A', c', e, h1, h2⟩ := own_shape h
 injection e with e1 e2 e3
 subst e1 e3
 refine ⟨hl, h1, h2, fun hn => ?_⟩
 obtain ⟨g, e, hb, _, _, hR⟩ := own_some hn h
 exact ⟨g, e, hb, hR⟩
theorem tx_of {base : Nat} {w : World} {A : Option Addr} {n c : Nat} {L : List ByteArray} (_ : L.length = n) (h : w.ownsRow base 9 1 (.slice A n c) n (rowV stV L)) : Tx base w A n c L := Tx.mk' h
theorem Cx.grown' {base : Nat} {w w' : World} {A : Option Addr} {n c : Nat} {L : List Ce} (h : Cx base w A n c L) {g : Nat} (hg : w.grownBy w' (some g)) (hl : g < base) : Cx base w' A n c L :=
 ⟨h.len, h.le, h.max, fun hn => by obtain ⟨q, e, hb, hR⟩ := h.own hn; exact ⟨q, e, hb, hR.grown hg (fun e2 => by injection e2 with e2; omega)⟩⟩
theorem Tx.grown' {base : Nat} {w w' : World} {A : Option Addr} {n c : Nat} {L : List ByteArray} (h : Tx base w A n c L) {g : Nat} (hg : w.grownBy w' (some g)) (hl : g < base) : Tx base w' A n c L := by
 by_cases hn : 0 < n
 · obtain ⟨q, e, hb, _⟩ := h.blk hn
   exact h.grown hg (fun q2 e2 e3 => by rw [e] at e2; injection e2 with e2; injection e2 with e2; injection e3 with e3; omega)
 · exact h.grown hg (fun q2 e2 e3 => by
    rcases h.own.2 with ⟨h1, _⟩ | ⟨q, cap, cur, hv, hb, _⟩
    · injection h1 with h1; rw [h1] at e2; cases e2
    · injection hv with hv; rw [hv] at e2; injection e2 with e2; injection e2 with e2; injection e3 with e3; omega)
set_option maxHeartbeats 6400000 in
set_option maxRecDepth 100000 in
theorem refCopyO_any {w : World} {s : ScR} {S : Sc} (h : ScIn w s S) (hn : s.n ≤ 60000) (hm : s.m ≤ 60000) :
  Calls Tryd.prog 8 #[.agg (scrA s)] w fun e w' => Below w.heap.size w w' ∧ ∃ s' : ScR, e = .returned (.agg (scrA s')) ∧ ScIn w' s' S ∧ Cx w.heap.size w' s'.A s'.n s'.k S.cells ∧ Tx w.heap.size w' s'.T s'.m s'.q S.links ∧ s'.n = s.n ∧ s'.m = s.m := by
 obtain ⟨b, hb⟩ : ∃ b, b = w.heap.size := ⟨_, rfl⟩
 have HB := Lib.hid hb
 have H := Lib.hid h
 obtain ⟨w2, hw2⟩ : ∃ w2, w2 = ((w.alloc (.cells #[.int .i64 s.c, .int .i64 s.r, .slice s.A s.n s.k, .int .i64 s.x, .int .i64 s.y, .bool s.hid, .int .u8 s.mouse, .string s.ttl, .slice s.T s.m s.q] 25)).alloc (.cells #[.int .i64 0, .int .i64 0, .slice none 0 0, .int .i64 0, .int .i64 0, .bool false, .int .u8 0, .string ⟨#[]⟩, .slice none 0 0] 25)) := ⟨_, rfl⟩
 have H0 := Lib.hid (show Sx w2 b s ∧ Sx w2 (b + 1) scN ∧ Below w.heap.size w w2 ∧ w2.heap.size = b + 2 from by
  have h1 := Sx.new w s
  have h2 := Sx.new (w.alloc (.cells (scrA s) 25)) scN
  rw [World.size_alloc] at h2
  rw [hb, hw2]
  exact ⟨h1.below ((Below.refl _ _).alloc (Nat.le_refl _) _), h2, ((Below.refl _ _).alloc (Nat.le_refl _) _).alloc (by simp) _, by simp⟩)
 clear h
 unfold scrA
 go_enter Tryd.func8, Tryd.ntmps8
 go_upto_region 1 with fail
 rw [← hw2, ← hb]
 clear hw2 hb
 have HI := Lib.hid ((H.out.cells.below H0.out.2.2.1).below ((Below.refl _ _).alloc (Nat.le_refl _) (.cells #[] 51)))
 obtain ⟨_, _, p2, _⟩ := sx_cells H0.out.1
 have f2 := H0.out.1.free 2
 go_upto_region 2 with (at_builtin; refine wpList_app_V _ rfl _ _ 22 rfl ceV_len one_ce w2.heap.size 51 _ 20 (by omega) Tryd.underlying22 infoCe3 rfl (by omega) (.slice (some ⟨w2.heap.size, 0, none⟩) 0 0) 0 [] rfl (World.ownsRow_lit w2 #[] 0 (Nat.le_refl _) (by unfold maxLen; omega) rfl) s.A s.n s.k s.n (by omega) S.cells rfl HI.out (by omega) (by simp) ?_; intro P3 cp3 w3 hown hg3; simp only [List.nil_append] at hown; have H3 := Lib.hid (show Sx w3 b s ∧ Sx w3 (b + 1) scN ∧ Below w2.heap.size w2 w3 ∧ Cx w2.heap.size w3 P3 s.n cp3 S.cells from by
  have hb3 : Below w2.heap.size w2 w3 := ((Below.refl _ _).alloc (Nat.le_refl _) _).grown hg3 (by simp) (fun k hk => by have : w2.heap.size = k := (by simpa [Value.ownBlock] using hk); omega)
  exact ⟨H0.out.1.below hb3, H0.out.2.1.below hb3, hb3, cx_of H.out.cells.len hown⟩); clear hown hg3 p2 f2; obtain ⟨_, _, p2, _⟩ := sx_cells H3.out.1; have f2 := H3.out.1.free 2)
 obtain ⟨w4, hw4⟩ : ∃ w4, w4 = w3.setCell ⟨b, 2, none⟩ (.slice P3 s.n cp3) := ⟨_, rfl⟩
 rw [← hw4]
 have H4 := Lib.hid (show Sx w4 b { s with A := P3, n := s.n, k := cp3 } ∧ Sx w4 (b + 1) scN ∧ Below w.heap.size w w4 ∧ Cx (b + 2) w4 P3 s.n cp3 S.cells ∧ b + 2 ≤ w4.heap.size from by
  obtain ⟨k1, k2, k3, k4⟩ := H3.out
  have hs2 := H0.out.2.2.2
  have hbw := HB.out
  have hz3 := k3.size
  have hg4 : w3.grownBy w4 (some b) := by rw [hw4]; exact grownBy_set w3 ⟨b, 2, none⟩ _
  have hz4 := hg4.size
  have hbl : Below w.heap.size w w4 := (H0.out.2.2.1.trans (k3.mono (by omega))).grown hg4 (by omega) (fun k hk => by injection hk with hk; omega)
  exact ⟨by rw [hw4]; exact sx_setA k1 _ _ _, k2.grown hg4 (fun e => by injection e with e; omega), hbl, (k4.lower (B := b + 2) (by omega)).grown' hg4 (by omega), by omega⟩)
 clear H3 hw4 p2 f2 HI
 have HI := Lib.hid ((H.out.links.below H4.out.2.2.1).below ((Below.refl _ _).alloc (Nat.le_refl _) (.cells #[] 9)))
 obtain ⟨_, _, _, _, _, _, _, _, p8, _⟩ := sx_cells H4.out.1
 have f8 := H4.out.1.free 8
 simp only at p8
 go_upto_region 3 with (at_builtin; refine wpList_app_V _ rfl _ _ 23 rfl stV_len one_st w4.heap.size 9 _ 16 (by omega) Tryd.underlying23 infoTx rfl (by omega) (.slice (some ⟨w4.heap.size, 0, none⟩) 0 0) 0 [] rfl (World.ownsRow_lit w4 #[] 0 (Nat.le_refl _) (by unfold maxLen; omega) rfl) s.T s.m s.q s.m (by omega) S.links rfl HI.out (by omega) (by simp) ?_; intro P5 cp5 w5 hown hg5; simp only [List.nil_append] at hown; have H5 := Lib.hid (show Sx w5 b { s with A := P3, n := s.n, k := cp3 } ∧ Sx w5 (b + 1) scN ∧ Below w4.heap.size w4 w5 ∧ Tx w4.heap.size w5 P5 s.m cp5 S.links from by
  have hb5 : Below w4.heap.size w4 w5 := ((Below.refl _ _).alloc (Nat.le_refl _) _).grown hg5 (by simp) (fun k hk => by have : w4.heap.size = k := (by simpa [Value.ownBlock] using hk); omega)
  exact ⟨H4.out.1.below hb5, H4.out.2.1.below hb5, hb5, tx_of H.out.links.len hown⟩); clear hown hg5 p8 f8; obtain ⟨_, _, _, _, _, _, _, _, p8, _⟩ := sx_cells H5.out.1; have f8 := H5.out.1.free 8; simp only at p8)
 obtain ⟨w6, hw6⟩ : ∃ w6, w6 = w5.setCell ⟨b, 8, none⟩ (.slice P5 s.m cp5) := ⟨_, rfl⟩
 rw [← hw6]
 have H6 := Lib.hid (show Sx w6 b { s with A := P3, n := s.n, k := cp3, T := P5, m := s.m, q := cp5 } ∧ Sx w6 (b + 1) scN ∧ Below w.heap.size w w6 ∧ Cx (b + 2) w6 P3 s.n cp3 S.cells ∧ Tx (b + 2) w6 P5 s.m cp5 S.links from by
  obtain ⟨k1, k2, k3, k4⟩ := H5.out
  have hs4 := H4.out.2.2.2.2
  have hbw := HB.out
  have hz5 := k3.size
  have hg6 : w5.grownBy w6 (some b) := by rw [hw6]; exact grownBy_set w5 ⟨b, 8, none⟩ _
  have hz6 := hg6.size
  have hbl : Below w.heap.size w w6 := (H4.out.2.2.1.trans (k3.mono (by omega))).grown hg6 (by omega) (fun k hk => by injection hk with hk; omega)
  exact ⟨by rw [hw6]; exact sx_setT k1 _ _ _, k2.grown hg6 (fun e => by injection e with e; omega), hbl, (H4.out.2.2.2.1.below k3).grown' hg6 (by omega), (k4.lower (B := b + 2) (by omega)).grown' hg6 (by omega)⟩)
 clear H5 hw6 p8 f8 HI
 obtain ⟨p0, p1, p2, p3, p4, p5, p6, p7, p8, _⟩ := sx_cells H6.out.1
 simp only at p0 p1 p2 p3 p4 p5 p6 p7 p8
 go_wp2_with (refine wpList_store_V rfl 25 (.tmp 2) (.tmp 13) rfl scF_len one_sc info56 (b + 1) _ 0 { s with A := P3, n := s.n, k := cp3, T := P5, m := s.m, q := cp5 } _ rfl (by omega) rfl rfl 25 [scN] H6.out.2.1 (by decide) ?_; intro w7 hR7 hg7)
 have H7 := Lib.hid (show (ScIn w7 { s with A := P3, n := s.n, k := cp3, T := P5, m := s.m, q := cp5 } S ∧ Cx w.heap.size w7 P3 s.n cp3 S.cells ∧ Tx w.heap.size w7 P5 s.m cp5 S.links) ∧ Below w.heap.size w w7 from by
  obtain ⟨k1, k2, k3, k4, k5⟩ := H6.out
  have hbw := HB.out
  have c7 := k4.grown' hg7 (by omega)
  have t7 := k5.grown' hg7 (by omega)
  exact ⟨⟨{ H.out with cells := c7.vs, links := t7.vs, nk := c7.le, mq := t7.le }, c7.lower (by omega), t7.lower (by omega)⟩, k3.grown hg7 k3.size (fun k hk => by injection hk with hk; omega)⟩)
 obtain ⟨y0, y1, y2, y3, y4, y5, y6, y7, y8, _⟩ := sx_cells (s := { s with A := P3, n := s.n, k := cp3, T := P5, m := s.m, q := cp5 }) hR7
 simp only at y0 y1 y2 y3 y4 y5 y6 y7 y8
 exact bodyPost_ret (v := .agg (scrA { s with A := P3, n := s.n, k := cp3, T := P5, m := s.m, q := cp5 })) (by simp [results, Tryd.results8, scrA, go_sem, y0, y1, y2, y3, y4, y5, y6, y7, y8]) rfl ⟨H7.out.2, _, rfl, H7.out.1.1, H7.out.1.2.1, H7.out.1.2.2, rfl, rfl⟩
open Go.RowKit Go.WideShapes
structure Cpy (w : World) (s5 : ScR) (S : Sc) (s : ScR) : Prop where
 sc : ScIn w s5 S
 n : s5.n = s.n
 m : s5.m = s.m
 cx : ∃ B, Cx B w s5.A s5.n s5.k S.cells
 tx : ∃ B, Tx B w s5.T s5.m s5.q S.links
theorem Cpy.below {w w' : World} {s5 s : ScR} {S : Sc} (h : Cpy w s5 S s) (hb : Below w.heap.size w w') : Cpy w' s5 S s := ⟨h.sc.below hb, h.n, h.m, h.cx.imp fun _ h => h.below hb, h.tx.imp fun _ h => h.below hb⟩
theorem Cpy.store {w w' : World} {s5 s s0 : ScR} {S : Sc} {g : Nat} (h : Cpy w s5 S s) (hR : Sx w g s0) (hg : w.grownBy w' (some g)) : Cpy w' s5 S s := by
 obtain ⟨B, hc⟩ := h.cx
 obtain ⟨D, ht⟩ := h.tx
 have hc' : Cx B w' s5.A s5.n s5.k S.cells := ⟨hc.len, hc.le, hc.max, fun hn => by
  obtain ⟨q, e, hb, hQ⟩ := hc.own hn
  exact ⟨q, e, hb, hQ.grown hg (fun e2 => by injection e2 with e2; exact Rw.apart hQ hR (by decide) e2.symm)⟩⟩
 have ht' : Tx D w' s5.T s5.m s5.q S.links := ⟨ht.len, ht.le, ht.max, by
  refine World.ownsRow.kept ht.own hg ?_
  rcases ht.own.2 with ⟨h1, _⟩ | ⟨q, cap, cur, hv, hb, hgg, _⟩
  · left; rw [h1]; rfl
  · right
    rw [hv]
    intro e
    have e2 : q = g := by injection e
    subst e2
    obtain ⟨r, h3⟩ := hR
    rw [h3] at hgg
    injection hgg with e3
    injection e3 with _ e3
    exact absurd e3 (by decide)⟩
 exact ⟨{ h.sc with cells := hc'.vs, links := ht'.vs }, h.n, h.m, ⟨B, hc'⟩, ⟨D, ht'⟩⟩
theorem cpy_any {w : World} {s : ScR} {S : Sc} (h : ScIn w s S) (hn : s.n ≤ 60000) (hm : s.m ≤ 60000) :
  Calls Tryd.prog 8 #[.agg (scrA s)] w fun e w' => Below w.heap.size w w' ∧ ∃ s' : ScR, e = .returned (.agg (scrA s')) ∧ Cpy w' s' S s := by
 refine (refCopyO_any h hn hm).mono ?_
 rintro e w' ⟨hb, s', rfl, h1, h2, h3, h4, h5⟩
 exact ⟨hb, s', rfl, h1, h4, h5, ⟨_, h2⟩, ⟨_, h3⟩⟩
structure Nw (base : Nat) (w : World) (g : Nat) (s : ScR) : Prop where
 sx : Sx w g s
 lo : base ≤ g
theorem Nw.below {base : Nat} {w w' : World} {g : Nat} {s : ScR} (h : Nw base w g s) (hb : Below w.heap.size w w') : Nw base w' g s := ⟨h.sx.below hb, h.lo⟩
set_option maxRecDepth 100000 in
theorem open_boolh {H : Type} {enc : TypeId × Value → H} {W : World} {base : Nat} {v : Value} {d : DataW H} {p : List MemPlace} (hv : Value.okWide Tryd.prog W .any base 4 v) (h : DataW.Trod enc Tryd.prog W 0 (fun _ => true) true 4 v d p) :
  ∃ b : Bool, v = .bool b ∧ True := by
 obtain ⟨b, rfl⟩ := okWide_bool Tryd.underlying4 hv
 exact ⟨b, rfl, trivial⟩
structure Four (w0 w : World) (b bx bv : Nat) (sa sb s5 s6 : ScR) (SA SB : Sc) : Prop where
 bel : Below w0.heap.size w0 w
 a : Sx w b sa
 b' : Sx w (b + 1) sb
 x : Sx w bx s5
 y : Sx w bv s6
 ca : Cpy w s5 SA sa
 cb : Cpy w s6 SB sb
theorem Four.on {w0 w w' : World} {b bx bv : Nat} {sa sb s5 s6 : ScR} {SA SB : Sc} (h : Four w0 w b bx bv sa sb s5 s6 SA SB) (hb : Below w.heap.size w w') : Four w0 w' b bx bv sa sb s5 s6 SA SB :=
 ⟨h.bel.trans (hb.mono h.bel.size), h.a.below hb, h.b'.below hb, h.x.below hb, h.y.below hb, h.ca.below hb, h.cb.below hb⟩
theorem By.small {base : Nat} {w : World} {A : Option Addr} {n c : Nat} {zs : List Int} (h : By base w A n c zs) : n ≤ 9223372036854775807 := by
 have h1 := h.le
 have h2 := h.max
 unfold maxLen at h2
 omega
open Go.ChangeShapes Go.WideShapes Go.ChangeAt Go.RowKit
abbrev laidL3 : List (String × DataW Unit) := [("unicode/utf8.acceptRanges", Rows.laid_unicode_utf8_acceptRanges), ("spyglass/utf.stretches", Rows.laid_spyglass_utf_stretches), ("unicode/utf8.first", Rows.laid_unicode_utf8_first)]
theorem tabs_of_laid3 {W : World} (h : laidMetH Tryd.prog laidL3 W) : Tabs W := by
 rw [MakeChecks.laidMetH_plain _ _ _ (by kernel_rfl)] at h
 have h3 : Lib.VarReads Tryd.prog W "unicode/utf8.first" Lib.firstData := firstEq ▸ Lib.laidMet.reads h (by simp [laidL3])
 have h4 : Lib.VarReads Tryd.prog W "unicode/utf8.acceptRanges" Lib.acceptData := acceptEq ▸ Lib.laidMet.reads h (by simp [laidL3])
 have h5 : Lib.VarReads Tryd.prog W "spyglass/utf.stretches" Rows.laid_spyglass_utf_stretches := Lib.laidMet.reads h (by simp [laidL3])
 refine ⟨utf8Tabs_of_readsT u8t u8x h3 h4, ?_⟩
 obtain ⟨g, t, cs, fuel, p, hg, hty, hvar, hd⟩ := h5
 obtain rfl := Option.some.inj ((show Tryd.prog.globalNamed "spyglass/utf.stretches" = some 0 by kernel_rfl).symm.trans hg)
 obtain rfl := Option.some.inj ((show (Tryd.prog.globals[0]?).map (·.type) = some 149 by kernel_rfl).symm.trans hty)
 have hcs : cs.toList = stCells := stretch_cells hd
 unfold World.var? at hvar
 rw [hg] at hvar
 simp only [Option.bind_some] at hvar
 split at hvar
 · rename_i c t' fr hc
   cases hvar
   exact ⟨t', fr, by rw [hc, ← hcs]⟩
 · cases hvar
theorem start_shaped3 (os : Os) : (World.laidAll Tryd.prog os laidL3).Shaped Tryd.prog := World.shaped_of_ZipB (by kernel_rfl) (by kernel_rfl)
theorem start_met3 (os : Os) (args : Array Value) : laidMetH Tryd.prog laidL3 ((World.laidAll Tryd.prog os laidL3).forCall (fun _ _ => 0) ⟨#[], args, []⟩).memory := by
 rw [MakeChecks.laidMetH_plain _ _ _ (by kernel_rfl)]; exact laidMet_laidAll _ (by kernel_rfl) (by kernel_rfl)
open Go.ChangeShapes Go.WideShapes Go.ChangeAt Go.RowKit
theorem weights_at {H : Type} {P : Program} {ts : List TypeId} {ds : List (DataW H)} (h : (DataW.weightsEach P ts ds).all (· ≤ reachBytes) = true) {j : Nat} {t : TypeId} {d : DataW H} (ht : ts[j]? = some t) (hd : ds[j]? = some d) : ∀ x ∈ d.weights P t, x ≤ reachBytes :=
 fun x hx => by simpa using List.all_eq_true.1 h x (DataW.weights_mem_each ht hd x hx)
open Go.RowKit
def RdNewPost (zs : List Int) (w : World) (e : Ending) (w' : World) : Prop :=
 ∃ r A n c, e = .returned (.pointer (some ⟨r, 0, none⟩)) ∧ Rd 96 w.heap.size w' r A n c zs 0 ∧ Below w.heap.size w w'
theorem new_any {w : World} {A : Option Addr} {n c : Nat} {zs : List Int} (h : Sb w A n zs) (hn : n ≤ 140737488355328) :
  Calls Tryd.prog 30 #[.slice A n c] w (RdNewPost zs w) := by
 go_enter Tryd.func30, Tryd.ntmps30
 go_wp2_with fail
 refine (clone_any h hn).mono ?_
 rintro e w1 ⟨v, rfl, A1, n1, c1, rfl, hm⟩
 have HM := Lib.hid hm
 clear hm
 go_wp2
 have hm := HM.out
 have hs := hm.below.size
 have HP : RdNewPost zs w (.returned (.pointer (some ⟨w1.heap.size, 0, none⟩))) (w1.alloc (.cells #[.slice A1 n1 c1, .int .i64 0] 96)) :=
  ⟨w1.heap.size, A1, n1, c1, rfl, ⟨heap_alloc_new _ _, hm.sb.alloc _, hm.le, hm.max, hs, fun ad hA => by subst hA; exact own_block hm.own⟩, hm.below.alloc hs _⟩
 go_ret
 exact HP
def TakePost (base : Nat) (w : World) (r : Nat) (q : List Int × List Int × Int) (e' : Ending) (w' : World) : Prop :=
 ∃ v, e' = .returned v ∧ Fresh 5 q.1 w v w' ∧ RdTo 96 base w r q.2.1 q.2.2 w'
theorem take_any {base : Nat} {w : World} {r : Nat} {A : Option Addr} {m c : Nat} {zs : List Int} {e : Int} (h : Rd 96 base w r A m c zs e) (hm : m ≤ 140737488355328) (n : Int) (hn : n ≤ 9223372036854775807) :
  Calls Tryd.prog 52 #[.pointer (some ⟨r, 0, none⟩), .int .i64 n] w (TakePost base w r (take1 zs e n)) := by
 have hl := Lib.hid h.sb.len
 by_cases h0 : e = 0
 · subst h0
   by_cases h1 : n < 0
   · have HP : TakePost base w r (take1 zs 0 n) (.returned (.slice none 0 0)) (w.setCell ⟨r, 1, none⟩ (.int .i64 1)) := by
      unfold take1; rw [if_neg (by simp), if_pos h1]; exact ⟨_, rfl, Fresh.nil _ _ _, RdTo.err h 1⟩
     have hc0 := h.cell0
     have hc1 := h.cell1
     have hf := h.free 1
     go_enter Tryd.func52, Tryd.ntmps52
     go_wp2_with (go_at_call 83; refine (reads_any h).mono ?_; rintro e w' ⟨rfl, rfl⟩)
     go_ret
     exact HP
   · by_cases h2 : (m : Int) < n
     · have HP : TakePost base w r (take1 zs 0 n) (.returned (.slice none 0 0)) (w.setCell ⟨r, 1, none⟩ (.int .i64 2)) := by
        unfold take1; rw [if_neg (by simp), if_neg h1, hl.out, if_pos h2]; exact ⟨_, rfl, Fresh.nil _ _ _, RdTo.err h 2⟩
       have hc0 := h.cell0
       have hc1 := h.cell1
       have hf := h.free 1
       go_enter Tryd.func52, Tryd.ntmps52
       go_wp2_with (go_at_call 83; refine (reads_any h).mono ?_; rintro e w' ⟨rfl, rfl⟩)
       go_ret
       exact HP
     · obtain ⟨k, rfl⟩ : ∃ k : Nat, n = k := ⟨n.toNat, by omega⟩
       have hk : k ≤ m := by omega
       have hmc := h.le
       have hcm := h.max
       unfold maxLen at hcm
       have hc0 := h.cell0
       go_enter Tryd.func52, Tryd.ntmps52
       go_wp2_with (go_at_call 83; refine (reads_any h).mono ?_; rintro e w' ⟨rfl, rfl⟩)
       refine (clone_any (h.sb.front hk) (by omega)).mono ?_
       rintro e w1 ⟨v, rfl, A1, n1, c1, rfl, hm1⟩
       have hr1 := h.below hm1.below
       have hd0 := hr1.cell0
       have hf := hr1.free 0
       have HM := Lib.hid hm1
       clear hm1 hc0
       have HP : TakePost base w r (take1 zs 0 k) (.returned (.slice A1 n1 c1)) (w1.setCell ⟨r, 0, none⟩ (.slice (if c = k then A else A.map (·.add k)) (m - k) (c - k))) := by
        unfold take1; rw [if_neg (by simp), if_neg (by omega), hl.out, if_neg (by omega)]
        exact ⟨_, rfl, ⟨A1, n1, c1, rfl, HM.out.fresh.setCell h.lt _⟩, ⟨_, _, _, hr1.setRest hk⟩, grownBy_trans (grownBy_below HM.out.below) (grownBy_set _ _ _)⟩
       by_cases hck : c = k
       · rw [if_pos hck] at HP
         subst hck
         obtain rfl : m = c := by omega
         simp only [Nat.sub_self] at HP
         go_wp2
         all_goals first | (exfalso; omega) | (go_ret; exact HP)
       · rw [if_neg hck] at HP
         go_wp2
         all_goals first | (exfalso; omega) | (go_ret; exact HP)
 · have HP : TakePost base w r (take1 zs e n) (.returned (.slice none 0 0)) w := by
    unfold take1; rw [if_pos h0]; exact ⟨_, rfl, Fresh.nil _ _ _, RdTo.refl h⟩
   have H : (e == 0) = false := by simpa using h0
   clear h0
   go_enter Tryd.func52, Tryd.ntmps52
   go_wp2_with (go_at_call 83; refine (reads_any h).mono ?_; rintro e w' ⟨rfl, rfl⟩)
   go_ret
   exact HP
end Go.Proofs.YtikhknnhmnopbaaDoor
