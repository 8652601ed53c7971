/-
  Part 24 of what the laws of emul want: RowsBase, RowsCopy, RowsLaws, WireTake, WireRead, RowsRdr.
-/
import Derived.Deep.MidRow
import Derived.Laws.BitsAllLaws
import Derived.Test.YtikhknnhmnopbaaGreatDoorPm02
import Derived.Test.YtikhknnhmnopbaaGreatDoorPm13
import Derived.Test.YtikhknnhmnopbaaGreatDoorPm19
import Derived.Test.YtikhknnhmnopbaaGreatDoorPm21
import Derived.Test.YtikhknnhmnopbaaGreatDoorPm22
import Derived.Test.YtikhknnhmnopbaaGreatDoorPm23
namespace Go.Proofs.YtikhknnhmnopbaaGreatDoor
open Go.RowKit
def BaEnd (cols rows fl:Int) (A:Sc) (w:World) (e:Ending) (w':World):Prop :=
 Below w.heap.size w w'∧((∃ s,e=.returned (.tuple #[.agg (scrA s),.int .i64 0])∧ScOwn w.heap.size w' s { (if fl<4 then A else blS cols.toNat rows.toNat) with x:=0,y:=0,hid:=false }∧sizeOk cols rows=true∧¬ (7<fl∨sizeOk cols rows=false)∧¬ (fl<4∧(cols≠A.c∨rows≠A.r))) ∨
  (e=.returned (.tuple #[.agg (scrA scN),.int .i64 3])∧(7<fl∨sizeOk cols rows=false)) ∨
  (e=.returned (.tuple #[.agg (scrA scN),.int .i64 15])∧¬ (7<fl∨sizeOk cols rows=false)∧(fl<4∧(cols≠A.c∨rows≠A.r))))
theorem Sx.set {w:World} {g:Nat} {s s':ScR} {k:Nat} {v:Value} (h:Sx w g s) (e:(scF s).set k v=scF s') (hk:k<9):Sx (w.setCell ⟨g,k,none⟩ v) g s':=by
 obtain ⟨r,h⟩:=h
 refine ⟨r,?_⟩
 rw [heap_setCell_same w g k _ _ _ h]
 have e1:rowV scF [s]=scF s:=by simp [rowV]
 have e2:rowV scF [s']=scF s':=by simp [rowV]
 have e3:((rowV scF [s] ++ r).toArray.setIfInBounds k v)=(rowV scF [s'] ++ r).toArray:=by
  rw [List.setIfInBounds_toArray,e1,e2,List.set_append_left _ _ (by rw [scF_len];exact hk),e]
 rw [e3]
theorem Tx.onto {α:Type} {f:α→List Value} {t:TypeId} {B g:Nat} {w w':World} {T:Option Addr} {m q:Nat} {L:List ByteArray} {M:List α} (h:Tx B w T m q L) (hR:Rw f t w g M) (hn:t≠9) (hg:w.grownBy w' (some g)):Tx B w' T m q L:=⟨h.len,h.le,h.max,by
 refine World.ownsRow.kept h.own hg ?_
 rcases h.own.2 with ⟨h1,_⟩ | ⟨q,cap,cur,hv,hb,hgg,_⟩
 · left;rw [h1];rfl
 · right
   rw [hv]
   intro e
   have e2:q=g:=by injection e
   subst e2
   obtain ⟨r,h3⟩:=hR
   rw [h3] at hgg
   injection hgg with e3
   injection e3 with _ e3
   exact absurd e3 hn⟩
theorem wp_store_S {w:World} {o:Oper} {a:Act} {K:Act→World→Prop} {Q:Exit→Act→World→Prop} (x y:Operand) (ho:o.op=.store 25 x y)
  (g:Nat) (s0 s:ScR) (hx:a.eval x=.pointer (some ⟨g,0,none⟩)) (hy:a.eval y=.agg (scrA s)) (hR:Sx w g s0)
  (h:∀ w',Sx w' g s→w.grownBy w' (some g)→K (a.put o.dst undef) w'):o.wp Tryz.prog a w K Q:=by
 obtain ⟨e1,e2⟩:=Rw.stored scF_len hR (k:=0) (M:=[s]) (by simp)
 have hone:rowV scF [s]=(scrA s).toList:=by simp [rowV,scF,scrA]
 refine wp_store_mid 25 x y ho g 0 (scrA s) hx hy (by simpa [scrA] using Rw.there scF_len hR (k:=0) (m:=1) (by simp)) (by kernel_rfl) ?_ ?_
 · rw [Array.all_eq_true_iff_forall_mem]
   intro v hv
   exact one_sc [s] v (by rw [hone];simpa using hv)
 · have e3:w.setCells g 0 (scrA s).toList=w.setCells g (0*9) (rowV scF [s]):=by rw [hone]
   rw [e3]
   refine h _ ?_ e2
   have:=e1
   simpa using this
theorem ScOwn.box {base:Nat} {w w':World} {s s0:ScR} {S:Sc} {g:Nat} (h:ScOwn base w s S) (hR:Sx w g s0) (hg:w.grownBy w' (some g)):ScOwn base w' s S:=by
 have hc:Cx base w' s.A s.n s.k S.cells:=⟨h.cx.len,h.cx.le,h.cx.max,fun hn=>by
  obtain ⟨q,e,hb,hQ⟩:=h.cx.own hn
  exact ⟨q,e,hb,hQ.grown hg (fun e2=>by injection e2 with e2;exact Rw.apart hQ hR (by decide) e2.symm)⟩⟩
 have ht:Tx base w' s.T s.m s.q S.links:=Tx.onto h.tx hR (by decide) hg
 exact ⟨{ h.sc with cells:=hc.vs,links:=ht.vs },hc,ht,h.n,h.m⟩
theorem ScOwn.ttl {base:Nat} {w:World} {s:ScR} {S:Sc} (h:ScOwn base w s S) (t:ByteArray) (ht:t.size≤140737488351232):ScOwn base w { s with ttl:=t } { S with title:=sL t } :=
 ⟨{ h.sc with ttl:=rfl,tz:=ht },h.cx,h.tx,h.n,h.m⟩
theorem and4 {fl:Int} (h:0≤fl∧fl≤7):bits .and .u64 fl 4=if fl<4 then 0 else 4:=by
 have:fl=0∨fl=1∨fl=2∨fl=3∨fl=4∨fl=5∨fl=6∨fl=7:=by omega
 rcases this with rfl | rfl | rfl | rfl | rfl | rfl | rfl | rfl<;>decide
theorem and2 {fl:Int} (h:0≤fl∧fl≤7):bits .and .u64 fl 2=if fl / 2 % 2=1 then 2 else 0:=by
 have:fl=0∨fl=1∨fl=2∨fl=3∨fl=4∨fl=5∨fl=6∨fl=7:=by omega
 rcases this with rfl | rfl | rfl | rfl | rfl | rfl | rfl | rfl<;>decide
theorem and1 {fl:Int} (h:0≤fl∧fl≤7):bits .and .u64 fl 1=if fl % 2=1 then 1 else 0:=by
 have:fl=0∨fl=1∨fl=2∨fl=3∨fl=4∨fl=5∨fl=6∨fl=7:=by omega
 rcases this with rfl | rfl | rfl | rfl | rfl | rfl | rfl | rfl<;>decide
set_option maxHeartbeats 6400000 in
set_option maxRecDepth 100000 in
theorem base_any {sa:ScR} {A:Sc} {cols rows fl:Int} {c r:Nat} {BL:Rws} {w:World} (hT:Tabs w) (h:ScIn w sa A) (hA:FitS A c r BL) (hf:0≤fl∧fl≤255) :
  Calls Tryz.prog 35 #[.agg (scrA sa),.int .i64 cols,.int .i64 rows,.int .u64 fl] w (BaEnd cols rows fl A w):=by
 have HI:=Lib.hid (And.intro h hA)
 obtain ⟨b,hb⟩:∃ b,b=w.heap.size:=⟨_,rfl⟩
 obtain ⟨w1,hw1⟩:∃ w1,w1=(w.alloc (.cells (scrA sa) 25)).alloc (.cells (scrA scN) 25):=⟨_,rfl⟩
 have H1:=Lib.hid (show S2 w w1 b sa scN from by
  have h1:=Sx.new w sa
  have h2:=Sx.new (w.alloc (.cells (scrA sa) 25)) scN
  rw [World.size_alloc] at h2
  rw [hb,hw1]
  exact ⟨h1.below ((Below.refl _ _).alloc (Nat.le_refl _) _),h2,((Below.refl _ _).alloc (Nat.le_refl _) _).alloc (by simp) _,Nat.le_refl _⟩)
 have HBZ:=Lib.hid (show b+2=w1.heap.size from by rw [hb,hw1];simp)
 have PB:=Lib.hid (pBlank_any (hT.below H1.out.bel (Nat.le_refl _)) cols rows)
 clear h hA hT
 unfold scrA scN at hw1
 dsimp only at hw1
 unfold scrA
 go_enter Tryz.func35,Tryz.ntmps35
 go_upto_region 1 with fail
 rw [← hw1,← hb]
 clear hw1 hb
 go_wp2_with fail
 refine PB.out.mono ?_
 rintro e w2 ⟨hb2,⟨hz,s,rfl,hS⟩ | ⟨hz,rfl⟩⟩
 rotate_left
 · obtain ⟨b10,hb10⟩:∃ q,q=w2.heap.size:=⟨_,rfl⟩
   obtain ⟨w3,hw3⟩:∃ q,q=w2.alloc (.cells (scrA scN) 25):=⟨_,rfl⟩
   have H3:=Lib.hid (show S2 w w3 b sa scN from by
    have hbb:Below w2.heap.size w2 w3:=by rw [hw3];exact (Below.refl _ _).alloc (Nat.le_refl _) _
    exact (H1.out.on hb2).on hbb)
   have HZ:=Lib.hid hz
   clear hb2 hz H1 PB
   unfold scrA scN at hw3 ⊢
   dsimp only at hw3 ⊢
   go_upto_region 2 with fail
   rw [← hw3,← hb10]
   clear hw3 hb10
   by_cases h7:7<fl
   all_goals
    go_wp2_with (refine wpList_store_V rfl 25 (.tmp 8) (.tmp 25) rfl scF_len one_sc info56 (b+1) _ 0 scN _ rfl (by omega) rfl rfl 25 [scN] H3.out.b2 (by decide) ?_;intro w7 hR7 hg7)
    have HE:=Lib.hid (show Below w.heap.size w w7 from H3.out.bel.grown hg7 H3.out.bel.size (fun k hk=>by injection hk with hk;have:=H3.out.lo;omega))
    obtain ⟨y0,y1,y2,y3,y4,y5,y6,y7,y8,_⟩:=sx_cells (s:=scN) hR7
    exact bodyPost_ret (v:=.tuple #[.agg (scrA scN),.int .i64 3]) (by simp [results,Tryz.results35,scrA,scN,go_sem,y0,y1,y2,y3,y4,y5,y6,y7,y8]) rfl ⟨HE.out,.inr (.inl ⟨rfl,.inr HZ.out⟩)⟩
 · obtain ⟨b10,hb10⟩:∃ q,q=w2.heap.size:=⟨_,rfl⟩
   obtain ⟨w3,hw3⟩:∃ q,q=w2.alloc (.cells (scrA s) 25):=⟨_,rfl⟩
   have H3:=Lib.hid (show S2 w w3 b sa scN∧Sx w3 b10 s∧ScOwn w1.heap.size w3 s (blS cols.toNat rows.toNat)∧b+2≤b10 from by
    have hbb:Below w2.heap.size w2 w3:=by rw [hw3];exact (Below.refl _ _).alloc (Nat.le_refl _) _
    exact ⟨(H1.out.on hb2).on hbb,by rw [hw3,hb10];exact Sx.new w2 s,hS.below hbb,by rw [hb10];exact (H1.out.on hb2).lt⟩)
   have HZ:=Lib.hid hz
   have HSZ:=Lib.hid (size_nat hz)
   clear hb2 hz hS H1 PB
   unfold scrA at hw3 ⊢
   go_upto_region 2 with fail
   rw [← hw3,← hb10]
   clear hw3 hb10
   by_cases h7:7<fl
   · go_wp2_with (refine wpList_store_V rfl 25 (.tmp 8) (.tmp 25) rfl scF_len one_sc info56 (b+1) _ 0 scN _ rfl (by omega) rfl rfl 25 [scN] H3.out.1.b2 (by decide) ?_;intro w7 hR7 hg7)
     have HE:=Lib.hid (show Below w.heap.size w w7 from H3.out.1.bel.grown hg7 H3.out.1.bel.size (fun k hk=>by injection hk with hk;have:=H3.out.1.lo;omega))
     obtain ⟨y0,y1,y2,y3,y4,y5,y6,y7,y8,_⟩:=sx_cells (s:=scN) hR7
     exact bodyPost_ret (v:=.tuple #[.agg (scrA scN),.int .i64 3]) (by simp [results,Tryz.results35,scrA,scN,go_sem,y0,y1,y2,y3,y4,y5,y6,y7,y8]) rfl ⟨HE.out,.inr (.inl ⟨rfl,.inl h7⟩)⟩
   have ha4:=and4 (fl:=fl) (by omega)
   have HN3:=Lib.hid (show ¬ (7<fl∨sizeOk cols rows=false) from by rw [HZ.out];simp;omega)
   by_cases h4:fl<4
   rotate_left
   · rw [if_neg h4] at ha4
     obtain ⟨d0,d1,d2,d3,d4,d5,d6,d7,d8,_⟩:=sx_cells H3.out.2.1
     have H4:=Lib.hid (show ¬ fl<4 from h4)
     clear h4
     go_wp2_with (refine wpList_store_V rfl 25 (.tmp 8) (.tmp 30) rfl scF_len one_sc info56 (b+1) _ 0 s _ rfl (by omega) rfl rfl 25 [scN] H3.out.1.b2 (by decide) ?_;intro w7 hR7 hg7)
     have HE:=Lib.hid (show Below w.heap.size w w7∧ScOwn w.heap.size w7 s (blS cols.toNat rows.toNat) from
      ⟨H3.out.1.bel.grown hg7 H3.out.1.bel.size (fun k hk=>by injection hk with hk;have:=H3.out.1.lo;omega),(H3.out.2.2.1.grown hg7 (by have:=HBZ.out;omega)).lower (by have:=H3.out.1.lo;have:=HBZ.out;omega)⟩)
     obtain ⟨y0,y1,y2,y3,y4,y5,y6,y7,y8,_⟩:=sx_cells (s:=s) hR7
     exact bodyPost_ret (v:=.tuple #[.agg (scrA s),.int .i64 0]) (by simp [results,Tryz.results35,scrA,go_sem,y0,y1,y2,y3,y4,y5,y6,y7,y8]) rfl ⟨HE.out.1,.inl ⟨s,rfl,by rw [if_neg (by have:=H4.out;omega)];exact HE.out.2,HZ.out,HN3.out,fun hh=>by have:=H4.out;have:=hh.1;omega⟩⟩
   rw [if_pos h4] at ha4
   have HSC:=Lib.hid (show s.c=cols∧s.r=rows∧sa.c=A.c∧sa.r=A.r from by
    obtain ⟨c',r',e1,e2,_⟩:=HSZ.out
    have h1:=H3.out.2.2.1.sc.c
    have h2:=H3.out.2.2.1.sc.r
    refine ⟨?_,?_,HI.out.1.c.symm,HI.out.1.r.symm⟩
    · rw [← h1,e1];rfl
    · rw [← h2,e2];rfl)
   obtain ⟨a0,a1,a2,a3,a4,a5,a6,a7,a8,_⟩:=sx_cells H3.out.1.b1
   obtain ⟨d0,d1,d2,d3,d4,d5,d6,d7,d8,_⟩:=sx_cells H3.out.2.1
   have PK:=Lib.hid (likeR_any sa s w3)
   obtain ⟨K,hK⟩:∃ K,decide (sa.c=s.c∧sa.r=s.r)=K:=⟨_,rfl⟩
   rw [hK] at PK
   have HK:=Lib.hid (show (K=true↔(cols=A.c∧rows=A.r)) from by rw [← hK,HSC.out.1,HSC.out.2.1,HSC.out.2.2.1,HSC.out.2.2.2];simp only [decide_eq_true_eq];exact ⟨fun h=>⟨h.1.symm,h.2.symm⟩,fun h=>⟨h.1.symm,h.2.symm⟩⟩)
   clear hK
   unfold scrA at PK
   have H4:=Lib.hid h4
   go_wp2_with fail
   refine PK.out.mono ?_
   rintro e w4 ⟨rfl,hb4⟩
   have H5:=Lib.hid (show S2 w w4 b sa scN∧Sx w4 b10 s∧ScOwn w1.heap.size w4 s (blS cols.toNat rows.toNat) from ⟨H3.out.1.on hb4,H3.out.2.1.below hb4,H3.out.2.2.1.below hb4⟩)
   have HBB:=Lib.hid H3.out.2.2.2
   clear hb4 PK a0 a1 a2 a3 a4 a5 a6 a7 a8 d0 d1 d2 d3 d4 d5 d6 d7 d8 H3 h4 ha4
   cases K
   · have hno:fl<4∧(cols≠A.c∨rows≠A.r):=⟨H4.out,by
      by_cases e:cols=A.c
      · exact .inr fun e2=>by have:=HK.out.2 ⟨e,e2⟩;cases this
      · exact .inl e⟩
     have HNO:=Lib.hid hno
     clear hno
     go_wp2_with (refine wpList_store_V rfl 25 (.tmp 8) (.tmp 36) rfl scF_len one_sc info56 (b+1) _ 0 scN _ rfl (by omega) rfl rfl 25 [scN] H5.out.1.b2 (by decide) ?_;intro w7 hR7 hg7)
     have HE:=Lib.hid (show Below w.heap.size w w7 from H5.out.1.bel.grown hg7 H5.out.1.bel.size (fun k hk=>by injection hk with hk;have:=H5.out.1.lo;omega))
     obtain ⟨y0,y1,y2,y3,y4,y5,y6,y7,y8,_⟩:=sx_cells (s:=scN) hR7
     exact bodyPost_ret (v:=.tuple #[.agg (scrA scN),.int .i64 15]) (by simp [results,Tryz.results35,scrA,scN,go_sem,y0,y1,y2,y3,y4,y5,y6,y7,y8]) rfl ⟨HE.out,.inr (.inr ⟨rfl,HN3.out,HNO.out⟩)⟩
   · have hcc:=HK.out.1 rfl
     have HCR:=Lib.hid (show cols=(c:Int)∧rows=(r:Int) from ⟨by rw [hcc.1,HI.out.2.ec],by rw [hcc.2,HI.out.2.er]⟩)
     clear hcc HK
     rw [HCR.out.1,HCR.out.2,Int.toNat_natCast,Int.toNat_natCast] at H5
     have hsm:=HI.out.2.gk.small
     have HLN:=Lib.hid (show s.n=r*c∧sa.n=r*c∧0<r*c from by
      have h1:=HI.out.2.gk.c1
      have h2:=HI.out.2.gk.r1
      refine ⟨?_,?_,Nat.mul_pos h2 h1⟩
      · rw [← H5.out.2.2.sc.cells.len]
        exact (bl_fit h1 HI.out.2.gk.c80 h2 HI.out.2.gk.r24).gk.box.flen
      · rw [← HI.out.1.cells.len,HI.out.2.el]
        exact HI.out.2.gk.box.flen)
     obtain ⟨g,hA,hg,hR⟩:=H5.out.2.2.cx.own (by have:=HLN.out;omega)
     have HG:=Lib.hid (show s.A=some ⟨g,0,none⟩∧w1.heap.size≤g∧Rw ceV 43 w4 g (blS c r).cells∧g≠b10 from ⟨hA,hg,hR,Rw.apart hR H5.out.2.1 (by decide)⟩)
     clear hA hg hR
     obtain ⟨_,_,a2,_,_,_,_,_,_,_⟩:=sx_cells H5.out.1.b1
     obtain ⟨_,_,d2,_,_,_,_,_,_,_⟩:=sx_cells H5.out.2.1
     rw [HG.out.1] at d2
     have HFA:=Lib.hid (HI.out.2.gk.box.flen)
     go_upto_region 9 with (refine wpList_copy_V rfl (.tmp 38) (.tmp 40) 22 22 rfl 43 ceV_len one_ce Tryz.underlying22 infoCe g 0 s.n s.k (some ⟨g,0,none⟩) sa.A sa.n sa.k rfl rfl 43 (blS c r).cells A.cells HG.out.2.2.1 (by rw [HI.out.1.cells.len,HLN.out.1,HLN.out.2.1];exact (Nat.min_self _).symm) (by rw [HI.out.1.cells.len];exact HI.out.1.cells.below H5.out.1.bel) (fun _=>rfl) (by rw [HI.out.1.cells.len,H5.out.2.2.sc.cells.len,HLN.out.1,HLN.out.2.1];omega) ?_;intro w5 hR5 hg5)
     have H6:=Lib.hid (show S2 w w5 b sa scN∧Sx w5 b10 s∧ScOwn w1.heap.size w5 s { blS c r with cells:=A.cells } from by
      have hne:g≠b10:=HG.out.2.2.2
      have hgw:=HG.out.2.1
      have hbz:=HBZ.out
      have hlb:=HBB.out
      have hl5:=H5.out.1.lt
      have hRA:Rw ceV 43 w5 g A.cells:=by
       have e:(blS c r).cells.take 0 ++ (A.cells ++ (blS c r).cells.drop (0+A.cells.length))=A.cells:=by
        rw [List.drop_of_length_le (by rw [HI.out.1.cells.len,H5.out.2.2.sc.cells.len,HLN.out.1,HLN.out.2.1];omega)]
        simp
       rw [e] at hR5
       exact hR5
      have hcx:Cx w1.heap.size w5 s.A s.n s.k A.cells:=⟨by rw [HI.out.1.cells.len,HLN.out.1,HLN.out.2.1],H5.out.2.2.cx.le,H5.out.2.2.cx.max,fun _=>⟨g,HG.out.1,hgw,hRA⟩⟩
      have htx:Tx w1.heap.size w5 s.T s.m s.q []:=Tx.onto H5.out.2.2.tx HG.out.2.2.1 (by decide) hg5
      refine ⟨⟨H5.out.1.b1.grown hg5 (by intro e;injection e with e;omega),H5.out.1.b2.grown hg5 (by intro e;injection e with e;omega),H5.out.1.bel.grown hg5 H5.out.1.bel.size (fun k hk=>by injection hk with hk;have:=H5.out.1.bel.size;have:=H5.out.1.lo;omega),H5.out.1.lo⟩,H5.out.2.1.grown hg5 (by intro e;injection e with e;exact hne e),?_⟩
      exact ⟨{ H5.out.2.2.sc with cells:=hcx.vs,links:=htx.vs,lk:=HI.out.1.lk },hcx,htx,H5.out.2.2.n,H5.out.2.2.m⟩)
     clear hR5 hg5 a2 d2
     have hlb:=HBB.out
     obtain ⟨_,_,_,_,_,_,_,a7,_,_⟩:=sx_cells H6.out.1.b1
     obtain ⟨_,_,_,_,_,_,_,d7,_,_⟩:=sx_cells H6.out.2.1
     have hfz:=H6.out.2.1.free 7
     obtain ⟨w6,hw6⟩:∃ q,q=w5.setCell ⟨b10,7,none⟩ (.string sa.ttl):=⟨_,rfl⟩
     have H7:=Lib.hid (show S2 w w6 b sa scN∧Sx w6 b10 { s with ttl:=sa.ttl }∧ScOwn w1.heap.size w6 { s with ttl:=sa.ttl } { A with x:=0,y:=0,hid:=false } from by
      have hg6:w5.grownBy w6 (some b10):=by rw [hw6];exact grownBy_set w5 ⟨b10,7,none⟩ _
      have hlo:=H6.out.1.lo
      have hsz:=H6.out.1.bel.size
      have hx:Sx w6 b10 { s with ttl:=sa.ttl }:=by rw [hw6];exact Sx.set H6.out.2.1 rfl (by omega)
      refine ⟨⟨H6.out.1.b1.grown hg6 (by intro e;injection e with e;omega),H6.out.1.b2.grown hg6 (by intro e;injection e with e;omega),H6.out.1.bel.grown hg6 hsz (fun k hk=>by injection hk with hk;omega),hlo⟩,hx,?_⟩
      have hcx:Cx w1.heap.size w6 s.A s.n s.k A.cells:=⟨H6.out.2.2.cx.len,H6.out.2.2.cx.le,H6.out.2.2.cx.max,fun hn=>by
       obtain ⟨q,e,hb,hQ⟩:=H6.out.2.2.cx.own hn
       exact ⟨q,e,hb,hQ.grown hg6 (fun e2=>by injection e2 with e2;exact Rw.apart hQ H6.out.2.1 (by decide) e2.symm)⟩⟩
      have htx:Tx w1.heap.size w6 s.T s.m s.q []:=Tx.onto H6.out.2.2.tx H6.out.2.1 (by decide) hg6
      have hl:=HI.out.2.lk
      have hmo:=HI.out.2.mo
      have hbs:=H6.out.2.2.sc
      refine ⟨⟨?_,?_,hbs.x,hbs.y,hbs.hid,?_,HI.out.1.ttl,hcx.vs,?_,hbs.nk,hbs.n9,hbs.mq,HI.out.1.lk,?_,HI.out.1.tz⟩,hcx,?_,H6.out.2.2.n,H6.out.2.2.m⟩
      · show A.c=s.c
        rw [HSC.out.1,HCR.out.1,HI.out.2.ec]
      · show A.r=s.r
        rw [HSC.out.2.1,HCR.out.2,HI.out.2.er]
      · show A.mouse=s.mouse
        rw [hmo]
        exact hbs.mouse
      · show Vs stV w6 s.T s.m A.links
        rw [hl]
        exact htx.vs
      · show ∀ u∈A.links,_
        rw [hl]
        intro u hu
        cases hu
      · show Tx _ w6 s.T s.m s.q A.links
        rw [hl]
        exact htx)
     go_upto_region 10 with fail
     rw [← hw6]
     clear hw6 a7 d7 hfz
     obtain ⟨d0,d1,d2,d3,d4,d5,d6,d7,d8,_⟩:=sx_cells H7.out.2.1
     try dsimp only at d0 d1 d2 d3 d4 d5 d6 d7 d8
     go_wp2_with (refine wpList_store_V rfl 25 (.tmp 8) (.tmp 45) rfl scF_len one_sc info56 (b+1) _ 0 { s with ttl:=sa.ttl } _ rfl (by omega) rfl rfl 25 [scN] H7.out.1.b2 (by decide) ?_;intro w7 hR7 hg7)
     have HE:=Lib.hid (show Below w.heap.size w w7∧ScOwn w.heap.size w7 { s with ttl:=sa.ttl } { A with x:=0,y:=0,hid:=false } from
      ⟨H7.out.1.bel.grown hg7 H7.out.1.bel.size (fun k hk=>by injection hk with hk;have:=H7.out.1.lo;omega),(H7.out.2.2.grown hg7 (by have:=HBZ.out;omega)).lower (by have:=H7.out.1.lo;have:=HBZ.out;omega)⟩)
     obtain ⟨y0,y1,y2,y3,y4,y5,y6,y7,y8,_⟩:=sx_cells (s:={ s with ttl:=sa.ttl }) hR7
     try dsimp only at y0 y1 y2 y3 y4 y5 y6 y7 y8
     have hyes:¬ (fl<4∧(cols≠A.c∨rows≠A.r)):=fun hh=>by
      have h1:=HI.out.2.ec
      have h2:=HI.out.2.er
      have h3:=HCR.out
      rcases hh.2 with e | e
      · exact e (by rw [h3.1,h1])
      · exact e (by rw [h3.2,h2])
     exact bodyPost_ret (v:=.tuple #[.agg (scrA { s with ttl:=sa.ttl }),.int .i64 0]) (by simp [results,Tryz.results35,scrA,go_sem,y0,y1,y2,y3,y4,y5,y6,y7,y8]) rfl ⟨HE.out.1,.inl ⟨_,rfl,by rw [if_pos (show fl<4 from by have:=H4.out;omega)];exact HE.out.2,HZ.out,HN3.out,hyes⟩⟩
open Go.RowKit
theorem cx_of {base:Nat} {w:World} {A:Option Addr} {n c:Nat} {L:List Ce} (hl:L.length=n) (h:w.ownsRow base 43 6 (.slice A n c) n (rowV ceV L)):Cx base w A n c L:=by
 obtain ⟨A',c',e,h1,h2⟩:=own_shape h
 injection e with e1 e2 e3
 subst e1 e3
 refine ⟨hl,h1,h2,fun hn=>?_⟩
 obtain ⟨g,e,hb,_,_,hR⟩:=own_some hn h
 exact ⟨g,e,hb,hR⟩
theorem tx_of {base:Nat} {w:World} {A:Option Addr} {n c:Nat} {L:List ByteArray} (_:L.length=n) (h:w.ownsRow base 9 1 (.slice A n c) n (rowV stV L)):Tx base w A n c L:=Tx.mk' h
theorem Cx.grown' {base:Nat} {w w':World} {A:Option Addr} {n c:Nat} {L:List Ce} (h:Cx base w A n c L) {g:Nat} (hg:w.grownBy w' (some g)) (hl:g<base):Cx base w' A n c L :=
 ⟨h.len,h.le,h.max,fun hn=>by obtain ⟨q,e,hb,hR⟩:=h.own hn;exact ⟨q,e,hb,hR.grown hg (fun e2=>by injection e2 with e2;omega)⟩⟩
theorem Tx.grown' {base:Nat} {w w':World} {A:Option Addr} {n c:Nat} {L:List ByteArray} (h:Tx base w A n c L) {g:Nat} (hg:w.grownBy w' (some g)) (hl:g<base):Tx base w' A n c L:=by
 by_cases hn:0<n
 · obtain ⟨q,e,hb,_⟩:=h.blk hn
   exact h.grown hg (fun q2 e2 e3=>by rw [e] at e2;injection e2 with e2;injection e2 with e2;injection e3 with e3;omega)
 · exact h.grown hg (fun q2 e2 e3=>by
    rcases h.own.2 with ⟨h1,_⟩ | ⟨q,cap,cur,hv,hb,_⟩
    · injection h1 with h1;rw [h1] at e2;cases e2
    · injection hv with hv;rw [hv] at e2;injection e2 with e2;injection e2 with e2;injection e3 with e3;omega)
set_option maxHeartbeats 6400000 in
set_option maxRecDepth 100000 in
theorem refCopyO_any {w:World} {s:ScR} {S:Sc} (h:ScIn w s S) (hn:s.n≤60000) (hm:s.m≤60000) :
  Calls Tryz.prog 7 #[.agg (scrA s)] w fun e w'=>Below w.heap.size w w'∧∃ s':ScR,e=.returned (.agg (scrA s'))∧ScIn w' s' S∧Cx w.heap.size w' s'.A s'.n s'.k S.cells∧Tx w.heap.size w' s'.T s'.m s'.q S.links∧s'.n=s.n∧s'.m=s.m:=by
 obtain ⟨b,hb⟩:∃ b,b=w.heap.size:=⟨_,rfl⟩
 have HB:=Lib.hid hb
 have H:=Lib.hid h
 obtain ⟨w2,hw2⟩:∃ w2,w2=((w.alloc (.cells #[.int .i64 s.c,.int .i64 s.r,.slice s.A s.n s.k,.int .i64 s.x,.int .i64 s.y,.bool s.hid,.int .u8 s.mouse,.string s.ttl,.slice s.T s.m s.q] 25)).alloc (.cells #[.int .i64 0,.int .i64 0,.slice none 0 0,.int .i64 0,.int .i64 0,.bool false,.int .u8 0,.string ⟨#[]⟩,.slice none 0 0] 25)):=⟨_,rfl⟩
 have H0:=Lib.hid (show Sx w2 b s∧Sx w2 (b+1) scN∧Below w.heap.size w w2∧w2.heap.size=b+2 from by
  have h1:=Sx.new w s
  have h2:=Sx.new (w.alloc (.cells (scrA s) 25)) scN
  rw [World.size_alloc] at h2
  rw [hb,hw2]
  exact ⟨h1.below ((Below.refl _ _).alloc (Nat.le_refl _) _),h2,((Below.refl _ _).alloc (Nat.le_refl _) _).alloc (by simp) _,by simp⟩)
 clear h
 unfold scrA
 go_enter Tryz.func7,Tryz.ntmps7
 go_upto_region 1 with fail
 rw [← hw2,← hb]
 clear hw2 hb
 have HI:=Lib.hid ((H.out.cells.below H0.out.2.2.1).below ((Below.refl _ _).alloc (Nat.le_refl _) (.cells #[] 43)))
 obtain ⟨_,_,p2,_⟩:=sx_cells H0.out.1
 have f2:=H0.out.1.free 2
 go_upto_region 2 with (at_builtin;refine wpList_app_V _ rfl _ _ 22 rfl ceV_len one_ce w2.heap.size 43 _ 20 (by omega) Tryz.underlying22 infoCe3 rfl (by omega) (.slice (some ⟨w2.heap.size,0,none⟩) 0 0) 0 [] rfl (World.ownsRow_lit w2 #[] 0 (Nat.le_refl _) (by unfold maxLen;omega) rfl) s.A s.n s.k s.n (by omega) S.cells rfl HI.out (by omega) (by simp) ?_;intro P3 cp3 w3 hown hg3;simp only [List.nil_append] at hown;have H3:=Lib.hid (show Sx w3 b s∧Sx w3 (b+1) scN∧Below w2.heap.size w2 w3∧Cx w2.heap.size w3 P3 s.n cp3 S.cells from by
  have hb3:Below w2.heap.size w2 w3:=((Below.refl _ _).alloc (Nat.le_refl _) _).grown hg3 (by simp) (fun k hk=>by have:w2.heap.size=k:=(by simpa [Value.ownBlock] using hk);omega)
  exact ⟨H0.out.1.below hb3,H0.out.2.1.below hb3,hb3,cx_of H.out.cells.len hown⟩);clear hown hg3 p2 f2;obtain ⟨_,_,p2,_⟩:=sx_cells H3.out.1;have f2:=H3.out.1.free 2)
 obtain ⟨w4,hw4⟩:∃ w4,w4=w3.setCell ⟨b,2,none⟩ (.slice P3 s.n cp3):=⟨_,rfl⟩
 rw [← hw4]
 have H4:=Lib.hid (show Sx w4 b { s with A:=P3,n:=s.n,k:=cp3 }∧Sx w4 (b+1) scN∧Below w.heap.size w w4∧Cx (b+2) w4 P3 s.n cp3 S.cells∧b+2≤w4.heap.size from by
  obtain ⟨k1,k2,k3,k4⟩:=H3.out
  have hs2:=H0.out.2.2.2
  have hbw:=HB.out
  have hz3:=k3.size
  have hg4:w3.grownBy w4 (some b):=by rw [hw4];exact grownBy_set w3 ⟨b,2,none⟩ _
  have hz4:=hg4.size
  have hbl:Below w.heap.size w w4:=(H0.out.2.2.1.trans (k3.mono (by omega))).grown hg4 (by omega) (fun k hk=>by injection hk with hk;omega)
  exact ⟨by rw [hw4];exact sx_setA k1 _ _ _,k2.grown hg4 (fun e=>by injection e with e;omega),hbl,(k4.lower (B:=b+2) (by omega)).grown' hg4 (by omega),by omega⟩)
 clear H3 hw4 p2 f2 HI
 have HI:=Lib.hid ((H.out.links.below H4.out.2.2.1).below ((Below.refl _ _).alloc (Nat.le_refl _) (.cells #[] 9)))
 obtain ⟨_,_,_,_,_,_,_,_,p8,_⟩:=sx_cells H4.out.1
 have f8:=H4.out.1.free 8
 simp only at p8
 go_upto_region 3 with (at_builtin;refine wpList_app_V _ rfl _ _ 23 rfl stV_len one_st w4.heap.size 9 _ 16 (by omega) Tryz.underlying23 infoTx rfl (by omega) (.slice (some ⟨w4.heap.size,0,none⟩) 0 0) 0 [] rfl (World.ownsRow_lit w4 #[] 0 (Nat.le_refl _) (by unfold maxLen;omega) rfl) s.T s.m s.q s.m (by omega) S.links rfl HI.out (by omega) (by simp) ?_;intro P5 cp5 w5 hown hg5;simp only [List.nil_append] at hown;have H5:=Lib.hid (show Sx w5 b { s with A:=P3,n:=s.n,k:=cp3 }∧Sx w5 (b+1) scN∧Below w4.heap.size w4 w5∧Tx w4.heap.size w5 P5 s.m cp5 S.links from by
  have hb5:Below w4.heap.size w4 w5:=((Below.refl _ _).alloc (Nat.le_refl _) _).grown hg5 (by simp) (fun k hk=>by have:w4.heap.size=k:=(by simpa [Value.ownBlock] using hk);omega)
  exact ⟨H4.out.1.below hb5,H4.out.2.1.below hb5,hb5,tx_of H.out.links.len hown⟩);clear hown hg5 p8 f8;obtain ⟨_,_,_,_,_,_,_,_,p8,_⟩:=sx_cells H5.out.1;have f8:=H5.out.1.free 8;simp only at p8)
 obtain ⟨w6,hw6⟩:∃ w6,w6=w5.setCell ⟨b,8,none⟩ (.slice P5 s.m cp5):=⟨_,rfl⟩
 rw [← hw6]
 have H6:=Lib.hid (show Sx w6 b { s with A:=P3,n:=s.n,k:=cp3,T:=P5,m:=s.m,q:=cp5 }∧Sx w6 (b+1) scN∧Below w.heap.size w w6∧Cx (b+2) w6 P3 s.n cp3 S.cells∧Tx (b+2) w6 P5 s.m cp5 S.links from by
  obtain ⟨k1,k2,k3,k4⟩:=H5.out
  have hs4:=H4.out.2.2.2.2
  have hbw:=HB.out
  have hz5:=k3.size
  have hg6:w5.grownBy w6 (some b):=by rw [hw6];exact grownBy_set w5 ⟨b,8,none⟩ _
  have hz6:=hg6.size
  have hbl:Below w.heap.size w w6:=(H4.out.2.2.1.trans (k3.mono (by omega))).grown hg6 (by omega) (fun k hk=>by injection hk with hk;omega)
  exact ⟨by rw [hw6];exact sx_setT k1 _ _ _,k2.grown hg6 (fun e=>by injection e with e;omega),hbl,(H4.out.2.2.2.1.below k3).grown' hg6 (by omega),(k4.lower (B:=b+2) (by omega)).grown' hg6 (by omega)⟩)
 clear H5 hw6 p8 f8 HI
 obtain ⟨p0,p1,p2,p3,p4,p5,p6,p7,p8,_⟩:=sx_cells H6.out.1
 simp only at p0 p1 p2 p3 p4 p5 p6 p7 p8
 go_wp2_with (refine wpList_store_V rfl 25 (.tmp 2) (.tmp 13) rfl scF_len one_sc info56 (b+1) _ 0 { s with A:=P3,n:=s.n,k:=cp3,T:=P5,m:=s.m,q:=cp5 } _ rfl (by omega) rfl rfl 25 [scN] H6.out.2.1 (by decide) ?_;intro w7 hR7 hg7)
 have H7:=Lib.hid (show (ScIn w7 { s with A:=P3,n:=s.n,k:=cp3,T:=P5,m:=s.m,q:=cp5 } S∧Cx w.heap.size w7 P3 s.n cp3 S.cells∧Tx w.heap.size w7 P5 s.m cp5 S.links)∧Below w.heap.size w w7 from by
  obtain ⟨k1,k2,k3,k4,k5⟩:=H6.out
  have hbw:=HB.out
  have c7:=k4.grown' hg7 (by omega)
  have t7:=k5.grown' hg7 (by omega)
  exact ⟨⟨{ H.out with cells:=c7.vs,links:=t7.vs,nk:=c7.le,mq:=t7.le },c7.lower (by omega),t7.lower (by omega)⟩,k3.grown hg7 k3.size (fun k hk=>by injection hk with hk;omega)⟩)
 obtain ⟨y0,y1,y2,y3,y4,y5,y6,y7,y8,_⟩:=sx_cells (s:={ s with A:=P3,n:=s.n,k:=cp3,T:=P5,m:=s.m,q:=cp5 }) hR7
 simp only at y0 y1 y2 y3 y4 y5 y6 y7 y8
 exact bodyPost_ret (v:=.agg (scrA { s with A:=P3,n:=s.n,k:=cp3,T:=P5,m:=s.m,q:=cp5 })) (by simp [results,Tryz.results7,scrA,go_sem,y0,y1,y2,y3,y4,y5,y6,y7,y8]) rfl ⟨H7.out.2,_,rfl,H7.out.1.1,H7.out.1.2.1,H7.out.1.2.2,rfl,rfl⟩
open Go.RowKit Go.WideShapes
structure Cpy (w:World) (s5:ScR) (S:Sc) (s:ScR):Prop where
 sc:ScIn w s5 S
 n:s5.n=s.n
 m:s5.m=s.m
 cx:∃ B,Cx B w s5.A s5.n s5.k S.cells
 tx:∃ B,Tx B w s5.T s5.m s5.q S.links
theorem Cpy.below {w w':World} {s5 s:ScR} {S:Sc} (h:Cpy w s5 S s) (hb:Below w.heap.size w w'):Cpy w' s5 S s:=⟨h.sc.below hb,h.n,h.m,h.cx.imp fun _ h=>h.below hb,h.tx.imp fun _ h=>h.below hb⟩
theorem cpy_any {w:World} {s:ScR} {S:Sc} (h:ScIn w s S) (hn:s.n≤60000) (hm:s.m≤60000) :
  Calls Tryz.prog 7 #[.agg (scrA s)] w fun e w'=>Below w.heap.size w w'∧∃ s':ScR,e=.returned (.agg (scrA s'))∧Cpy w' s' S s:=by
 refine (refCopyO_any h hn hm).mono ?_
 rintro e w' ⟨hb,s',rfl,h1,h2,h3,h4,h5⟩
 exact ⟨hb,s',rfl,h1,h4,h5,⟨_,h2⟩,⟨_,h3⟩⟩
open Go.RowKit
def RdNewPost (zs:List Int) (w:World) (e:Ending) (w':World):Prop :=
 ∃ r A n c,e=.returned (.pointer (some ⟨r,0,none⟩))∧Rd 72 w.heap.size w' r A n c zs 0∧Below w.heap.size w w'
theorem new_any {w:World} {A:Option Addr} {n c:Nat} {zs:List Int} (h:Sb w A n zs) (hn:n≤140737488355328) :
  Calls Tryz.prog 19 #[.slice A n c] w (RdNewPost zs w):=by
 go_enter Tryz.func19,Tryz.ntmps19
 go_wp2_with fail
 refine (clone_any h hn).mono ?_
 rintro e w1 ⟨v,rfl,A1,n1,c1,rfl,hm⟩
 have HM:=Lib.hid hm
 clear hm
 go_wp2
 have hm:=HM.out
 have hs:=hm.below.size
 have HP:RdNewPost zs w (.returned (.pointer (some ⟨w1.heap.size,0,none⟩))) (w1.alloc (.cells #[.slice A1 n1 c1,.int .i64 0] 72)) :=
  ⟨w1.heap.size,A1,n1,c1,rfl,⟨heap_alloc_new _ _,hm.sb.alloc _,hm.le,hm.max,hs,fun ad hA=>by subst hA;exact own_block hm.own⟩,hm.below.alloc hs _⟩
 go_ret
 exact HP
def TakePost (base:Nat) (w:World) (r:Nat) (q:List Int × List Int × Int) (e':Ending) (w':World):Prop :=
 ∃ v,e'=.returned v∧Fresh 5 q.1 w v w'∧RdTo 72 base w r q.2.1 q.2.2 w'
theorem take_any {base:Nat} {w:World} {r:Nat} {A:Option Addr} {m c:Nat} {zs:List Int} {e:Int} (h:Rd 72 base w r A m c zs e) (hm:m≤140737488355328) (n:Int) (hn:n≤9223372036854775807) :
  Calls Tryz.prog 36 #[.pointer (some ⟨r,0,none⟩),.int .i64 n] w (TakePost base w r (take1 zs e n)):=by
 have hl:=Lib.hid h.sb.len
 by_cases h0:e=0
 · subst h0
   by_cases h1:n<0
   · have HP:TakePost base w r (take1 zs 0 n) (.returned (.slice none 0 0)) (w.setCell ⟨r,1,none⟩ (.int .i64 1)):=by
      unfold take1;rw [if_neg (by simp),if_pos h1];exact ⟨_,rfl,Fresh.nil _ _ _,RdTo.err h 1⟩
     have hc0:=h.cell0
     have hc1:=h.cell1
     have hf:=h.free 1
     go_enter Tryz.func36,Tryz.ntmps36
     go_wp2_with (go_at_call 58;refine (reads_any h).mono ?_;rintro e w' ⟨rfl,rfl⟩)
     go_ret
     exact HP
   · by_cases h2:(m:Int)<n
     · have HP:TakePost base w r (take1 zs 0 n) (.returned (.slice none 0 0)) (w.setCell ⟨r,1,none⟩ (.int .i64 2)):=by
        unfold take1;rw [if_neg (by simp),if_neg h1,hl.out,if_pos h2];exact ⟨_,rfl,Fresh.nil _ _ _,RdTo.err h 2⟩
       have hc0:=h.cell0
       have hc1:=h.cell1
       have hf:=h.free 1
       go_enter Tryz.func36,Tryz.ntmps36
       go_wp2_with (go_at_call 58;refine (reads_any h).mono ?_;rintro e w' ⟨rfl,rfl⟩)
       go_ret
       exact HP
     · obtain ⟨k,rfl⟩:∃ k:Nat,n=k:=⟨n.toNat,by omega⟩
       have hk:k≤m:=by omega
       have hmc:=h.le
       have hcm:=h.max
       unfold maxLen at hcm
       have hc0:=h.cell0
       go_enter Tryz.func36,Tryz.ntmps36
       go_wp2_with (go_at_call 58;refine (reads_any h).mono ?_;rintro e w' ⟨rfl,rfl⟩)
       refine (clone_any (h.sb.front hk) (by omega)).mono ?_
       rintro e w1 ⟨v,rfl,A1,n1,c1,rfl,hm1⟩
       have hr1:=h.below hm1.below
       have hd0:=hr1.cell0
       have hf:=hr1.free 0
       have HM:=Lib.hid hm1
       clear hm1 hc0
       have HP:TakePost base w r (take1 zs 0 k) (.returned (.slice A1 n1 c1)) (w1.setCell ⟨r,0,none⟩ (.slice (if c=k then A else A.map (·.add k)) (m-k) (c-k))):=by
        unfold take1;rw [if_neg (by simp),if_neg (by omega),hl.out,if_neg (by omega)]
        exact ⟨_,rfl,⟨A1,n1,c1,rfl,HM.out.fresh.setCell h.lt _⟩,⟨_,_,_,hr1.setRest hk⟩,grownBy_trans (grownBy_below HM.out.below) (grownBy_set _ _ _)⟩
       by_cases hck:c=k
       · rw [if_pos hck] at HP
         subst hck
         obtain rfl:m=c:=by omega
         simp only [Nat.sub_self] at HP
         go_wp2
         all_goals first | (exfalso;omega) | (go_ret;exact HP)
       · rw [if_neg hck] at HP
         go_wp2
         all_goals first | (exfalso;omega) | (go_ret;exact HP)
 · have HP:TakePost base w r (take1 zs e n) (.returned (.slice none 0 0)) w:=by
    unfold take1;rw [if_pos h0];exact ⟨_,rfl,Fresh.nil _ _ _,RdTo.refl h⟩
   have H:(e == 0)=false:=by simpa using h0
   clear h0
   go_enter Tryz.func36,Tryz.ntmps36
   go_wp2_with (go_at_call 58;refine (reads_any h).mono ?_;rintro e w' ⟨rfl,rfl⟩)
   go_ret
   exact HP
open Go.RowKit
theorem pow256_le {i j:Nat} (h:i≤j):(256:Int) ^ i≤256 ^ j:=by
 have h1:(256:Nat) ^ i≤256 ^ j:=Nat.pow_le_pow_right (by omega) h
 have h2:((256 ^ i:Nat):Int)≤((256 ^ j:Nat):Int):=Int.ofNat_le.2 h1
 simpa using h2
theorem shl_step {acc d:Int} (h0:0≤acc) (h1:acc<72057594037927936) (h2:0≤d) (h3:d≤255):bits .or .u64 (acc*256) d=acc*256+d:=by
 rw [u64_or _ _ (by omega) (by omega) h2 (by omega),nat_join 8]
 · omega
 · omega
 · omega
def NumPost (base:Nat) (w:World) (r:Nat) (q:Int × List Int × Int) (e':Ending) (w':World):Prop :=
 e'=.returned (.int .u64 q.1)∧RdTo 72 base w r q.2.1 q.2.2 w'
theorem rnum_any {base:Nat} {w:World} {r:Nat} {A:Option Addr} {m c:Nat} {zs:List Int} {e:Int} (h:Rd 72 base w r A m c zs e) (hu:U8s zs) (hm:m≤140737488355328) (n:Int) (hn:n≤9223372036854775807) :
  Calls Tryz.prog 33 #[.pointer (some ⟨r,0,none⟩),.int .i64 n] w (NumPost base w r (num1 zs e n)):=by
 by_cases h0:e=0
 · subst h0
   by_cases h1:1≤n∧n≤8
   · have hb:decide (1≤n∧n≤8)=true:=by simpa using h1
     have hq:=Lib.hid (num1_of_take (zs:=zs) (n:=n) (by omega))
     go_enter Tryz.func33,Tryz.ntmps33
     go_wp2_with (first
      | (go_at_call 58;refine (reads_any h).mono ?_;rintro e w' ⟨rfl,rfl⟩)
      | (go_at_call 59;refine (sizeMay_any _ _).mono ?_;rintro e w' ⟨rfl,rfl⟩))
     refine (take_any h hm n hn).mono ?_
     rintro e w1 ⟨v,rfl,⟨A1,n1,c1,rfl,hf⟩,hto⟩
     have HP:NumPost base w r (num1 zs 0 n) (.returned (.int .u64 (valL 0 (take1 zs 0 n).1))) w1:=by
      rw [hq.out];exact ⟨rfl,hto⟩
     have hl:=Lib.hid hf.len
     have hlen:=take1_len zs (n:=n) (by omega)
     have hu1:U8s (take1 zs 0 n).1:=fun z hz=>hu z (take1_mem hz)
     obtain ⟨ys,hys⟩:∃ ys,ys=(take1 zs 0 n).1:=⟨_,rfl⟩
     rw [← hys] at hf hl HP hlen hu1
     have hsb:=hf.sb
     have hn1:n1≤8:=by have:=hl.out;omega
     clear hys hto hf hlen hq hb h1 hn
     go_wp2
     go_loop [21,5] (fun i x=>∃ k:Nat,k≤n1∧i=.int .i64 k∧x=.int .u64 (valL 0 (ys.take k))) (fun i _=>n1-(intOf i).toNat)
     case atStart=>exact ⟨0,Nat.zero_le _,rfl,rfl⟩
     case round =>
      obtain ⟨k,hk,rfl,rfl⟩:=hrel
      by_cases hlt:k<n1
      · obtain ⟨ad,rfl⟩:=hsb.addr (by omega)
        have hc:=hsb.cell hlt
        have hd:=hu1.getD k
        have hstep:=valL_step (zs:=ys) (k:=k) (by have:=hl.out;omega)
        have hbd:=valL_bound (zs:=ys.take k) (fun z hz=>hu1 z (List.mem_of_mem_take hz)) 0 (by omega)
        have hpow:=pow256_le (i:=(ys.take k).length) (j:=7) (by simp;omega)
        have e7:(256:Int) ^ 7=72057594037927936:=by decide
        rw [e7] at hpow
        obtain ⟨d,hd'⟩:∃ d,d=ys.getD k 0:=⟨_,rfl⟩
        rw [← hd'] at hc hd hstep
        obtain ⟨acc,ha⟩:∃ acc,acc=valL 0 (ys.take k):=⟨_,rfl⟩
        rw [← ha] at hbd hstep ⊢
        obtain ⟨hb1,hb2⟩:=hbd
        have hb3:acc<72057594037927936:=by omega
        obtain ⟨hd1,hd2⟩:=hd
        have HS:=Lib.hid (hstep.trans (shl_step hb1 hb3 hd1 hd2).symm)
        clear hstep hpow hb2 hd' ha e7
        go_wp2
        go_round
        case rel=>exact ⟨k+1,by omega,by go_num,by rw [HS.out]⟩
        case measure=>simp [intOf];omega
      · have hz:ys.take k=ys:=List.take_of_length_le (by have:=hl.out;omega)
        rw [hz]
        clear hz
        go_wp2
        go_ret
        exact HP
   · have hb:decide (1≤n∧n≤8)=false:=by simpa using h1
     have HP:NumPost base w r (num1 zs 0 n) (.returned (.int .u64 0)) (w.setCell ⟨r,1,none⟩ (.int .i64 1)):=by
      unfold num1;rw [if_neg (by simp),if_pos (by omega)];exact ⟨rfl,RdTo.err h 1⟩
     have hc1:=h.cell1
     have hf:=h.free 1
     go_enter Tryz.func33,Tryz.ntmps33
     go_wp2_with (first
      | (go_at_call 58;refine (reads_any h).mono ?_;rintro e w' ⟨rfl,rfl⟩)
      | (go_at_call 59;refine (sizeMay_any _ _).mono ?_;rintro e w' ⟨rfl,rfl⟩))
     go_ret
     exact HP
 · have HP:NumPost base w r (num1 zs e n) (.returned (.int .u64 0)) w:=by
    unfold num1;rw [if_pos h0];exact ⟨rfl,RdTo.refl h⟩
   have H:(e == 0)=false:=by simpa using h0
   clear h0
   go_enter Tryz.func33,Tryz.ntmps33
   go_wp2_with (go_at_call 58;refine (reads_any h).mono ?_;rintro e w' ⟨rfl,rfl⟩)
   go_ret
   exact HP
open Go.RowKit
structure Rz (base r:Nat) (zs:List Int) (e:Int) (w:World):Prop where
 rd:∃ A n c,Rd 72 base w r A n c zs e
 u8:U8s zs
 len:zs.length≤140737488355328
theorem Rz.below {base r:Nat} {zs:List Int} {e:Int} {w w':World} (h:Rz base r zs e w) (hb:Below w.heap.size w w'):Rz base r zs e w':=⟨by obtain ⟨A,n,c,h1⟩:=h.rd;exact ⟨A,n,c,h1.below hb⟩,h.u8,h.len⟩
theorem Rz.lt {base r:Nat} {zs:List Int} {e:Int} {w:World} (h:Rz base r zs e w):r<w.heap.size:=by obtain ⟨A,n,c,h1⟩:=h.rd;exact h1.lt
theorem Rz.lo {base r:Nat} {zs:List Int} {e:Int} {w:World} (h:Rz base r zs e w):base≤r:=by obtain ⟨A,n,c,h1⟩:=h.rd;exact h1.lo
theorem Rz.grown {base r:Nat} {zs:List Int} {e:Int} {w w':World} (h:Rz base r zs e w) {g:Nat} (hg:w.grownBy w' (some g)) (hne:g<base∨r<g):Rz base r zs e w' :=
 ⟨by obtain ⟨A,n,c,h1⟩:=h.rd;exact ⟨A,n,c,h1.stay hg.size fun k h2 h3=>hg.block k (Nat.lt_of_le_of_lt h3 h1.lt) (by intro e;injection e with e;omega)⟩,h.u8,h.len⟩
theorem num1_rest (zs:List Int) (e n:Int):(num1 zs e n).2.1=zs∨(num1 zs e n).2.1=zs.drop n.toNat:=by
 unfold num1
 split
 · exact .inl rfl
 · split
   · exact .inl rfl
   · split
     · exact .inl rfl
     · exact .inr rfl
theorem num1_u8 {zs:List Int} (h:U8s zs) (e n:Int):U8s (num1 zs e n).2.1:=by
 rcases num1_rest zs e n with h1 | h1<;>rw [h1]
 · exact h
 · exact fun z hz=>h z (List.mem_of_mem_drop hz)
theorem num1_len (zs:List Int) (e n:Int):(num1 zs e n).2.1.length≤zs.length:=by
 rcases num1_rest zs e n with h1 | h1<;>rw [h1]
 · exact Nat.le_refl _
 · rw [List.length_drop];omega
theorem num1_bd {zs:List Int} (h:U8s zs) (e:Int) (k:Nat):0≤(num1 zs e k).1∧(num1 zs e k).1<256 ^ k:=by
 have h0:(0:Int)<256 ^ k:=Int.pow_pos (by omega)
 unfold num1
 split
 · exact ⟨Int.le_refl _,h0⟩
 · split
   · exact ⟨Int.le_refl _,h0⟩
   · split
     · exact ⟨Int.le_refl _,h0⟩
     · rename_i h3
       have h1:=valL_bound (zs:=zs.take k) (fun z hz=>h z (List.mem_of_mem_take hz)) 0 (by omega)
       have e1:(zs.take k).length=k:=by rw [List.length_take];omega
       rw [e1] at h1
       rw [Int.toNat_natCast]
       refine ⟨h1.1,?_⟩
       have:=h1.2
       omega
theorem num1_err {zs:List Int} {e:Int} (h:e≠0) (n:Int):num1 zs e n=(0,zs,e):=by unfold num1;rw [if_pos h]
theorem num1_short {zs:List Int} {k:Nat} (h1:1≤k) (h8:k≤8) (h:zs.length<k):num1 zs 0 k=(0,zs,2):=by unfold num1;rw [if_neg (by simp),if_neg (by omega),if_pos (by omega)]
theorem num1_ok {zs:List Int} {k:Nat} (h1:1≤k) (h8:k≤8) (h:k≤zs.length):num1 zs 0 k=(valL 0 (zs.take k),zs.drop k,0):=by unfold num1;rw [if_neg (by simp),if_neg (by omega),if_neg (by omega),Int.toNat_natCast]
theorem rzNum_any {base r:Nat} {zs:List Int} {e:Int} {w:World} (h:Rz base r zs e w) (k:Nat) (hk:k≤8) :
  Calls Tryz.prog 33 #[.pointer (some ⟨r,0,none⟩),.int .i64 (k:Int)] w fun e' w'=>e'=.returned (.int .u64 (num1 zs e k).1)∧Rz base r (num1 zs e k).2.1 (num1 zs e k).2.2 w'∧w.grownBy w' (some r):=by
 obtain ⟨A,n,c,hr⟩:=h.rd
 refine (rnum_any hr h.u8 (by have:=hr.sb.len;have:=h.len;omega) (k:Int) (by omega)).mono ?_
 rintro e' w' ⟨h1,⟨A',n',c',h2⟩,h3⟩
 exact ⟨h1,⟨⟨A',n',c',h2⟩,num1_u8 h.u8 _ _,Nat.le_trans (num1_len _ _ _) h.len⟩,h3⟩
set_option maxHeartbeats 1600000 in
set_option maxRecDepth 100000 in
theorem readByte_any {base r:Nat} {zs:List Int} {e:Int} {w:World} (h:Rz base r zs e w) :
  Calls Tryz.prog 32 #[.pointer (some ⟨r,0,none⟩)] w fun e' w'=>e'=.returned (.int .i64 (num1 zs e 1).1)∧Rz base r (num1 zs e 1).2.1 (num1 zs e 1).2.2 w'∧w.grownBy w' (some r):=by
 have P:=Lib.hid (rzNum_any h 1 (by omega))
 have hb:=num1_bd h.u8 e 1
 have e1:((1:Nat):Int)=1:=rfl
 rw [e1] at P hb
 obtain ⟨q,hq⟩:∃ q,num1 zs e 1=q:=⟨_,rfl⟩
 rw [hq] at P hb ⊢
 obtain ⟨v,z,f⟩:=q
 have hv:IntKind.i64.wrap v=v:=by rw [IntKind.wrap_i64];have:=hb.1;have:=hb.2;simp at *;omega
 clear hb hq h e1
 go_enter Tryz.func32,Tryz.ntmps32
 go_wp2_with fail
 refine P.out.mono ?_
 rintro e' w' ⟨rfl,h1,h2⟩
 have H:=Lib.hid (And.intro h1 h2)
 clear h1 h2
 dsimp only
 go_wp2_with fail
 go_ret
 exact ⟨rfl,H.out.1,H.out.2⟩
end Go.Proofs.YtikhknnhmnopbaaGreatDoor
