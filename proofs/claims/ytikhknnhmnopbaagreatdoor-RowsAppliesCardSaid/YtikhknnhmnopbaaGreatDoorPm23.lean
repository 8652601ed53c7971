/-
  Part 23 of what the laws of emul want: RowsFixed, LinksIn, GridOpen, EmulIn, ColorIn, ProjIn, RowsIn, RowsRead.
-/
import Derived.SliceStrings
import Derived.ChangeMaps5
import Derived.StillTailTactics
import Derived.Deep.RegionHeld3
import Derived.Maps.RangeWalk
import Derived.LoopTactic
import Derived.Test.YtikhknnhmnopbaaGreatDoorRows
import Derived.Lib.LaidU8
import Derived.Lib.LaidTab
import Derived.LaidMore
import Derived.Lay
import Derived.Stop.Joined
import Derived.Handed
import Derived.Test.YtikhknnhmnopbaaGreatDoorPm01
import Derived.Test.YtikhknnhmnopbaaGreatDoorPm02
import Derived.Test.YtikhknnhmnopbaaGreatDoorPm05
import Derived.Test.YtikhknnhmnopbaaGreatDoorPm06
import Derived.Test.YtikhknnhmnopbaaGreatDoorPm09
import Derived.Test.YtikhknnhmnopbaaGreatDoorPm13
import Derived.Test.YtikhknnhmnopbaaGreatDoorPm14
import Derived.Test.YtikhknnhmnopbaaGreatDoorPm15
import Derived.Test.YtikhknnhmnopbaaGreatDoorPm19
import Derived.Test.YtikhknnhmnopbaaGreatDoorPm21
import Derived.Test.YtikhknnhmnopbaaGreatDoorPm22
namespace Go.Proofs.YtikhknnhmnopbaaGreatDoor
open Go.RowKit
set_option maxRecDepth 100000 in
theorem great16_any (s:ScR) (w:World):Calls Tryz.prog 5 #[.agg (scrA s)] w fun e w'=>e=.returned (.bool (greatS s))∧Below w.heap.size w w':=by
 obtain ⟨G,hG⟩:∃ G,greatS s=G:=⟨_,rfl⟩
 rw [hG]
 have HG:=Lib.hid hG
 clear hG
 obtain ⟨b,hb⟩:∃ b,b=w.heap.size:=⟨_,rfl⟩
 obtain ⟨w1,hw1⟩:∃ w1,w1=w.alloc (.cells (scrA s) 25):=⟨_,rfl⟩
 have H1:=Lib.hid (show Sx w1 b s∧Below w.heap.size w w1 from by
  rw [hw1,hb]
  exact ⟨Sx.new w s,(Below.refl _ _).alloc (Nat.le_refl _) _⟩)
 obtain ⟨a0,a1,a2,a3,a4,a5,a6,a7,a8,_⟩:=sx_cells H1.out.1
 clear a0 a1 a3 a4 a5 a6
 unfold scrA at hw1 ⊢
 by_cases h1:3000<s.n
 · have e:G=true:=by rw [← HG.out];simp [greatS,h1]
   subst e
   go_enter Tryz.func5,Tryz.ntmps5
   go_upto_region 1 with fail
   rw [← hw1,← hb]
   clear hw1 hb
   go_wp2_with fail
   go_ret
   exact ⟨rfl,H1.out.2⟩
 · by_cases h2:1000<s.ttl.size
   · have e:G=true:=by rw [← HG.out];simp [greatS,h2]
     subst e
     go_enter Tryz.func5,Tryz.ntmps5
     go_upto_region 1 with fail
     rw [← hw1,← hb]
     clear hw1 hb
     go_wp2_with fail
     go_ret
     exact ⟨rfl,H1.out.2⟩
   · by_cases h3:1000<s.m
     · have e:G=true:=by rw [← HG.out];simp [greatS,h3]
       subst e
       go_enter Tryz.func5,Tryz.ntmps5
       go_upto_region 1 with fail
       rw [← hw1,← hb]
       clear hw1 hb
       go_wp2_with fail
       go_ret
       refine ⟨?_,H1.out.2⟩
       simp
       omega
     · have e:G=false:=by rw [← HG.out];simp [greatS];omega
       subst e
       go_enter Tryz.func5,Tryz.ntmps5
       go_upto_region 1 with fail
       rw [← hw1,← hb]
       clear hw1 hb
       go_wp2_with fail
       go_ret
       refine ⟨?_,H1.out.2⟩
       simp
       omega
def axL:List Ce:=[⟨97,0,pn0⟩,⟨32,0,pn0⟩]
def axS:Sc:={ blS 2 1 with cells:=axL }
theorem w97:widthS 97=1:=by decide +kernel
theorem ax_row:RowOk axL:=by
 refine ⟨by decide,by decide,fun i hi=>?_⟩
 have hp:penMayS pn0=true:=by decide
 have h2:i=0∨i=1:=by have:axL.length=2:=rfl;omega
 rcases h2 with rfl | rfl
 · refine ⟨?_,(fun h=>by cases h),(fun h=>by cases h)⟩
   show cellMay ⟨97,0,pn0⟩=true
   unfold cellMay
   simp [hp,w97]
 · refine ⟨?_,(fun h=>by cases h),(fun h=>by cases h)⟩
   show cellMay ⟨32,0,pn0⟩=true
   unfold cellMay
   simp [hp,w32]
theorem ax_right:rightSc axS=true:=by
 have hk:Gk 2 1 [axL]:=by
  refine ⟨⟨rfl,fun y hy=>?_⟩,by decide,by decide,by decide,by decide,fun y hy=>?_⟩
  · have e:y=0:=by omega
    subst e
    rfl
  · have e:y=0:=by omega
    subst e
    exact ax_row
 have hg:gridMay (2:Nat) (1:Nat) [axL].flatten=true:=hk.may
 have ho:ordS axL []=true:=ord_none fun c hc=>by
  rcases List.mem_cons.1 hc with rfl | hc
  · rfl
  · obtain rfl:=List.mem_singleton.1 hc
    rfl
 unfold rightSc
 have e1:gridMay axS.c axS.r axS.cells=true:=hg
 have e2:ordS axS.cells axS.links=true:=ho
 rw [e1,e2]
 decide
theorem ax_pos:PosC axS.cells:=fun c hc=>by
 rcases List.mem_cons.1 hc with rfl | hc
 · exact ⟨by decide,by decide⟩
 · obtain rfl:=List.mem_singleton.1 hc
   exact ⟨by decide,by decide⟩
theorem ax_st:StC axS.cells:=fun c hc=>by
 rcases List.mem_cons.1 hc with rfl | hc
 · exact ⟨by decide,by decide⟩
 · obtain rfl:=List.mem_singleton.1 hc
   exact ⟨by decide,by decide⟩
theorem ax_fits:fitsS axS=true:=fits_yes ax_right rfl rfl fun c hc=>by
 rcases List.mem_cons.1 hc with rfl | hc
 · rfl
 · obtain rfl:=List.mem_singleton.1 hc
   rfl
theorem bl_fits {c r:Nat} (h1:1≤c) (h2:c≤80) (h3:1≤r) (h4:r≤24):fitsS (blS c r)=true:=fits_yes (bl_right h1 h2 h3 h4) rfl rfl fun x hx=>by rw [bl_mem x hx];rfl
def exD:List Int:=[2,1,0,0,0,1,0,0,0,0,97,0,0,0,0,0,0,0,0,32,0,0,0,0,0]
theorem ax_enc:encR (blS 2 1) axS=(exD,0):=by
 unfold encR
 rw [if_pos ⟨bl_fits (by decide) (by decide) (by decide) (by decide),ax_fits⟩,if_pos ⟨rfl,rfl⟩]
 decide
set_option maxHeartbeats 6400000 in
set_option maxRecDepth 100000 in
theorem fixed16_any {w:World} (hT:Tabs w):Calls Tryz.prog 6 #[] w fun e w'=>e=.returned (.bool true)∧Below w.heap.size w w':=by
 have HT:=Lib.hid (fun w' (hb':Below w.heap.size w w')=>hT.below hb' (Nat.le_refl _))
 clear hT
 go_enter Tryz.func6,Tryz.ntmps6
 go_wp2_with fail
 refine (rBlank_any 2 1).mono ?_
 rintro e w1 ⟨hb1,⟨_,s,rfl,hS⟩ | ⟨hs,_⟩⟩
 rotate_left
 · exact absurd hs (by rw [ex_size];simp)
 replace hS:ScOwn w.heap.size w1 s (blS 2 1):=hS
 obtain ⟨bs,hbs⟩:∃ bs,bs=w1.heap.size:=⟨_,rfl⟩
 obtain ⟨w2,hw2⟩:∃ w2,w2=w1.alloc (.cells (scrA s) 25):=⟨_,rfl⟩
 have H2:=Lib.hid (show Sx w2 bs s∧Below w.heap.size w w2∧ScOwn w.heap.size w2 s (blS 2 1) from by
  have hb2:Below w1.heap.size w1 w2:=by rw [hw2];exact (Below.refl _ _).alloc (Nat.le_refl _) _
  exact ⟨by rw [hw2,hbs];exact Sx.new w1 s,hb1.trans (hb2.mono hb1.size),hS.below hb2⟩)
 have HM1:=Lib.hid (And.intro hS.m hS.n)
 clear hS hb1
 unfold scrA at hw2 ⊢
 go_upto_region 2 with fail
 rw [← hw2,← hbs]
 clear hw2 hbs
 go_wp2_with fail
 refine (rBlank_any 2 1).mono ?_
 rintro e w3 ⟨hb3,⟨_,q,rfl,hQ⟩ | ⟨hs,_⟩⟩
 rotate_left
 · exact absurd hs (by rw [ex_size];simp)
 replace hQ:ScOwn w2.heap.size w3 q (blS 2 1):=hQ
 have hl:q.n=2:=by rw [← hQ.sc.cells.len];rfl
 obtain ⟨g,hA,hg,hc2,hR⟩:=hQ.cx.two hl
 obtain ⟨bq,hbq⟩:∃ bq,bq=w3.heap.size:=⟨_,rfl⟩
 obtain ⟨w4,hw4⟩:∃ w4,w4=w3.alloc (.cells (scrA q) 25):=⟨_,rfl⟩
 have H4:=Lib.hid (show Sx w4 bs s∧Sx w4 bq q∧Below w2.heap.size w2 w4∧Rw ceV 43 w4 g [blankS pn0,blankS pn0]∧g<bq∧ScOwn w2.heap.size w4 q (blS 2 1) from by
  have hb4:Below w3.heap.size w3 w4:=by rw [hw4];exact (Below.refl _ _).alloc (Nat.le_refl _) _
  have h24:Below w2.heap.size w2 w4:=hb3.trans (hb4.mono hb3.size)
  exact ⟨H2.out.1.below h24,by rw [hw4,hbq];exact Sx.new w3 q,h24,hR.below hb4,by rw [hbq];exact hR.lt,hQ.below hb4⟩)
 have HG:=Lib.hid (And.intro hg hc2)
 have HL:=Lib.hid hl
 have HM:=Lib.hid hQ.m
 have HA:=Lib.hid hA
 clear hQ hR hb3 hg hc2 hA hl
 unfold scrA at hw4 ⊢
 go_upto_region 3 with fail
 rw [← hw4,← hbq]
 clear hw4 hbq
 have c2:=(sx_cells H4.out.2.1).c2
 rw [HL.out,HA.out] at c2
 obtain ⟨w5,hw5⟩:∃ w5,w5=w4.setCell ⟨g,0,none⟩ (.int .i32 97):=⟨_,rfl⟩
 have H5:=Lib.hid (show Sx w5 bs s∧Sx w5 bq q∧Below w.heap.size w w5∧ScIn w5 s (blS 2 1)∧ScIn w5 q axS from by
  have hg5:w4.grownBy w5 (some g):=by rw [hw5];exact grownBy_set w4 ⟨g,0,none⟩ _
  have hb5:Below w2.heap.size w2 w5:=H4.out.2.2.1.grown hg5 H4.out.2.2.1.size (fun k hk=>by injection hk with hk;have:=HG.out.1;omega)
  have hR:Rw ceV 43 w5 g axL:=by
   obtain ⟨rest,h⟩:=H4.out.2.2.2.1
   refine ⟨rest,?_⟩
   rw [hw5,heap_setCell_same w4 g 0 _ _ _ h]
   rfl
  have hv:=hR.vs
  have hgq:=H4.out.2.2.2.2.1
  refine ⟨H2.out.1.below hb5,H4.out.2.1.grown hg5 (by intro e;injection e with e;omega),H2.out.2.1.trans (hb5.mono H2.out.2.1.size),H2.out.2.2.sc.below hb5,?_⟩
  have hl:Vs stV w5 q.T q.m []:=⟨by have:=H4.out.2.2.2.2.2.sc.links.len;exact this,fun hn=>absurd H4.out.2.2.2.2.2.sc.links.len (by show ¬ (0=q.m);omega)⟩
  have hk:∀ x∈axS.cells,0≤x.p.lk∧x.p.lk≤65535:=fun x hx=>by
   rcases List.mem_cons.1 hx with rfl | hx
   · exact ⟨by decide,by decide⟩
   · obtain rfl:=List.mem_singleton.1 hx
     exact ⟨by decide,by decide⟩
  have hc:Vs ceV w5 q.A q.n axL:=by rw [HL.out,HA.out];exact hv
  exact { H4.out.2.2.2.2.2.sc with cells:=hc,links:=hl,lk:=hk })
 have hfz:=H4.out.2.2.2.1.free 0
 have hc0:w4.cell? ⟨g,0,none⟩=some (.int .i32 32):=H4.out.2.2.2.1.cell (j:=0) rfl
 go_upto_region 4 with fail
 rw [← hw5]
 clear hw5 c2 H4 H2 hfz hc0
 have PE:=Lib.hid (cEncode_any (HT.out _ H5.out.2.2.1) (Got.mk H5.out.2.2.2.1 (bl_pos 2 1) (by decide) (by have:=HM1.out.2;omega) (by have:=HM1.out.1;omega)) (Got.mk H5.out.2.2.2.2 ax_pos (by decide) (by rw [HL.out];omega) (by have:=HM.out;omega)) ax_st)
 rw [ax_enc] at PE
 obtain ⟨a0,a1,a2,a3,a4,a5,a6,a7,a8,_⟩:=sx_cells H5.out.1
 obtain ⟨d0,d1,d2,d3,d4,d5,d6,d7,d8,_⟩:=sx_cells H5.out.2.1
 unfold scrA at PE
 go_wp2_with fail
 refine PE.out.mono ?_
 rintro e w6 ⟨hb6,A6,c6,rfl,hy6⟩
 have H6:=Lib.hid (show Below w.heap.size w w6∧By w5.heap.size w6 A6 25 c6 exD from ⟨H5.out.2.2.1.trans (hb6.mono H5.out.2.2.1.size),hy6⟩)
 clear a0 a1 a2 a3 a4 a5 a6 a7 a8 d0 d1 d2 d3 d4 d5 d6 d7 d8 PE hb6 hy6
 rw [show (exD,(0:Int)).1.length=25 from rfl,show (exD,(0:Int)).2=0 from rfl]
 go_upto_region 5 with fail
 obtain ⟨w7,hw7⟩:∃ w7,w7=w6.alloc (.cells #[.int .u8 2,.int .u8 1,.int .u8 0,.int .u8 0,.int .u8 0,.int .u8 1,.int .u8 0,.int .u8 0,.int .u8 0,.int .u8 0,.int .u8 97,.int .u8 0,.int .u8 0,.int .u8 0,.int .u8 0,.int .u8 0,.int .u8 0,.int .u8 0,.int .u8 0,.int .u8 32,.int .u8 0,.int .u8 0,.int .u8 0,.int .u8 0,.int .u8 0] 5):=⟨_,rfl⟩
 obtain ⟨g7,hg7⟩:∃ g7,g7=w6.heap.size:=⟨_,rfl⟩
 have H7:=Lib.hid (show Below w.heap.size w w7∧Sb w7 A6 25 exD∧Sb w7 (some ⟨g7,0,none⟩) 25 exD from by
  have hb7:Below w6.heap.size w6 w7:=by rw [hw7];exact (Below.refl _ _).alloc (Nat.le_refl _) _
  exact ⟨H6.out.1.trans (hb7.mono H6.out.1.size),H6.out.2.sb.below hb7,by rw [hw7,hg7];exact (By.lit w6 exD 25 _ rfl rfl (by omega)).sb⟩)
 go_wp2_with fail
 rw [← hw7,← hg7]
 clear hw7 hg7 H6
 refine (refSame_any H7.out.2.1 H7.out.2.2 (by omega) (by omega)).mono ?_
 rintro e w8 ⟨rfl,q8,rfl⟩
 rw [decide_eq_true rfl]
 go_wp2_with fail
 go_ret
 exact ⟨rfl,belowN H7.out.1 q8⟩
open Go.ChangeShapes Go.WideShapes Go.ChangeAt Go.RowKit Go.Deep
theorem cellsStr:Tryz.prog.cellsOf 9=1:=by kernel_rfl
theorem bytesStr:Tryz.prog.bytesOf 9=16:=by kernel_rfl
theorem cellsBool:Tryz.prog.cellsOf 4=1:=by kernel_rfl
theorem weights_strs {H:Type} {P:Program} {e:TypeId} {ss:List ByteArray} {s:ByteArray} (h:s∈ss):s.data.toList.length∈DataW.weightsAll P e (strs (H:=H) ss):=by
 induction ss with
 | nil=>cases h
 | cons a ss ih =>
  show _∈DataW.weights P e (.lit (.string a.data.toList)) ++ DataW.weightsAll P e (strs ss)
  rcases List.mem_cons.1 h with rfl | h
  · exact List.mem_append_left _ (by simp [DataW.weights])
  · exact List.mem_append_right _ (ih h)
section
variable {H:Type} {enc:TypeId × Value→H} {W:World} {base fuel:Nat} {spare:Nat→Bool} {held:Bool} {cs:List Value} {x:DataW H × List MemPlace}
set_option maxRecDepth 100000 in
theorem trod_cellL (h:DataW.trod enc Tryz.prog W base spare held fuel 43 cs=some x):∃ c:Ce,cs=ceV c∧0≤c.p.lk∧c.p.lk≤65535:=by
 obtain ⟨c,rfl⟩:=trod_cell h
 refine ⟨c,rfl,?_⟩
 obtain ⟨ys,n1,hn1,hys,hcl,hyl,hf⟩:=DataW.trod_struct Tryz.underlying43 h
 match ys,hyl with
 | [y0,y1,y2],_ =>
  have f2:DataW.trod enc Tryz.prog W base spare held n1 41 [.int .u32 c.p.fg,.int .u32 c.p.bg,.int .u8 c.p.st,.int .u16 c.p.lk]=some y2:=by simpa [cellsPn,ceV] using hf 2 _ rfl
  obtain ⟨zs,n2,hn2,hzs,hcl2,hzl,hf2⟩:=DataW.trod_struct Tryz.underlying41 f2
  match zs,hzl with
  | [z0,z1,z2,z3],_ =>
   have f3:DataW.trod enc Tryz.prog W base spare held n2 39 [.int .u16 c.p.lk]=some z3:=by simpa [cells_16] using hf2 3 _ rfl
   obtain ⟨d,e3,_,w3⟩:=DataW.trod_int Tryz.underlying39 f3
   injection e3 with e3
   injection e3 with _ e3
   rw [e3]
   exact bounds_u16 w3
end
open Go.ChangeShapes Go.WideShapes Go.ChangeAt Go.RowKit Go.Deep
theorem cellsSl:Tryz.prog.cellsOf 22=1:=by kernel_rfl
theorem rows_in {α:Type} {f:α→List Value} {d0:Nat} (hf:∀ a,(f a).length=d0) (hd:0<d0) {Q:α→Prop} {H:Type} {enc:TypeId × Value→H} {W:World} {v:Value} {fuel:Nat} {x:DataW H × List MemPlace} (t e:TypeId) (ht:Tryz.prog.underlying t=some (.slice e)) (he:Tryz.prog.cellsOf e=d0)
  (htrod:∀ (fuel:Nat) (cs:List Value) (x:DataW H × List MemPlace),DataW.trod enc Tryz.prog W 0 (fun _=>true) true fuel e cs=some x→∃ a:α,cs=f a∧Q a)
  (hx:DataW.trod enc Tryz.prog W 0 (fun _=>true) true fuel t [v]=some x) :
  ∃ A n c L,v=.slice A n c∧Vs f W A n L∧(∀ a∈L,Q a)∧n≤c∧c≤maxLen:=by
 rcases open_slice ht hx with ⟨hcs,_⟩ | ⟨a,n,cap,m,n1,D,Pl,hcs,hb,hl,hm,hmm,_,hi⟩
 · simp at hcs
   subst hcs
   exact ⟨none,0,0,[],rfl,Vs.nil _ _,(fun _ h=>by cases h),Nat.le_refl _,by unfold maxLen;omega⟩
 · simp at hcs
   subst hcs
   simp only [if_true] at hmm
   subst hmm
   obtain ⟨L,h1,h2,h3⟩:=vs_of hf (w:=W) (ad:=a) (Q:=Q) n fun k hk=>by
    obtain ⟨cs',hc,ht'⟩:=hi k (by omega)
    rw [he] at hc
    obtain ⟨_,hcl,hat⟩:=World.cells?_some hc
    obtain ⟨q,e1,hq⟩:=htrod _ _ _ ht'
    refine ⟨q,hq,fun j v hj=>?_⟩
    have hjl:j<d0:=by
     have:=(List.getElem?_eq_some_iff.1 hj).1
     rwa [hf] at this
    rw [← Go.Deep.add_add,hat j hjl,e1]
    exact hj
   refine ⟨some a,n,_,L,rfl,⟨h1,fun hn=>⟨a,rfl,?_,h3⟩⟩,h2,hl,hm⟩
   have hr:0<(rowV f L).length:=by rw [rowV_len hf,h1];exact Nat.mul_pos hn hd
   have h0:=h3 0 _ (List.getElem?_eq_getElem hr)
   have:=World.block_lt_of_cell? W _ h0
   rwa [addBlock] at this
open Go.ChangeShapes Go.WideShapes Go.ChangeAt Go.RowKit Go.Deep
theorem cellsScr:Tryz.prog.cellsOf 25=9:=by kernel_rfl
theorem cellsTxs:Tryz.prog.cellsOf 23=1:=by kernel_rfl
theorem cellsU8S:Tryz.prog.cellsOf 5=1:=by kernel_rfl
section
variable {H:Type} {enc:TypeId × Value→H} {W:World} {base:Nat} {v:Value} {d:DataW H} {p:List MemPlace}
set_option maxRecDepth 100000 in
theorem texts_in {fuel:Nat} {cs:List Value} {x:DataW H × List MemPlace} (hw:∀ y∈x.1.weights Tryz.prog 23,y≤reachBytes) (hf:DataW.trod enc Tryz.prog W 0 (fun _=>true) true fuel 23 cs=some x) :
  ∃ A n c L,cs=[.slice A n c]∧Vs stV W A n L∧(∀ s∈L,s.size≤140737488351232)∧n≤c∧c≤maxLen:=by
 rcases open_strings Tryz.underlying23 Tryz.underlying9 cellsStr hf with ⟨hcs,_⟩ | ⟨a,len,cap,ss,hcs,_,hl,hm,hz,hx,hcell,hsz⟩
 · exact ⟨none,0,0,[],hcs,Vs.nil _ _,(fun _ h=>by cases h),Nat.le_refl _,by unfold maxLen;omega⟩
 · have hzl:ss.length=cap:=by simpa using hz
   have hlen:(ss.take len).length=len:=by simp;omega
   subst hx
   have key:∀ y∈((strs (H:=H) (ss.take len)).length+(strs (H:=H) (ss.drop len)).length)*16 :: (DataW.weightsAll Tryz.prog 9 (strs (H:=H) (ss.take len)) ++ DataW.weightsAll Tryz.prog 9 (strs (H:=H) (ss.drop len))),y≤reachBytes:=by
    intro y hy
    refine hw y ?_
    simp only [DataW.weights,Tryz.underlying23,bytesStr]
    exact hy
   refine ⟨some a,len,cap,ss.take len,hcs,⟨hlen,fun hn=>⟨a,rfl,?_,fun j v hj=>?_⟩⟩,fun s hs=>?_,hl,hm⟩
   · have h0:=hcell 0 (by omega)
     have:=World.block_lt_of_cell? W _ h0
     rwa [addBlock] at this
   · have hjl:=(List.getElem?_eq_some_iff.1 hj).1
     rw [rowT_len,hlen] at hjl
     rw [rowT_get (by rw [hlen];exact hjl)] at hj
     injection hj with hj
     rw [hcell j (by omega),← hj]
     congr 2
     unfold sAt
     simp only [List.getD,List.getElem?_take,if_pos hjl]
     rfl
   · have:=key _ (List.mem_cons_of_mem _ (List.mem_append_left _ (weights_strs hs)))
     unfold reachBytes at this
     simpa using this
end
open Go.ChangeShapes Go.WideShapes Go.ChangeAt Go.RowKit
theorem wf_u32 {a:Int} (h:(Lit.int .u32 a).wf=true):0≤a∧a≤4294967295:=by
 have h2:(decide ((0:Int)≤a) && decide (a≤4294967295))=true:=h
 simpa using h2
variable {H:Type} {enc:TypeId × Value→H} {W:World} {base:Nat} {v:Value} {d:DataW H} {p:List MemPlace}
open Go.ChangeShapes Go.WideShapes Go.ChangeAt Go.RowKit Go.Deep
section
variable {H:Type} {enc:TypeId × Value→H} {W:World} {base fuel:Nat} {spare:Nat→Bool} {held:Bool} {cs:List Value} {x:DataW H × List MemPlace}
theorem cells_col:Tryz.prog.cellsOf 38=1:=by kernel_rfl
set_option maxRecDepth 100000 in
theorem trod_cellP (h:DataW.trod enc Tryz.prog W base spare held fuel 43 cs=some x):∃ c:Ce,cs=ceV c∧(0≤c.p.lk∧c.p.lk≤65535)∧(0≤c.p.fg∧0≤c.p.bg):=by
 obtain ⟨c,rfl,hl⟩:=trod_cellL h
 refine ⟨c,rfl,hl,?_⟩
 obtain ⟨ys,n1,hn1,hys,hcl,hyl,hf⟩:=DataW.trod_struct Tryz.underlying43 h
 match ys,hyl with
 | [y0,y1,y2],_ =>
  have f2:DataW.trod enc Tryz.prog W base spare held n1 41 [.int .u32 c.p.fg,.int .u32 c.p.bg,.int .u8 c.p.st,.int .u16 c.p.lk]=some y2:=by simpa [cellsPn,ceV] using hf 2 _ rfl
  obtain ⟨zs,n2,hn2,hzs,hcl2,hzl,hf2⟩:=DataW.trod_struct Tryz.underlying41 f2
  match zs,hzl with
  | [z0,z1,z2,z3],_ =>
   have f0:DataW.trod enc Tryz.prog W base spare held n2 38 [.int .u32 c.p.fg]=some z0:=by simpa [cells_col] using hf2 0 _ rfl
   have f1:DataW.trod enc Tryz.prog W base spare held n2 38 [.int .u32 c.p.bg]=some z1:=by simpa [cells_col] using hf2 1 _ rfl
   obtain ⟨d,e,_,w0⟩:=DataW.trod_int Tryz.underlying38 f0
   obtain ⟨d',e',_,w1⟩:=DataW.trod_int Tryz.underlying38 f1
   injection e with e
   injection e with _ e
   injection e' with e'
   injection e' with _ e'
   rw [e,e']
   exact ⟨(wf_u32 w0).1,(wf_u32 w1).1⟩
end
open Go.ChangeShapes Go.WideShapes Go.ChangeAt Go.RowKit Go.Deep
section
variable {H:Type} {enc:TypeId × Value→H} {W:World} {base fuel:Nat} {spare:Nat→Bool} {held:Bool} {cs:List Value} {x:DataW H × List MemPlace}
set_option maxRecDepth 100000 in
theorem trod_cellR (h:DataW.trod enc Tryz.prog W base spare held fuel 43 cs=some x):∃ c:Ce,cs=ceV c∧(0≤c.p.lk∧c.p.lk≤65535)∧((0≤c.p.fg∧0≤c.p.bg)∧(0≤c.p.st∧c.p.st≤255)):=by
 obtain ⟨c,rfl,hl,hp⟩:=trod_cellP h
 refine ⟨c,rfl,hl,hp,?_⟩
 obtain ⟨ys,n1,hn1,hys,hcl,hyl,hf⟩:=DataW.trod_struct Tryz.underlying43 h
 match ys,hyl with
 | [y0,y1,y2],_ =>
  have f2:DataW.trod enc Tryz.prog W base spare held n1 41 [.int .u32 c.p.fg,.int .u32 c.p.bg,.int .u8 c.p.st,.int .u16 c.p.lk]=some y2:=by simpa [cellsPn,ceV] using hf 2 _ rfl
  obtain ⟨zs,n2,hn2,hzs,hcl2,hzl,hf2⟩:=DataW.trod_struct Tryz.underlying41 f2
  match zs,hzl with
  | [z0,z1,z2,z3],_ =>
   have f0:DataW.trod enc Tryz.prog W base spare held n2 5 [.int .u8 c.p.st]=some z2:=by simpa [cells_col,cellsU8S] using hf2 2 _ rfl
   obtain ⟨d,e,_,w0⟩:=DataW.trod_int Tryz.underlying5 f0
   injection e with e
   injection e with _ e
   rw [e]
   exact bounds_u8 w0
end
section
variable {H:Type} {enc:TypeId × Value→H} {W:World} {base:Nat} {v:Value} {d:DataW H} {p:List MemPlace}
set_option maxRecDepth 100000 in
theorem open_screenR (hw:∀ x∈d.weights Tryz.prog 25,x≤reachBytes) (hv:Value.okWide Tryz.prog W .any base 25 v) (h:DataW.Trod enc Tryz.prog W 0 (fun _=>true) true 25 v d p) :
  ∃ (s:ScR) (S:Sc),v=.agg (scrA s)∧(ScIn W s S∧(PosC S.cells∧StC S.cells∧0≤S.mouse)):=by
 obtain ⟨cs,rfl,hsz⟩:=okWide_struct Tryz.underlying25 hv
 obtain ⟨cs⟩:=cs
 match cs,hsz.trans cellsScr with
 | [v0,v1,v2,v3,v4,v5,v6,v7,v8],_ =>
  obtain ⟨fuel,hf0⟩:=h
  obtain ⟨ys,n1,hn1,hys,_,hyl,hf⟩:=DataW.trod_struct Tryz.underlying25 hf0
  match ys,hyl with
  | [y0,y1,y2,y3,y4,y5,y6,y7,y8],_ =>
   have f0:DataW.trod enc Tryz.prog W 0 (fun _=>true) true n1 3 [v0]=some y0:=by simpa [Value.cells,cells_i] using hf 0 _ rfl
   have f1:DataW.trod enc Tryz.prog W 0 (fun _=>true) true n1 3 [v1]=some y1:=by simpa [Value.cells,cells_i] using hf 1 _ rfl
   have f2:DataW.trod enc Tryz.prog W 0 (fun _=>true) true n1 22 [v2]=some y2:=by simpa [Value.cells,cellsSl] using hf 2 _ rfl
   have f3:DataW.trod enc Tryz.prog W 0 (fun _=>true) true n1 3 [v3]=some y3:=by simpa [Value.cells,cells_i] using hf 3 _ rfl
   have f4:DataW.trod enc Tryz.prog W 0 (fun _=>true) true n1 3 [v4]=some y4:=by simpa [Value.cells,cells_i] using hf 4 _ rfl
   have f5:DataW.trod enc Tryz.prog W 0 (fun _=>true) true n1 4 [v5]=some y5:=by simpa [Value.cells,cellsBool] using hf 5 _ rfl
   have f6:DataW.trod enc Tryz.prog W 0 (fun _=>true) true n1 5 [v6]=some y6:=by simpa [Value.cells,cellsU8S] using hf 6 _ rfl
   have f7:DataW.trod enc Tryz.prog W 0 (fun _=>true) true n1 9 [v7]=some y7:=by simpa [Value.cells,cellsStr] using hf 7 _ rfl
   have f8:DataW.trod enc Tryz.prog W 0 (fun _=>true) true n1 23 [v8]=some y8:=by simpa [Value.cells,cellsTxs] using hf 8 _ rfl
   simp only [Prod.mk.injEq,List.map_cons,List.map_nil] at hys
   have hd:=hys.1
   have hW:∀ x∈DataW.weightsEach Tryz.prog [3,3,22,3,3,4,5,9,23] [y0.1,y1.1,y2.1,y3.1,y4.1,y5.1,y6.1,y7.1,y8.1],x≤reachBytes:=by
    intro x hx
    refine hw x ?_
    rw [hd]
    simp only [DataW.weights,Tryz.underlying25]
    exact hx
   obtain ⟨c0,e0,_,_⟩:=DataW.trod_int Tryz.underlying3 f0
   obtain ⟨c1,e1,_,_⟩:=DataW.trod_int Tryz.underlying3 f1
   obtain ⟨A,n,k,L,e2,h2,hQ,hk1,hk2⟩:=rows_in (Q:=fun c:Ce=>(0≤c.p.lk∧c.p.lk≤65535)∧((0≤c.p.fg∧0≤c.p.bg)∧(0≤c.p.st∧c.p.st≤255))) ceV_len (by omega) _ _ Tryz.underlying22 cellsCe (fun _ _ _ ht=>trod_cellR ht) f2
   obtain ⟨c3,e3,_,_⟩:=DataW.trod_int Tryz.underlying3 f3
   obtain ⟨c4,e4,_,_⟩:=DataW.trod_int Tryz.underlying3 f4
   obtain ⟨c5,e5,_⟩:=DataW.trod_bool Tryz.underlying4 f5
   obtain ⟨c6,e6,_,g6⟩:=DataW.trod_int Tryz.underlying5 f6
   obtain ⟨c7,e7,hx7,_⟩:=DataW.trod_string Tryz.underlying9 f7
   have hw8:∀ x∈y8.1.weights Tryz.prog 23,x≤reachBytes:=fun x hx=>hW x (by simp only [DataW.weightsEach,List.mem_append];simp [hx])
   have hw7:c7.size≤140737488351232:=by
    have:=hW c7.data.toList.length (by simp only [DataW.weightsEach,List.mem_append];simp [hx7,DataW.weights])
    unfold reachBytes at this
    simpa using this
   obtain ⟨T,m,q,K,e8,h8,hs8,hm1,hm2⟩:=texts_in hw8 f8
   injection e0 with e0
   injection e1 with e1
   injection e3 with e3
   injection e4 with e4
   injection e5 with e5
   injection e6 with e6
   injection e7 with e7
   injection e8 with e8
   subst e0 e1 e2 e3 e4 e5 e6 e7 e8
   exact ⟨⟨c0,c1,A,n,k,c3,c4,c5,c6,c7,T,m,q⟩,⟨c0,c1,L,c3,c4,c5,c6,sL c7,K⟩,rfl,⟨rfl,rfl,rfl,rfl,rfl,rfl,rfl,h2,h8,hk1,Nat.le_trans hk1 (Nat.le_trans hk2 (by unfold maxLen;omega)),hm1,fun x hx=>(hQ x hx).1,hs8,hw7⟩,fun x hx=>(hQ x hx).2.1,fun x hx=>(hQ x hx).2.2,(bounds_u8 g6).1⟩
end
def rdIn:Nat→Nat→List Ce→List Int→Except Int (List Ce × List Int)
 | 0,_,L,d=>.ok (L,d)
 | n+1,i,L,d=>if d.length<9 then .error 2 else if okC (cellOf d)=true then rdIn n (i+1) (L.set i (cellOf d)) (d.drop 9) else .error 3
theorem over_cons {L:List Ce} {i:Nat} {c:Ce} {M:List Ce} (h:i+(M.length+1)≤L.length):overS (L.set i c) (i+1) M=overS L i (c :: M):=by
 unfold overS
 have h1:(L.set i c).take (i+1)=L.take i ++ [c]:=by
  rw [List.take_add_one,List.take_set_of_le (Nat.le_refl _),List.getElem?_set_self (by omega)]
  rfl
 rw [h1,List.drop_set_of_lt (by omega),List.append_assoc,List.length_cons,show i+1+M.length=i+(M.length+1) from by omega]
 rfl
theorem over_nil (L:List Ce) (i:Nat):overS L i []=L:=by simp [overS]
theorem rdCells_len:∀ (n:Nat) (d:List Int) (M:List Ce) (t:List Int),rdCells n d=.ok (M,t)→M.length=n
 | 0,d,M,t,h=>by
  unfold rdCells at h
  injection h with h
  injection h with h1 h2
  rw [← h1];rfl
 | n+1,d,M,t,h=>by
  unfold rdCells at h
  split at h
  · cases h
  · split at h
    · split at h
      · rename_i L' t' hr
        injection h with h
        injection h with h1 h2
        rw [← h1,List.length_cons,rdCells_len n _ _ _ hr]
      · cases h
    · cases h
theorem rdIn_eq:∀ (n i:Nat) (L:List Ce) (d:List Int),i+n≤L.length →
  rdIn n i L d=match rdCells n d with
   | .ok (M,t)=>.ok (overS L i M,t)
   | .error e=>.error e
 | 0,i,L,d,_=>by
  unfold rdIn rdCells
  simp only [over_nil]
 | n+1,i,L,d,h=>by
  unfold rdIn rdCells
  by_cases h9:d.length<9
  · rw [if_pos h9,if_pos h9]
  · rw [if_neg h9,if_neg h9]
    by_cases ho:okC (cellOf d)=true
    · rw [if_pos ho,if_pos ho,rdIn_eq n (i+1) _ _ (by rw [List.length_set];omega)]
      cases hr:rdCells n (d.drop 9) with
      | error e=>rfl
      | ok p =>
       obtain ⟨M,t⟩:=p
       have hl:=rdCells_len _ _ _ _ hr
       simp only
       rw [over_cons (by omega)]
    · rw [if_neg ho,if_neg ho]
def rowsOn (c r n:Nat) (y:Int):Except Int (List Ce × List Int)→Except Int (List Ce × List Int)
 | .ok (L,t)=>rdRows c r n y L t
 | .error e=>.error e
theorem rdRows_in {c r n:Nat} {last y:Int} {L:List Ce} {t:List Int} (hl:L.length=r*c) (h1:last<y) (h2:y<(r:Int)) (h0:-1≤last) :
  rdRows c r (n+1) last L (y :: t)=rowsOn c r n y (rdIn c (y.toNat*c) L t):=by
 have hy:y.toNat+1≤r:=by omega
 have hm:=Nat.mul_le_mul_right c hy
 rw [Nat.add_mul,Nat.one_mul] at hm
 unfold rdRows
 rw [if_neg (by omega),rdIn_eq _ _ _ _ (by omega)]
 cases rdCells c t with
 | error e=>rfl
 | ok p=>rfl
theorem rdRows_off {c r n:Nat} {last y:Int} {L:List Ce} {t:List Int} (h:(r:Int)≤y∨y≤last):rdRows c r (n+1) last L (y :: t)=.error 3:=by
 unfold rdRows
 rw [if_pos h]
theorem rdRows_out (c r n:Nat) (last:Int) (L:List Ce):rdRows c r (n+1) last L []=.error 2:=rfl
theorem rdRows_none (c r:Nat) (last:Int) (L:List Ce) (d:List Int):rdRows c r 0 last L d=.ok (L,d):=by unfold rdRows;rfl
theorem rdIn_short {n i:Nat} {L:List Ce} {d:List Int} (h:d.length<9):rdIn (n+1) i L d=.error 2:=by unfold rdIn;rw [if_pos h]
theorem rdIn_bad {n i:Nat} {L:List Ce} {d:List Int} (h:¬ d.length<9) (ho:okC (cellOf d)=false):rdIn (n+1) i L d=.error 3:=by unfold rdIn;rw [if_neg h,if_neg (by rw [ho];simp)]
theorem rdIn_one {n i:Nat} {L:List Ce} {d:List Int} (h:¬ d.length<9) (ho:okC (cellOf d)=true):rdIn (n+1) i L d=rdIn n (i+1) (L.set i (cellOf d)) (d.drop 9):=by
 show (if d.length<9 then _ else if okC (cellOf d)=true then _ else _)=_
 rw [if_neg h,if_pos ho]
theorem rdIn_none (i:Nat) (L:List Ce) (d:List Int):rdIn 0 i L d=.ok (L,d):=by unfold rdIn;rfl
noncomputable def endA (s:Sc):Except Int (List Ce × List Int)→Sc × Int
 | .error e=>(scZero,e)
 | .ok (L,[])=>if fitsS { s with cells:=L }=true then ({ s with cells:=L },0) else (scZero,3)
 | .ok (_,_ :: _)=>(scZero,6)
noncomputable def restB (c r:Nat) (s:Sc):List Int→Sc × Int
 | []=>(scZero,2)
 | n :: t=>endA s (rdRows c r n.toNat (-1) s.cells t)
noncomputable def restA (c r:Nat) (fl:Int) (s:Sc) (t:List Int):Sc × Int :=
 if fl / 2 % 2=1 then
  match t with
  | []=>(scZero,2)
  | n :: t=>if (t.length:Int)<n then (scZero,2) else restB c r { s with title:=t.take n.toNat } (t.drop n.toNat)
 else restB c r s t
theorem rest_b (c r:Nat) (s:Sc) (ti:List Int) (t:List Int) :
  (match (match (Except.ok (ti,t):Except Int (List Int × List Int)) with
   | .error e=>.error e
   | .ok (_,[])=>.error 2
   | .ok (ti,n :: t) =>
    match rdRows c r n.toNat (-1) s.cells t with
    | .error e=>.error e
    | .ok (L,[])=>.ok { s with title:=ti,cells:=L }
    | .ok (_,_ :: _)=>.error 6:Except Int Sc) with
   | .error e=>(scZero,e)
   | .ok s=>if fitsS s=true then (s,0) else (scZero,3))=restB c r { s with title:=ti } t:=by
 cases t with
 | nil=>rfl
 | cons n t =>
  unfold restB
  simp only
  cases rdRows c r n.toNat (-1) s.cells t with
  | error e=>rfl
  | ok p =>
   obtain ⟨L,t⟩:=p
   cases t<;>rfl
theorem rest_a (c r:Nat) (fl:Int) (s:Sc) (t:List Int) :
  (match rdRest c r fl s t with
   | .error e=>(scZero,e)
   | .ok s=>if fitsS s=true then (s,0) else (scZero,3))=restA c r fl s t:=by
 unfold rdRest rdTitle restA
 by_cases h:fl / 2 % 2=1
 · rw [if_pos h,if_pos h]
   cases t with
   | nil=>rfl
   | cons n t =>
    simp only
    by_cases h2:(t.length:Int)<n
    · rw [if_pos h2,if_pos h2]
    · rw [if_neg h2,if_neg h2]
      exact rest_b c r s (t.take n.toNat) (t.drop n.toNat)
 · rw [if_neg h,if_neg h]
   exact rest_b c r s s.title t
theorem app_1 {a:Sc} {d:List Int} (h:fitsS a=false):applyS a d=(scZero,1):=by unfold applyS;rw [if_neg (by rw [h];simp)]
theorem app_2 {a:Sc} {d:List Int} (h:fitsS a=true) (hl:d.length<5):applyS a d=(scZero,2):=by
 unfold applyS
 rw [if_pos h]
 rcases d with _ | ⟨_,_ | ⟨_,_ | ⟨_,_ | ⟨_,_ | ⟨_,_⟩⟩⟩⟩⟩<;>first | rfl | (simp at hl;done) | (simp at hl;omega)
theorem app_3 {a:Sc} {c r x y fl:Int} {t:List Int} (h:fitsS a=true) (h3:7<fl∨sizeOk c r=false):applyS a (c :: r :: x :: y :: fl :: t)=(scZero,3):=by
 unfold applyS
 rw [if_pos h]
 simp only
 rw [if_pos h3]
theorem app_15 {a:Sc} {c r x y fl:Int} {t:List Int} (h:fitsS a=true) (h3:¬ (7<fl∨sizeOk c r=false)) (h4:fl<4∧(c≠a.c∨r≠a.r)):applyS a (c :: r :: x :: y :: fl :: t)=(scZero,15):=by
 unfold applyS
 rw [if_pos h]
 simp only
 rw [if_neg h3,if_pos h4]
theorem app_on {a:Sc} {c r x y fl:Int} {t:List Int} (h:fitsS a=true) (h3:¬ (7<fl∨sizeOk c r=false)) (h4:¬ (fl<4∧(c≠a.c∨r≠a.r))) :
  applyS a (c :: r :: x :: y :: fl :: t)=restA c.toNat r.toNat fl { (if fl<4 then a else blS c.toNat r.toNat) with x:=x,y:=y,hid:=decide (fl % 2=1) } t:=by
 rw [← rest_a]
 unfold applyS
 rw [if_pos h]
 simp only
 rw [if_neg h3,if_neg h4]
 rfl
end Go.Proofs.YtikhknnhmnopbaaGreatDoor
