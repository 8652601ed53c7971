/-
  Part 51 of what the laws of emul want: EmulIn, EmulFx.
-/
import Derived.Test.YtlcipgdnpilkfaaGreatDoorPm36
import Derived.Test.YtlcipgdnpilkfaaGreatDoorPm43
import Derived.Test.YtlcipgdnpilkfaaGreatDoorPm50
namespace Go.Proofs.YtlcipgdnpilkfaaGreatDoor
open Go.ChangeShapes Go.WideShapes Go.ChangeAt Go.RowKit Go.Deep
theorem cellsScr:Tryz.prog.cellsOf 56=9:=by kernel_rfl
theorem cellsTxs:Tryz.prog.cellsOf 35=1:=by kernel_rfl
theorem cellsU8S:Tryz.prog.cellsOf 5=1:=by kernel_rfl
section
variable {H:Type} {enc:TypeId × Value→H} {W:World} {base:Nat} {v:Value} {d:DataW H} {p:List MemPlace}
set_option maxRecDepth 100000 in
theorem texts_in {fuel:Nat} {cs:List Value} {x:DataW H × List MemPlace} (hw:∀ y∈x.1.weights Tryz.prog 35,y≤reachBytes) (hf:DataW.trod enc Tryz.prog W 0 (fun _=>true) true fuel 35 cs=some x) :
  ∃ A n c L,cs=[.slice A n c]∧Vs stV W A n L∧(∀ s∈L,s.size≤140737488351232)∧n≤c∧c≤maxLen:=by
 rcases open_strings Tryz.underlying35 Tryz.underlying9 cellsStr hf with ⟨hcs,_⟩ | ⟨a,len,cap,ss,hcs,_,hl,hm,hz,hx,hcell,hsz⟩
 · exact ⟨none,0,0,[],hcs,Vs.nil _ _,(fun _ h=>by cases h),Nat.le_refl _,by unfold maxLen;omega⟩
 · have hzl:ss.length=cap:=by simpa using hz
   have hlen:(ss.take len).length=len:=by simp;omega
   subst hx
   have key:∀ y∈((strs (H:=H) (ss.take len)).length+(strs (H:=H) (ss.drop len)).length)*16 :: (DataW.weightsAll Tryz.prog 9 (strs (H:=H) (ss.take len)) ++ DataW.weightsAll Tryz.prog 9 (strs (H:=H) (ss.drop len))),y≤reachBytes:=by
    intro y hy
    refine hw y ?_
    simp only [DataW.weights,Tryz.underlying35,bytesStr]
    exact hy
   refine ⟨some a,len,cap,ss.take len,hcs,⟨hlen,fun hn=>⟨a,rfl,?_,fun j v hj=>?_⟩⟩,fun s hs=>?_,hl,hm⟩
   · have h0:=hcell 0 (by omega)
     have:=World.block_lt_of_cell? W _ h0
     rwa [addBlock] at this
   · have hjl:=(List.getElem?_eq_some_iff.1 hj).1
     rw [rowT_len,hlen] at hjl
     rw [rowT_get (by rw [hlen];exact hjl)] at hj
     injection hj with hj
     rw [hcell j (by omega),← hj]
     congr 2
     unfold sAt
     simp only [List.getD,List.getElem?_take,if_pos hjl]
     rfl
   · have:=key _ (List.mem_cons_of_mem _ (List.mem_append_left _ (weights_strs hs)))
     unfold reachBytes at this
     simpa using this
set_option maxRecDepth 100000 in
theorem open_screen (hw:∀ x∈d.weights Tryz.prog 56,x≤reachBytes) (hv:Value.okWide Tryz.prog W .any base 56 v) (h:DataW.Trod enc Tryz.prog W 0 (fun _=>true) true 56 v d p) :
  ∃ (s:ScR) (S:Sc),v=.agg (scrA s)∧ScIn W s S:=by
 obtain ⟨cs,rfl,hsz⟩:=okWide_struct Tryz.underlying56 hv
 obtain ⟨cs⟩:=cs
 match cs,hsz.trans cellsScr with
 | [v0,v1,v2,v3,v4,v5,v6,v7,v8],_ =>
  obtain ⟨fuel,hf0⟩:=h
  obtain ⟨ys,n1,hn1,hys,_,hyl,hf⟩:=DataW.trod_struct Tryz.underlying56 hf0
  match ys,hyl with
  | [y0,y1,y2,y3,y4,y5,y6,y7,y8],_ =>
   have f0:DataW.trod enc Tryz.prog W 0 (fun _=>true) true n1 3 [v0]=some y0:=by simpa [Value.cells,cells_i] using hf 0 _ rfl
   have f1:DataW.trod enc Tryz.prog W 0 (fun _=>true) true n1 3 [v1]=some y1:=by simpa [Value.cells,cells_i] using hf 1 _ rfl
   have f2:DataW.trod enc Tryz.prog W 0 (fun _=>true) true n1 24 [v2]=some y2:=by simpa [Value.cells,cellsSl] using hf 2 _ rfl
   have f3:DataW.trod enc Tryz.prog W 0 (fun _=>true) true n1 3 [v3]=some y3:=by simpa [Value.cells,cells_i] using hf 3 _ rfl
   have f4:DataW.trod enc Tryz.prog W 0 (fun _=>true) true n1 3 [v4]=some y4:=by simpa [Value.cells,cells_i] using hf 4 _ rfl
   have f5:DataW.trod enc Tryz.prog W 0 (fun _=>true) true n1 4 [v5]=some y5:=by simpa [Value.cells,cellsBool] using hf 5 _ rfl
   have f6:DataW.trod enc Tryz.prog W 0 (fun _=>true) true n1 5 [v6]=some y6:=by simpa [Value.cells,cellsU8S] using hf 6 _ rfl
   have f7:DataW.trod enc Tryz.prog W 0 (fun _=>true) true n1 9 [v7]=some y7:=by simpa [Value.cells,cellsStr] using hf 7 _ rfl
   have f8:DataW.trod enc Tryz.prog W 0 (fun _=>true) true n1 35 [v8]=some y8:=by simpa [Value.cells,cellsTxs] using hf 8 _ rfl
   simp only [Prod.mk.injEq,List.map_cons,List.map_nil] at hys
   have hd:=hys.1
   have hW:∀ x∈DataW.weightsEach Tryz.prog [3,3,24,3,3,4,5,9,35] [y0.1,y1.1,y2.1,y3.1,y4.1,y5.1,y6.1,y7.1,y8.1],x≤reachBytes:=by
    intro x hx
    refine hw x ?_
    rw [hd]
    simp only [DataW.weights,Tryz.underlying56]
    exact hx
   obtain ⟨c0,e0,_,_⟩:=DataW.trod_int Tryz.underlying3 f0
   obtain ⟨c1,e1,_,_⟩:=DataW.trod_int Tryz.underlying3 f1
   obtain ⟨A,n,k,L,e2,h2,hQ,hk1,hk2⟩:=rows_in (Q:=fun c:Ce=>0≤c.p.lk∧c.p.lk≤65535) ceV_len (by omega) _ _ Tryz.underlying24 cellsCe (fun _ _ _ ht=>trod_cellL ht) f2
   obtain ⟨c3,e3,_,_⟩:=DataW.trod_int Tryz.underlying3 f3
   obtain ⟨c4,e4,_,_⟩:=DataW.trod_int Tryz.underlying3 f4
   obtain ⟨c5,e5,_⟩:=DataW.trod_bool Tryz.underlying4 f5
   obtain ⟨c6,e6,_,_⟩:=DataW.trod_int Tryz.underlying5 f6
   obtain ⟨c7,e7,hx7,_⟩:=DataW.trod_string Tryz.underlying9 f7
   have hw8:∀ x∈y8.1.weights Tryz.prog 35,x≤reachBytes:=fun x hx=>hW x (by simp only [DataW.weightsEach,List.mem_append];simp [hx])
   have hw7:c7.size≤140737488351232:=by
    have:=hW c7.data.toList.length (by simp only [DataW.weightsEach,List.mem_append];simp [hx7,DataW.weights])
    unfold reachBytes at this
    simpa using this
   obtain ⟨T,m,q,K,e8,h8,hs8,hm1,hm2⟩:=texts_in hw8 f8
   injection e0 with e0
   injection e1 with e1
   injection e3 with e3
   injection e4 with e4
   injection e5 with e5
   injection e6 with e6
   injection e7 with e7
   injection e8 with e8
   subst e0 e1 e2 e3 e4 e5 e6 e7 e8
   exact ⟨⟨c0,c1,A,n,k,c3,c4,c5,c6,c7,T,m,q⟩,⟨c0,c1,L,c3,c4,c5,c6,sL c7,K⟩,rfl,⟨rfl,rfl,rfl,rfl,rfl,rfl,rfl,h2,h8,hk1,Nat.le_trans hk1 (Nat.le_trans hk2 (by unfold maxLen;omega)),hm1,hQ,hs8,hw7⟩⟩
end
open Go.RowKit
def fxT1:Tm:=(tmNew 4 2).feed [97,98,99,100]
def fxT2:Tm:=fxT1.feed [101]
theorem fx_u4:U8s [97,98,99,100]:=fun z hz=>by simp at hz;omega
theorem fx_u1:U8s [101]:=fun z hz=>by simp at hz;omega
theorem fx_o1:TmOk fxT1:=TmOk.feed _ (TmOk.fresh (by decide) (by decide) (by decide) (by decide))
theorem fx_1:fxT1.screen.cells.length=8∧fxT1.screen.x=3∧fxT1.screen.y=0:=by decide +kernel
theorem fx_2:fxT2.screen.cells.length=8∧fxT2.screen.x=1∧fxT2.screen.y=1∧(cAt fxT2.screen.cells 3).r=100∧(cAt fxT2.screen.cells 4).r=101:=by decide +kernel
def scZ0:Sc:=⟨0,0,[],0,0,false,0,[],[]⟩
def scR0:ScR:=⟨0,0,none,0,0,0,0,false,0,⟨#[]⟩,none,0,0⟩
theorem sc0_in (w:World):ScIn w scR0 scZ0:=⟨rfl,rfl,rfl,rfl,rfl,rfl,rfl,Vs.nil _ _,Vs.nil _ _,Nat.le_refl _,by show (0:Nat)≤_;omega,Nat.le_refl _,(fun x hx=>by cases hx),(fun u hu=>by cases hu),by show (0:Nat)≤_;omega⟩
theorem sc0_right:rightSc scZ0=false:=by
 rw [right_is]
 simp [scZ0]
theorem lit_u8 (w:World) (zs:List Int) (n:Nat) (cs:Array Value) (fr:Nat × Nat) (hc:cs.toList=zs.map (Value.int .u8)) (hl:zs.length=n):Sb (w.alloc (.cells cs 5 fr)) (some ⟨w.heap.size,0,none⟩) n zs:=by
 refine ⟨hl,fun _=>⟨_,rfl,by simp,fun k hk=>?_⟩⟩
 rw [addHead,cell_of_row _ _ k _ _ _ (heap_alloc_new w _)]
 have h1:cs[k]?=cs.toList[k]?:=by simp
 rw [h1,hc,List.getElem?_map,getD_lt (by omega),List.getElem?_eq_getElem (by omega)]
 rfl
theorem Pz.lower {B B':Nat} {w:World} {g:Nat} {s:PaS} {S:Nat→Prop} (h:Pz B w g s S) (hB:B'≤B) (ht:TabB B'):Pz B' w g s S:=by
 obtain ⟨_,r,hp,hr,e⟩:=h
 exact ⟨ht,r,⟨hp.blk,Nat.le_trans hB hp.gB,hp.dc,Nat.le_trans hB hp.dB,own_base hp.num hB,own_base hp.txt hB⟩,hr,e⟩
theorem Cz.lower {B B':Nat} {w:World} {g:Nat} {x:CT} (h:Cz B w g x) (hB:B'≤B) (ht:TabB B'):Cz B' w g x :=
 { h with gB:=Nat.le_trans hB h.gB,mB:=Nat.le_trans hB h.mB,oB:=Nat.le_trans hB h.oB,p:=h.p.lower hB ht,b:=h.b.lower hB }
structure Lw (w0 w:World) (g:Nat) (x:CT) (t:Tm):Prop where
 bel:Below w0.heap.size w0 w
 cz:Cz w0.heap.size w g x
 tm:x.t=t
 sane:Sane t
section
variable {w0 w:World} {g:Nat} {x:CT} {t:Tm}
theorem Lw.below (h:Lw w0 w g x t) {w':World} (hb:Below w.heap.size w w'):Lw w0 w' g x t:=⟨h.bel.trans (hb.mono h.bel.size),h.cz.below hb,h.tm,h.sane⟩
theorem Lw.step (h:Lw w0 w g x t) {w':World} {t':Tm} {y:CT} (k:CzTo w0.heap.size g x t' w w' y) (hs:Sane t'):Lw w0 w' g y t':=⟨h.bel.trans k.out.bel,k.cz,k.t,hs⟩
theorem Lw.tabs (h:Lw w0 w g x t) (hT:Tabs w0):Tabs w:=hT.below h.bel (Nat.le_refl _)
theorem new_lw (hT:Tabs w0) (hb:Below w0.heap.size w0 w) {c r:Nat} (h1:1≤c) (h2:c≤80) (h3:1≤r) (h4:r≤24):Calls Tryz.prog 30 #[.int .i64 c,.int .i64 r] w fun e w'=>Below w.heap.size w w'∧∃ g x,e=.returned (.tuple #[.pointer (some ⟨g,0,none⟩),.int .i64 0])∧Lw w0 w' g x (tmNew c r)∧∀ q,CB g x q→w.heap.size≤q:=by
 refine (newT_any (hT.below hb (Nat.le_refl _)) c r).mono ?_
 rintro e w' ⟨hb1,h⟩
 rcases h with ⟨_,B,g,x,rfl,hB,hz,ht⟩ | ⟨h,_⟩
 · rw [Int.toNat_natCast,Int.toNat_natCast] at ht
   exact ⟨hb1,g,x,rfl,⟨hb.trans (hb1.mono hb.size),hz.lower (Nat.le_trans hb.size hB) hT.bound,ht,Sane.fresh c r⟩,fun q hq=>Nat.le_trans hB (hz.lo q hq)⟩
 · exfalso
   unfold sizeOk at h
   have:=of_decide_eq_false h
   exact this (by omega)
theorem feed_lw (hT:Tabs w0) (h:Lw w0 w g x t) {A:Option Addr} {n c:Nat} {zs:List Int} (hs:Sb w A n zs) (h8:U8s zs) (hn:n≤1000000) (hoff:∀ ad,A=some ad→0<n→¬ CB g x ad.block):Calls Tryz.prog 15 #[.pointer (some ⟨g,0,none⟩),.slice A n c] w fun e w'=>e=.returned (.tuple #[])∧∃ y,Lw w0 w' g y (t.feed zs)∧CzTo w0.heap.size g x (t.feed zs) w w' y:=by
 have hx:=h.tm
 have hss:=h.sane
 rw [← hx] at hss
 refine (feedT_any (h.tabs hT) h.cz hss hs h8 hn hoff).mono ?_
 rintro e w' ⟨rfl,y,hy⟩
 rw [hx] at hy hss
 exact ⟨rfl,y,h.step hy (Sane.feed zs hss h8),hy⟩
theorem screen_lw (h:Lw w0 w g x t):Calls Tryz.prog 18 #[.pointer (some ⟨g,0,none⟩)] w fun e w'=>Below w.heap.size w w'∧∃ s:ScR,e=.returned (.agg (scrA s))∧ScOwn w.heap.size w' s t.screen:=by
 have hx:=h.tm
 have hss:=h.sane
 rw [← hx] at hss
 have:=screenS_any h.cz hss
 rw [hx] at this
 exact this
end
set_option maxHeartbeats 6400000 in
set_option maxRecDepth 100000 in
theorem fixedE_any {w:World} (hT:Tabs w):Calls Tryz.prog 23 #[] w fun e w'=>e=.returned (.bool true)∧Below w.heap.size w w':=by
 have HT:=Lib.hid hT
 have HN:=Lib.hid (new_lw (c:=4) (r:=2) hT (Below.refl _ _) (by decide) (by decide) (by decide) (by decide))
 have kc:=fun (w:World) (C:Array Value) (n c:Nat)=>Lib.run_convert_bytes_const (P:=Tryz.prog) w 36 5 C n c Tryz.underlying36 Tryz.underlying5
 clear hT
 go_enter Tryz.func23,Tryz.ntmps23
 go_wp2_with fail
 refine HN.out.mono ?_
 rintro e w1 ⟨hb1,g,x,rfl,hL,_⟩
 have L1:=Lib.hid hL
 clear hb1 hL
 obtain ⟨w2,hw2⟩:∃ w2,w2=w1.alloc (.cells #[.int .u8 97,.int .u8 98,.int .u8 99,.int .u8 100] 5 (4,5)):=⟨_,rfl⟩
 obtain ⟨b2,hb2⟩:∃ b2,b2=w1.heap.size:=⟨_,rfl⟩
 have H2:=Lib.hid (show Below w1.heap.size w1 w2∧Sb w2 (some ⟨b2,0,none⟩) 4 [97,98,99,100] from by rw [hw2,hb2];exact ⟨(Below.refl _ _).alloc (Nat.le_refl _) _,lit_u8 w1 _ 4 _ _ rfl rfl⟩)
 have HF:=Lib.hid (feed_lw (c:=4) HT.out (L1.out.below H2.out.1) H2.out.2 fx_u4 (by decide) (fun ad e _ hq=>by injection e with e;rw [← e] at hq;exact Nat.lt_irrefl _ (by rw [hb2] at hq;exact L1.out.cz.hi _ hq)))
 go_wp2_with fail
 rw [← hw2,← hb2]
 clear hw2 hb2
 refine HF.out.mono ?_
 rintro e w3 ⟨rfl,y,hy,_⟩
 have L3:=Lib.hid hy
 clear hy
 go_wp2_with fail
 refine (screen_lw L3.out).mono ?_
 rintro e w4 ⟨hb4,s,rfl,hs4⟩
 obtain ⟨b5,hb5⟩:∃ b5,b5=w4.heap.size:=⟨_,rfl⟩
 obtain ⟨w5,hw5⟩:∃ w5,w5=w4.alloc (.cells (scrA s) 56):=⟨_,rfl⟩
 have HB5:=Lib.hid (show w3.heap.size≤b5 from by rw [hb5];exact hb4.size)
 have hb45:Below w4.heap.size w4 w5:=by rw [hw5];exact (Below.refl _ _).alloc (Nat.le_refl _) _
 have S5:=Lib.hid (show ScC w5 b5 s∧ScOwn w3.heap.size w5 s fxT1.screen∧Lw w w5 g y fxT1 from ⟨by rw [hw5,hb5];exact ScC.new w4 s,hs4.below hb45,(L3.out.below hb4).below hb45⟩)
 clear hb4 hs4 hb45
 unfold scrA at hw5 ⊢
 go_upto_region 6 with fail
 rw [← hw5,← hb5]
 clear hw5 hb5
 obtain ⟨w6,hw6⟩:∃ w6,w6=w5.alloc (.cells #[.int .u8 101] 5 (1,2)):=⟨_,rfl⟩
 obtain ⟨b6,hb6⟩:∃ b6,b6=w5.heap.size:=⟨_,rfl⟩
 have H6:=Lib.hid (show Below w5.heap.size w5 w6∧Sb w6 (some ⟨b6,0,none⟩) 1 [101] from by rw [hw6,hb6];exact ⟨(Below.refl _ _).alloc (Nat.le_refl _) _,lit_u8 w5 _ 1 _ _ rfl rfl⟩)
 have HF2:=Lib.hid (feed_lw (c:=1) HT.out (S5.out.2.2.below H6.out.1) H6.out.2 fx_u1 (by decide) (fun ad e _ hq=>by injection e with e;rw [← e] at hq;exact Nat.lt_irrefl _ (by rw [hb6] at hq;exact S5.out.2.2.cz.hi _ hq)))
 go_wp2_with fail
 rw [← hw6,← hb6]
 clear hw6 hb6
 refine HF2.out.mono ?_
 rintro e w7 ⟨rfl,z,hz,hstep⟩
 have L7:=Lib.hid hz
 -- the first screen stays
 have S7:=Lib.hid (show ScC w7 b5 s∧ScIn w7 s fxT1.screen∧s.n≤1920∧s.m≤16 from by
  obtain ⟨h1,h2,h3⟩:=S5.out
  have hk:∀ q,q<w5.heap.size→¬ CB g y q→w7.heap[q]?=w5.heap[q]?:=fun q hq hS=>(hstep.out.keep q (Nat.lt_of_lt_of_le hq H6.out.1.size) hS).trans (H6.out.1.block q hq)
  have hsz:w5.heap.size≤w7.heap.size:=Nat.le_trans H6.out.1.size hstep.out.bel.size
  have hCB:∀ q,w3.heap.size≤q→¬ CB g y q:=fun q hq hS=>by have:=L3.out.cz.hi q hS;omega
  refine ⟨h1.keep hsz (hk b5 h1.lt (hCB b5 HB5.out)),{ h2.sc with cells:=?_,links:=?_ },h2.n,h2.m⟩
  · refine h2.sc.cells.keep hsz fun p hn hA hp=>World.cell?_of_block (hk _ hp (hCB _ ?_))
    obtain ⟨q,e,hq,_⟩:=h2.cx.own hn
    rw [e] at hA
    injection hA with hA
    rw [← hA]
    exact hq
  · refine h2.sc.links.keep hsz fun p hn hA hp=>World.cell?_of_block (hk _ hp (hCB _ ?_))
    obtain ⟨q,e,hq,_⟩:=h2.tx.blk hn
    rw [e] at hA
    injection hA with hA
    rw [← hA]
    exact hq)
 clear hz hstep
 go_wp2_with fail
 refine (screen_lw L7.out).mono ?_
 rintro e w8 ⟨hb8,s2,rfl,hs8⟩
 obtain ⟨b9,hb9⟩:∃ b9,b9=w8.heap.size:=⟨_,rfl⟩
 obtain ⟨w9,hw9⟩:∃ w9,w9=w8.alloc (.cells (scrA s2) 56):=⟨_,rfl⟩
 have hb89:Below w8.heap.size w8 w9:=by rw [hw9];exact (Below.refl _ _).alloc (Nat.le_refl _) _
 have hb79:Below w7.heap.size w7 w9:=hb8.trans (hb89.mono hb8.size)
 have S9:=Lib.hid (show ScC w9 b9 s2∧ScOwn w7.heap.size w9 s2 fxT2.screen∧Below w.heap.size w w9∧ScC w9 b5 s∧ScIn w9 s fxT1.screen from ⟨by rw [hw9,hb9];exact ScC.new w8 s2,hs8.below hb89,L7.out.bel.trans (hb79.mono L7.out.bel.size),S7.out.1.below hb79,S7.out.2.1.below hb79⟩)
 clear hb8 hs8 hb89 hb79
 unfold scrA at hw9 ⊢
 go_upto_region 8 with fail
 rw [← hw9,← hb9]
 clear hw9 hb9
 have f1:=fx_1
 have f2:=fx_2
 have i1:=S9.out.2.2.2.2
 have i2:=S9.out.2.1.sc
 have q0:s.n=8:=by rw [← i1.cells.len];exact f1.1
 have q1:s.x=3:=by rw [← i1.x];exact f1.2.1
 have q2:s.y=0:=by rw [← i1.y];exact f1.2.2
 have r0:s2.n=8:=by rw [← i2.cells.len];exact f2.1
 have r1:s2.x=1:=by rw [← i2.x];exact f2.2.1
 have r2:s2.y=1:=by rw [← i2.y];exact f2.2.2.1
 obtain ⟨ad,had,_,_⟩:=S9.out.2.1.cx.own (by omega)
 have hv2:=i2.cells
 rw [had] at hv2
 have k3:=(hv2.six (k:=3) (by omega)).c0
 have k4:=(hv2.six (k:=4) (by omega)).c0
 rw [addH,f2.2.2.2.1] at k3
 rw [addH,f2.2.2.2.2] at k4
 have a0:=S9.out.2.2.2.1.c0
 have a1:=S9.out.2.2.2.1.c1
 have a2:=S9.out.2.2.2.1.c2
 have a3:=S9.out.2.2.2.1.c3
 have a4:=S9.out.2.2.2.1.c4
 have a5:=S9.out.2.2.2.1.c5
 have a6:=S9.out.2.2.2.1.c6
 have a7:=S9.out.2.2.2.1.c7
 have a8:=S9.out.2.2.2.1.c8
 have d2:=S9.out.1.c2
 have d3:=S9.out.1.c3
 have d4:=S9.out.1.c4
 rw [q0] at a2
 rw [q1] at a3
 rw [q2] at a4
 rw [r0,had] at d2
 rw [r1] at d3
 rw [r2] at d4
 have HRA:=Lib.hid (rightT_any (s:=s) (HT.out.below S9.out.2.2.1 (Nat.le_refl _)) i1 (by omega) (by have:=S7.out.2.2.2;omega))
 rw [show rightSc fxT1.screen=true from screen_right fx_o1] at HRA
 unfold scrA at HRA
 rw [q0,q1,q2] at HRA
 clear f1 f2 i1 i2 q0 q1 q2 r0 r1 r2 hv2 had
 go_wp2_with fail
 refine HRA.out.mono ?_
 rintro e w10 ⟨rfl,hb10⟩
 have HBX:=Lib.hid (S9.out.2.2.1.trans (hb10.mono S9.out.2.2.1.size))
 clear hb10 a0 a1 a2 a3 a4 a5 a6 a7 a8 d2 d3 d4 k3 k4
 have HRZ:=Lib.hid (rightT_any (s:=scR0) (HT.out.below HBX.out (Nat.le_refl _)) (sc0_in w10) (by decide) (by decide))
 rw [sc0_right] at HRZ
 unfold scrA scR0 at HRZ
 go_wp2_with fail
 refine HRZ.out.mono ?_
 rintro e w11 ⟨rfl,hb11⟩
 have HBY:=Lib.hid (HBX.out.trans (hb11.mono HBX.out.size))
 clear hb11
 go_wp2_with fail
 go_ret
 exact ⟨rfl,HBY.out⟩
end Go.Proofs.YtlcipgdnpilkfaaGreatDoor
