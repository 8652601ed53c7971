/-
  Part 42 of what the laws of emul want: EmulFx, GridSm, EmulRefMem.
-/
import Derived.Laws.Rows
import Derived.Laws.Tables
import Derived.Test.YtlcipgdnpilkfaaGreatDoorPo14
import Derived.Test.YtlcipgdnpilkfaaGreatDoorPo15
import Derived.Test.YtlcipgdnpilkfaaGreatDoorPo16
import Derived.Test.YtlcipgdnpilkfaaGreatDoorPo17
import Derived.Test.YtlcipgdnpilkfaaGreatDoorPo41
namespace Go.Proofs.YtlcipgdnpilkfaaGreatDoor
open Go.RowKit
def fxT1:Tm:=(tmNew 4 2).feed [97,98,99,100]
def fxT2:Tm:=fxT1.feed [101]
theorem fx_u4:U8s [97,98,99,100]:=fun z hz=>by simp at hz;omega
theorem fx_u1:U8s [101]:=fun z hz=>by simp at hz;omega
theorem fx_o1:TmOk fxT1:=TmOk.feed _ (TmOk.fresh (by decide) (by decide) (by decide) (by decide))
theorem fx_1:fxT1.screen.cells.length=8∧fxT1.screen.x=3∧fxT1.screen.y=0:=by decide +kernel
theorem fx_2:fxT2.screen.cells.length=8∧fxT2.screen.x=1∧fxT2.screen.y=1∧(cAt fxT2.screen.cells 3).r=100∧(cAt fxT2.screen.cells 4).r=101:=by decide +kernel
def scZ0:Sc:=⟨0,0,[],0,0,false,0,[],[]⟩
def scR0:ScR:=⟨0,0,none,0,0,0,0,false,0,⟨#[]⟩,none,0,0⟩
theorem sc0_in (w:World):ScIn w scR0 scZ0:=⟨rfl,rfl,rfl,rfl,rfl,rfl,rfl,Vs.nil _ _,Vs.nil _ _,Nat.le_refl _,by show (0:Nat)≤_;omega,Nat.le_refl _,(fun x hx=>by cases hx),(fun u hu=>by cases hu),by show (0:Nat)≤_;omega⟩
theorem sc0_right:rightSc scZ0=false:=by
 rw [right_is]
 simp [scZ0]
theorem lit_u8 (w:World) (zs:List Int) (n:Nat) (cs:Array Value) (fr:Nat × Nat) (hc:cs.toList=zs.map (Value.int .u8)) (hl:zs.length=n):Sb (w.alloc (.cells cs 5 fr)) (some ⟨w.heap.size,0,none⟩) n zs:=by
 refine ⟨hl,fun _=>⟨_,rfl,by simp,fun k hk=>?_⟩⟩
 rw [addHead,cell_of_row _ _ k _ _ _ (heap_alloc_new w _)]
 have h1:cs[k]?=cs.toList[k]?:=by simp
 rw [h1,hc,List.getElem?_map,getD_lt (by omega),List.getElem?_eq_getElem (by omega)]
 rfl
theorem Pz.lower {B B':Nat} {w:World} {g:Nat} {s:PaS} {S:Nat→Prop} (h:Pz B w g s S) (hB:B'≤B) (ht:TabB B'):Pz B' w g s S:=by
 obtain ⟨_,r,hp,hr,e⟩:=h
 exact ⟨ht,r,⟨hp.blk,Nat.le_trans hB hp.gB,hp.dc,Nat.le_trans hB hp.dB,own_base hp.num hB,own_base hp.txt hB⟩,hr,e⟩
theorem Cz.lower {B B':Nat} {w:World} {g:Nat} {x:CT} (h:Cz B w g x) (hB:B'≤B) (ht:TabB B'):Cz B' w g x :=
 { h with gB:=Nat.le_trans hB h.gB,mB:=Nat.le_trans hB h.mB,oB:=Nat.le_trans hB h.oB,p:=h.p.lower hB ht,b:=h.b.lower hB }
structure Lw (w0 w:World) (g:Nat) (x:CT) (t:Tm):Prop where
 bel:Below w0.heap.size w0 w
 cz:Cz w0.heap.size w g x
 tm:x.t=t
 sane:Sane t
section
variable {w0 w:World} {g:Nat} {x:CT} {t:Tm}
theorem Lw.below (h:Lw w0 w g x t) {w':World} (hb:Below w.heap.size w w'):Lw w0 w' g x t:=⟨h.bel.trans (hb.mono h.bel.size),h.cz.below hb,h.tm,h.sane⟩
theorem Lw.step (h:Lw w0 w g x t) {w':World} {t':Tm} {y:CT} (k:CzTo w0.heap.size g x t' w w' y) (hs:Sane t'):Lw w0 w' g y t':=⟨h.bel.trans k.out.bel,k.cz,k.t,hs⟩
theorem Lw.tabs (h:Lw w0 w g x t) (hT:Tabs w0):Tabs w:=hT.below h.bel (Nat.le_refl _)
theorem new_lw (hT:Tabs w0) (hb:Below w0.heap.size w0 w) {c r:Nat} (h1:1≤c) (h2:c≤80) (h3:1≤r) (h4:r≤24):Calls Tryz.prog 30 #[.int .i64 c,.int .i64 r] w fun e w'=>Below w.heap.size w w'∧∃ g x,e=.returned (.tuple #[.pointer (some ⟨g,0,none⟩),.int .i64 0])∧Lw w0 w' g x (tmNew c r)∧∀ q,CB g x q→w.heap.size≤q:=by
 refine (newT_any (hT.below hb (Nat.le_refl _)) c r).mono ?_
 rintro e w' ⟨hb1,h⟩
 rcases h with ⟨_,B,g,x,rfl,hB,hz,ht⟩ | ⟨h,_⟩
 · rw [Int.toNat_natCast,Int.toNat_natCast] at ht
   exact ⟨hb1,g,x,rfl,⟨hb.trans (hb1.mono hb.size),hz.lower (Nat.le_trans hb.size hB) hT.bound,ht,Sane.fresh c r⟩,fun q hq=>Nat.le_trans hB (hz.lo q hq)⟩
 · exfalso
   unfold sizeOk at h
   have:=of_decide_eq_false h
   exact this (by omega)
theorem feed_lw (hT:Tabs w0) (h:Lw w0 w g x t) {A:Option Addr} {n c:Nat} {zs:List Int} (hs:Sb w A n zs) (h8:U8s zs) (hn:n≤1000000) (hoff:∀ ad,A=some ad→0<n→¬ CB g x ad.block):Calls Tryz.prog 15 #[.pointer (some ⟨g,0,none⟩),.slice A n c] w fun e w'=>e=.returned (.tuple #[])∧∃ y,Lw w0 w' g y (t.feed zs)∧CzTo w0.heap.size g x (t.feed zs) w w' y:=by
 have hx:=h.tm
 have hss:=h.sane
 rw [← hx] at hss
 refine (feedT_any (h.tabs hT) h.cz hss hs h8 hn hoff).mono ?_
 rintro e w' ⟨rfl,y,hy⟩
 rw [hx] at hy hss
 exact ⟨rfl,y,h.step hy (Sane.feed zs hss h8),hy⟩
theorem screen_lw (h:Lw w0 w g x t):Calls Tryz.prog 18 #[.pointer (some ⟨g,0,none⟩)] w fun e w'=>Below w.heap.size w w'∧∃ s:ScR,e=.returned (.agg (scrA s))∧ScOwn w.heap.size w' s t.screen:=by
 have hx:=h.tm
 have hss:=h.sane
 rw [← hx] at hss
 have:=screenS_any h.cz hss
 rw [hx] at this
 exact this
end
set_option maxHeartbeats 6400000 in
set_option maxRecDepth 100000 in
theorem fixedE_any {w:World} (hT:Tabs w):Calls Tryz.prog 23 #[] w fun e w'=>e=.returned (.bool true)∧Below w.heap.size w w':=by
 have HT:=Lib.hid hT
 have HN:=Lib.hid (new_lw (c:=4) (r:=2) hT (Below.refl _ _) (by decide) (by decide) (by decide) (by decide))
 have kc:=fun (w:World) (C:Array Value) (n c:Nat)=>Lib.run_convert_bytes_const (P:=Tryz.prog) w 36 5 C n c Tryz.underlying36 Tryz.underlying5
 clear hT
 go_enter Tryz.func23,Tryz.ntmps23
 go_wp2_with fail
 refine HN.out.mono ?_
 rintro e w1 ⟨hb1,g,x,rfl,hL,_⟩
 have L1:=Lib.hid hL
 clear hb1 hL
 obtain ⟨w2,hw2⟩:∃ w2,w2=w1.alloc (.cells #[.int .u8 97,.int .u8 98,.int .u8 99,.int .u8 100] 5 (4,5)):=⟨_,rfl⟩
 obtain ⟨b2,hb2⟩:∃ b2,b2=w1.heap.size:=⟨_,rfl⟩
 have H2:=Lib.hid (show Below w1.heap.size w1 w2∧Sb w2 (some ⟨b2,0,none⟩) 4 [97,98,99,100] from by rw [hw2,hb2];exact ⟨(Below.refl _ _).alloc (Nat.le_refl _) _,lit_u8 w1 _ 4 _ _ rfl rfl⟩)
 have HF:=Lib.hid (feed_lw (c:=4) HT.out (L1.out.below H2.out.1) H2.out.2 fx_u4 (by decide) (fun ad e _ hq=>by injection e with e;rw [← e] at hq;exact Nat.lt_irrefl _ (by rw [hb2] at hq;exact L1.out.cz.hi _ hq)))
 go_wp2_with fail
 rw [← hw2,← hb2]
 clear hw2 hb2
 refine HF.out.mono ?_
 rintro e w3 ⟨rfl,y,hy,_⟩
 have L3:=Lib.hid hy
 clear hy
 go_wp2_with fail
 refine (screen_lw L3.out).mono ?_
 rintro e w4 ⟨hb4,s,rfl,hs4⟩
 obtain ⟨b5,hb5⟩:∃ b5,b5=w4.heap.size:=⟨_,rfl⟩
 obtain ⟨w5,hw5⟩:∃ w5,w5=w4.alloc (.cells (scrA s) 56):=⟨_,rfl⟩
 have HB5:=Lib.hid (show w3.heap.size≤b5 from by rw [hb5];exact hb4.size)
 have hb45:Below w4.heap.size w4 w5:=by rw [hw5];exact (Below.refl _ _).alloc (Nat.le_refl _) _
 have S5:=Lib.hid (show ScC w5 b5 s∧ScOwn w3.heap.size w5 s fxT1.screen∧Lw w w5 g y fxT1 from ⟨by rw [hw5,hb5];exact ScC.new w4 s,hs4.below hb45,(L3.out.below hb4).below hb45⟩)
 clear hb4 hs4 hb45
 unfold scrA at hw5 ⊢
 go_upto_region 6 with fail
 rw [← hw5,← hb5]
 clear hw5 hb5
 obtain ⟨w6,hw6⟩:∃ w6,w6=w5.alloc (.cells #[.int .u8 101] 5 (1,2)):=⟨_,rfl⟩
 obtain ⟨b6,hb6⟩:∃ b6,b6=w5.heap.size:=⟨_,rfl⟩
 have H6:=Lib.hid (show Below w5.heap.size w5 w6∧Sb w6 (some ⟨b6,0,none⟩) 1 [101] from by rw [hw6,hb6];exact ⟨(Below.refl _ _).alloc (Nat.le_refl _) _,lit_u8 w5 _ 1 _ _ rfl rfl⟩)
 have HF2:=Lib.hid (feed_lw (c:=1) HT.out (S5.out.2.2.below H6.out.1) H6.out.2 fx_u1 (by decide) (fun ad e _ hq=>by injection e with e;rw [← e] at hq;exact Nat.lt_irrefl _ (by rw [hb6] at hq;exact S5.out.2.2.cz.hi _ hq)))
 go_wp2_with fail
 rw [← hw6,← hb6]
 clear hw6 hb6
 refine HF2.out.mono ?_
 rintro e w7 ⟨rfl,z,hz,hstep⟩
 have L7:=Lib.hid hz
 -- the first screen stays
 have S7:=Lib.hid (show ScC w7 b5 s∧ScIn w7 s fxT1.screen∧s.n≤1920∧s.m≤16 from by
  obtain ⟨h1,h2,h3⟩:=S5.out
  have hk:∀ q,q<w5.heap.size→¬ CB g y q→w7.heap[q]?=w5.heap[q]?:=fun q hq hS=>(hstep.out.keep q (Nat.lt_of_lt_of_le hq H6.out.1.size) hS).trans (H6.out.1.block q hq)
  have hsz:w5.heap.size≤w7.heap.size:=Nat.le_trans H6.out.1.size hstep.out.bel.size
  have hCB:∀ q,w3.heap.size≤q→¬ CB g y q:=fun q hq hS=>by have:=L3.out.cz.hi q hS;omega
  refine ⟨h1.keep hsz (hk b5 h1.lt (hCB b5 HB5.out)),{ h2.sc with cells:=?_,links:=?_ },h2.n,h2.m⟩
  · refine h2.sc.cells.keep hsz fun p hn hA hp=>World.cell?_of_block (hk _ hp (hCB _ ?_))
    obtain ⟨q,e,hq,_⟩:=h2.cx.own hn
    rw [e] at hA
    injection hA with hA
    rw [← hA]
    exact hq
  · refine h2.sc.links.keep hsz fun p hn hA hp=>World.cell?_of_block (hk _ hp (hCB _ ?_))
    obtain ⟨q,e,hq,_⟩:=h2.tx.blk hn
    rw [e] at hA
    injection hA with hA
    rw [← hA]
    exact hq)
 clear hz hstep
 go_wp2_with fail
 refine (screen_lw L7.out).mono ?_
 rintro e w8 ⟨hb8,s2,rfl,hs8⟩
 obtain ⟨b9,hb9⟩:∃ b9,b9=w8.heap.size:=⟨_,rfl⟩
 obtain ⟨w9,hw9⟩:∃ w9,w9=w8.alloc (.cells (scrA s2) 56):=⟨_,rfl⟩
 have hb89:Below w8.heap.size w8 w9:=by rw [hw9];exact (Below.refl _ _).alloc (Nat.le_refl _) _
 have hb79:Below w7.heap.size w7 w9:=hb8.trans (hb89.mono hb8.size)
 have S9:=Lib.hid (show ScC w9 b9 s2∧ScOwn w7.heap.size w9 s2 fxT2.screen∧Below w.heap.size w w9∧ScC w9 b5 s∧ScIn w9 s fxT1.screen from ⟨by rw [hw9,hb9];exact ScC.new w8 s2,hs8.below hb89,L7.out.bel.trans (hb79.mono L7.out.bel.size),S7.out.1.below hb79,S7.out.2.1.below hb79⟩)
 clear hb8 hs8 hb89 hb79
 unfold scrA at hw9 ⊢
 go_upto_region 8 with fail
 rw [← hw9,← hb9]
 clear hw9 hb9
 have f1:=fx_1
 have f2:=fx_2
 have i1:=S9.out.2.2.2.2
 have i2:=S9.out.2.1.sc
 have q0:s.n=8:=by rw [← i1.cells.len];exact f1.1
 have q1:s.x=3:=by rw [← i1.x];exact f1.2.1
 have q2:s.y=0:=by rw [← i1.y];exact f1.2.2
 have r0:s2.n=8:=by rw [← i2.cells.len];exact f2.1
 have r1:s2.x=1:=by rw [← i2.x];exact f2.2.1
 have r2:s2.y=1:=by rw [← i2.y];exact f2.2.2.1
 obtain ⟨ad,had,_,_⟩:=S9.out.2.1.cx.own (by omega)
 have hv2:=i2.cells
 rw [had] at hv2
 have k3:=(hv2.six (k:=3) (by omega)).c0
 have k4:=(hv2.six (k:=4) (by omega)).c0
 rw [addH,f2.2.2.2.1] at k3
 rw [addH,f2.2.2.2.2] at k4
 have a0:=S9.out.2.2.2.1.c0
 have a1:=S9.out.2.2.2.1.c1
 have a2:=S9.out.2.2.2.1.c2
 have a3:=S9.out.2.2.2.1.c3
 have a4:=S9.out.2.2.2.1.c4
 have a5:=S9.out.2.2.2.1.c5
 have a6:=S9.out.2.2.2.1.c6
 have a7:=S9.out.2.2.2.1.c7
 have a8:=S9.out.2.2.2.1.c8
 have d2:=S9.out.1.c2
 have d3:=S9.out.1.c3
 have d4:=S9.out.1.c4
 rw [q0] at a2
 rw [q1] at a3
 rw [q2] at a4
 rw [r0,had] at d2
 rw [r1] at d3
 rw [r2] at d4
 have HRA:=Lib.hid (rightT_any (s:=s) (HT.out.below S9.out.2.2.1 (Nat.le_refl _)) i1 (by omega) (by have:=S7.out.2.2.2;omega))
 rw [show rightSc fxT1.screen=true from screen_right fx_o1] at HRA
 unfold scrA at HRA
 rw [q0,q1,q2] at HRA
 clear f1 f2 i1 i2 q0 q1 q2 r0 r1 r2 hv2 had
 go_wp2_with fail
 refine HRA.out.mono ?_
 rintro e w10 ⟨rfl,hb10⟩
 have HBX:=Lib.hid (S9.out.2.2.1.trans (hb10.mono S9.out.2.2.1.size))
 clear hb10 a0 a1 a2 a3 a4 a5 a6 a7 a8 d2 d3 d4 k3 k4
 have HRZ:=Lib.hid (rightT_any (s:=scR0) (HT.out.below HBX.out (Nat.le_refl _)) (sc0_in w10) (by decide) (by decide))
 rw [sc0_right] at HRZ
 unfold scrA scR0 at HRZ
 go_wp2_with fail
 refine HRZ.out.mono ?_
 rintro e w11 ⟨rfl,hb11⟩
 have HBY:=Lib.hid (HBX.out.trans (hb11.mono HBX.out.size))
 clear hb11
 go_wp2_with fail
 go_ret
 exact ⟨rfl,HBY.out⟩
open Go.RowKit
set_option maxHeartbeats 1600000 in
theorem copyG_any {w:World} {A:Option Addr} {n k:Nat} {c r:Int} {L:List Ce} (h:Vs ceV w A n L) (hn:n≤1000000) :
  Calls Tryz.prog 74 #[.agg (gV c r A n k)] w (MadeG c r L w):=by
 obtain ⟨w0,hw0⟩:∃ w0,w0=(w.alloc (.cells (gV c r A n k) 26)).alloc (.cells (gV 0 0 none 0 0) 26):=⟨_,rfl⟩
 obtain ⟨b,hbe⟩:∃ b,b=w.heap.size:=⟨_,rfl⟩
 have H:=Lib.hid (show Gb w0 b ⟨c,r,A,n,k⟩∧Gb w0 (b+1) gr0∧Below w.heap.size w w0∧Vs ceV w0 A n L∧b=w.heap.size from by
  have h3:=gb_new (w.alloc (.cells (gV c r A n k) 26)) gr0
  rw [alloc_size] at h3
  have b3:=(below1 w (.cells (gV c r A n k) 26)).alloc (below1 w _).size (.cells (gV 0 0 none 0 0) 26)
  rw [hw0,hbe]
  exact ⟨(gb_new w ⟨c,r,A,n,k⟩).below (below1 _ _),h3,b3,h.below b3,rfl⟩)
 have HL:=Lib.hid h.len
 clear h
 obtain ⟨c0,c1,c2,_⟩:=H.out.1.g3
 unfold gV at hw0
 go_enter Tryz.func74,Tryz.ntmps74
 unfold gV
 go_upto_region 1 with fail
 rw [← hw0,← hbe]
 clear hw0 hbe
 go_wp2_with fail
 refine (copyC_any H.out.2.2.2.1 hn).mono ?_
 rintro e w1 ⟨hb,g,k2,rfl,hg,hk1,hk2,hR⟩
 rw [HL.out] at hk1 ⊢
 have X:=Lib.hid (show Gb w1 b ⟨c,r,A,n,k⟩∧Gb w1 (b+1) gr0∧Below w.heap.size w w1∧Rw ceV 66 w1 g L∧w0.heap.size≤g from ⟨H.out.1.below hb,H.out.2.1.below hb,H.out.2.2.1.trans (hb.mono H.out.2.2.1.size),hR,hg⟩)
 clear hb hg hR c0 c1 c2
 obtain ⟨c0,c1,c2,_⟩:=X.out.1.g3
 have f2:=X.out.1.rw.free 2
 have hlt:=H.out.2.1.lt
 have HS:=Lib.hid (show Gb (w1.setCell ⟨b,2,none⟩ (.slice (some ⟨g,0,none⟩) n k2)) b ⟨c,r,some ⟨g,0,none⟩,n,k2⟩∧Gb (w1.setCell ⟨b,2,none⟩ (.slice (some ⟨g,0,none⟩) n k2)) (b+1) gr0∧Below w.heap.size w (w1.setCell ⟨b,2,none⟩ (.slice (some ⟨g,0,none⟩) n k2))∧Rw ceV 66 (w1.setCell ⟨b,2,none⟩ (.slice (some ⟨g,0,none⟩) n k2)) g L from by
  have hg2:w1.grownBy (w1.setCell ⟨b,2,none⟩ (.slice (some ⟨g,0,none⟩) n k2)) (some b):=⟨rfl,rfl,rfl,by simp [World.setCell],fun i _ hne=>heap_setCell_other w1 _ i _ (fun e=>hne (by rw [e]))⟩
  have h7:=X.out.2.2.2.2
  exact ⟨(heap_setCell_same w1 _ _ _ _ _ X.out.1).trans rfl,X.out.2.1.grown hg2 (by simp),X.out.2.2.1.grown hg2 X.out.2.2.1.size (by intro k hk;injection hk with hk;have:=H.out.2.2.2.2;omega),X.out.2.2.2.1.grown hg2 (by simp;omega)⟩)
 go_upto_region 2 with fail
 generalize w1.setCell ⟨b,2,none⟩ (.slice (some ⟨g,0,none⟩) n k2)=w2 at HS ⊢
 clear c0 c1 c2 f2
 obtain ⟨c0,c1,c2,_⟩:=HS.out.1.g3
 go_wp2_with (refine wpList_store_G rfl (.tmp 2) (.tmp 7) rfl (b+1) gr0 ⟨c,r,some ⟨g,0,none⟩,n,k2⟩ rfl rfl HS.out.2.1 ?_;intro w5 hG5 hg5)
 refine bodyPost_ret (retG Tryz.results74 hG5 rfl) rfl ?_
 exact ⟨HS.out.2.2.1.grown hg5 HS.out.2.2.1.size (by intro k hk;injection hk with hk;have:=H.out.2.2.2.2;omega),g,k2,by rw [HL.out],by have:=X.out.2.2.2.2;have:=H.out.2.2.1.size;omega,by rw [HL.out];exact hk1,hk2,HS.out.2.2.2.grown hg5 (by have:=X.out.2.2.2.2;simp;omega)⟩
open Go.RowKit
structure RT where
 t:Tm
 mA:Option Addr
 mN:Nat
 mK:Nat
 oA:Option Addr
 oN:Nat
 oK:Nat
 ttl:ByteArray
 bA:Option Addr
 bN:Nat
 bK:Nat
 sn:Int
 sA:Option Addr
 sN:Nat
 sK:Nat
 dA:Option Addr
 dN:Nat
 dK:Nat
def sptV (s:Spt):List Value:=[.int .i64 s.x,.int .i64 s.y,.int .u32 s.pen.fg,.int .u32 s.pen.bg,.int .u8 s.pen.st,.int .u16 s.pen.lk,.bool s.org]
def rtV (x:RT):List Value :=
 .int .i64 x.t.c :: .int .i64 x.t.r :: .int .i64 x.t.c :: .int .i64 x.t.r :: .slice x.mA x.mN x.mK :: .int .i64 x.t.c :: .int .i64 x.t.r :: .slice x.oA x.oN x.oK :: .bool x.t.isO ::
  (sptV x.t.now ++ (sptV x.t.sav ++ (.bool x.t.full :: .int .i64 x.t.top :: .int .i64 x.t.bot :: .bool x.t.nowrap :: .bool x.t.ins :: .bool x.t.hid :: .int .i64 x.t.mouse ::
   (x.t.tabs.map Value.bool ++ [.string x.ttl,.slice x.bA x.bN x.bK,.int .i32 x.t.last,.int .i64 x.sn,.slice x.sA x.sN x.sK,.slice x.dA x.dN x.dK]))))
theorem rtV_len {x:RT} (h:x.t.tabs.length=80):(rtV x).length=116:=by simp [rtV,sptV,h]
theorem one_rt (x:RT):∀ v∈rtV x,v.oneCell'=true:=by
 intro v hv
 simp only [rtV,sptV,List.mem_cons,List.mem_append,List.mem_map,List.not_mem_nil,or_false] at hv
 rcases hv with rfl | rfl | rfl | rfl | rfl | rfl | rfl | rfl | rfl | (rfl | rfl | rfl | rfl | rfl | rfl | rfl) | (rfl | rfl | rfl | rfl | rfl | rfl | rfl) | rfl | rfl | rfl | rfl | rfl | rfl | rfl | ⟨_,_,rfl⟩ | rfl | rfl | rfl | rfl | rfl | rfl<;>rfl
def RtB (w:World) (b:Nat) (x:RT):Prop:=w.heap[b]?=some (.cells (rtV x).toArray 42 (0,0))
section
variable {w w':World} {b:Nat} {x y:RT}
theorem RtB.lt (h:RtB w b x):b<w.heap.size:=(Array.getElem?_eq_some_iff.1 h).1
theorem RtB.below (h:RtB w b x) (hb:Below w.heap.size w w'):RtB w' b x:=(hb.block b h.lt).trans h
theorem RtB.free (h:RtB w b x) (k:Nat):w.frozen? ⟨b,k,none⟩=false:=frozen_of_row _ _ k _ _ h
end
def rt0:RT:=⟨⟨0,0,[],[],false,spt0,spt0,false,0,0,false,false,false,0,List.replicate 80 false,[],[],0,pa0⟩,none,0,0,none,0,0,⟨#[]⟩,none,0,0,0,none,0,0,none,0,0⟩
theorem infoRT1:(Tryz.prog.info? 42).map (·.size)=some 116:=by kernel_rfl
end Go.Proofs.YtlcipgdnpilkfaaGreatDoor
