/-
  Part 23 of what the laws of emul want: EmulDds, EmulTabS.
-/
import Derived.Test.YtlcipgdnpilkfaaGreatDoorPo14
import Derived.Test.YtlcipgdnpilkfaaGreatDoorPo21
import Derived.Test.YtlcipgdnpilkfaaGreatDoorPo22
namespace Go.Proofs.YtlcipgdnpilkfaaGreatDoor
open Go.RowKit
section
variable {B:Nat} {w:World} {g:Nat} {x:CT} {A:Option Addr} {n c:Nat} {ps:List Int}
set_option maxRecDepth 100000 in
set_option maxHeartbeats 1600000 in
theorem toRow_any (h:Cz B w g x) (hN:Nm w (CB g x) A n c ps):Calls Tryz.prog 167 #[.pointer (some ⟨g,0,none⟩),.slice A n c] w (CzP B g x (Dd.toRow.run ps x.t) w):=by
 have HZ:=Lib.hid h
 have HM:=Lib.hid hN
 have n1:=hN.one 0
 have zc:=h.ok.c1
 have zr:=h.ok.r1
 have zx0:=h.ok.x0
 have zx1:=h.ok.x1
 have zy0:=h.ok.y0
 have zy1:=h.ok.y1
 have zt0:=h.ok.t0
 have ztb:=h.ok.tb
 have zb1:=h.ok.b1
 have HC:=Lib.hid (show ∀ w',Below w.heap.size w w'→Calls Tryz.prog 159 #[.slice A n c,.int .i64 0] w' fun e w''=>e=.returned (.int .i64 (numP ps 0 1))∧w''=w' from fun w' hb=>count_any (HM.out.below hb) 0 (by omega))
 have HR:=Lib.hid (lastRow_any h)
 show Calls _ _ _ _ (CzP B g x (x.t.atY (if x.t.now.org=true then min (x.t.top+numP ps 0 1-1) x.t.bot else min (numP ps 0 1-1) (x.t.r-1))) w)
 generalize numP ps 0 1=N at HC n1 ⊢
 have c7:w.cell? ⟨g,7,none⟩=some (.bool x.t.now.org):=h.cell rfl
 by_cases ho:x.t.now.org=true
 · rw [ho] at c7
   rw [if_pos ho]
   have c23:w.cell? ⟨g,23,none⟩=some (.int .i64 x.t.top):=h.cell rfl
   have c24:w.cell? ⟨g,24,none⟩=some (.int .i64 x.t.bot):=h.cell rfl
   have X:=Lib.hid (h.atY (z:=min (x.t.top+N-1) x.t.bot) (by omega) (by omega))
   have k0:wrap64 (x.t.top+N)=x.t.top+N:=by unfold wrap64;omega
   have j0:IntKind.i64.wrap (x.t.top+N)=x.t.top+N:=by rw [IntKind.wrap_i64];omega
   have k1:wrap64 (x.t.top+N-1)=x.t.top+N-1:=by unfold wrap64;omega
   have j1:IntKind.i64.wrap (x.t.top+N-1)=x.t.top+N-1:=by rw [IntKind.wrap_i64];omega
   clear h hN zc zr zx0 zx1 zy0 zy1 zt0 ztb zb1 ho
   go_enter Tryz.func167,Tryz.ntmps167
   go_wp2_with fail
   refine HR.out.mono ?_
   rintro e w1 ⟨rfl,hw1⟩
   obtain rfl:=hw1.symm
   clear hw1
   go_wp2_with fail
   go_quiet (fail)
   go_wp2_with fail
   generalize hw2:w.drewN nq=w2
   have hb2:Below w.heap.size w w2:=by rw [← hw2];exact belowN (Below.refl _ _) _
   clear hw2
   have c2:w2.cell? ⟨g,2,none⟩=some (.int .i64 x.t.now.y):=(HZ.out.below hb2).cell rfl
   have f2:=(HZ.out.below hb2).fr 2
   have HB:=Lib.hid hb2
   clear hb2
   refine (HC.out _ HB.out).mono ?_
   rintro e w1 ⟨rfl,hw1⟩
   obtain rfl:=hw1.symm
   clear hw1
   go_wp2_with fail
   go_end0
   exact X.out _ HB.out
 · have ho2:x.t.now.org=false:=by simpa using ho
   rw [ho2] at c7
   rw [if_neg ho]
   have X:=Lib.hid (h.atY (z:=min (N-1) (x.t.r-1)) (by omega) (by omega))
   have k0:wrap64 (N-1)=N-1:=by unfold wrap64;omega
   have j0:IntKind.i64.wrap (N-1)=N-1:=by rw [IntKind.wrap_i64];omega
   have k9:wrap64 N=N:=by unfold wrap64;omega
   have c2:w.cell? ⟨g,2,none⟩=some (.int .i64 x.t.now.y):=h.cell rfl
   have f2:w.frozen? ⟨g,2,none⟩=false:=h.fr 2
   clear h hN zc zr zx0 zx1 zy0 zy1 zt0 ztb zb1 ho ho2
   go_enter Tryz.func167,Tryz.ntmps167
   go_wp2_with fail
   refine HR.out.mono ?_
   rintro e w1 ⟨rfl,hw1⟩
   obtain rfl:=hw1.symm
   clear hw1
   go_wp2_with fail
   refine (HC.out _ (Below.refl _ _)).mono ?_
   rintro e w1 ⟨rfl,hw1⟩
   obtain rfl:=hw1.symm
   clear hw1
   go_wp2_with fail
   go_end0
   exact X.out _ (Below.refl _ _)
set_option maxRecDepth 100000 in
set_option maxHeartbeats 1600000 in
theorem startsDown_any (h:Cz B w g x) (hN:Nm w (CB g x) A n c ps):Calls Tryz.prog 164 #[.pointer (some ⟨g,0,none⟩),.slice A n c] w (CzP B g x (Dd.startsDown.run ps x.t) w):=by
 have HS:=Lib.hid (down_any h hN)
 clear h hN
 go_enter Tryz.func164,Tryz.ntmps164
 go_wp2_with fail
 refine HS.out.mono ?_
 rintro e w1 ⟨rfl,y,hy⟩
 have Y:=Lib.hid hy
 clear hy
 go_wp2_with fail
 refine (lineStart_any Y.out.cz).mono ?_
 rintro e w2 ⟨rfl,z,hz⟩
 have Z:=Lib.hid hz
 clear hz
 go_wp2_with fail
 go_end0
 exact ⟨rfl,z,(Y.out.trans Z.out).as (by rw [Y.out.t];rfl)⟩
set_option maxRecDepth 100000 in
set_option maxHeartbeats 1600000 in
theorem startsUp_any (h:Cz B w g x) (hN:Nm w (CB g x) A n c ps):Calls Tryz.prog 165 #[.pointer (some ⟨g,0,none⟩),.slice A n c] w (CzP B g x (Dd.startsUp.run ps x.t) w):=by
 have HS:=Lib.hid (up_any h hN)
 clear h hN
 go_enter Tryz.func165,Tryz.ntmps165
 go_wp2_with fail
 refine HS.out.mono ?_
 rintro e w1 ⟨rfl,y,hy⟩
 have Y:=Lib.hid hy
 clear hy
 go_wp2_with fail
 refine (lineStart_any Y.out.cz).mono ?_
 rintro e w2 ⟨rfl,z,hz⟩
 have Z:=Lib.hid hz
 clear hz
 go_wp2_with fail
 go_end0
 exact ⟨rfl,z,(Y.out.trans Z.out).as (by rw [Y.out.t];rfl)⟩
set_option maxRecDepth 100000 in
set_option maxHeartbeats 1600000 in
theorem toPlace_any (h:Cz B w g x) (hN:Nm w (CB g x) A n c ps):Calls Tryz.prog 168 #[.pointer (some ⟨g,0,none⟩),.slice A n c] w (CzP B g x (Dd.toPlace.run ps x.t) w):=by
 have HM:=Lib.hid hN
 have HS:=Lib.hid (toRow_any h hN)
 clear h hN
 go_enter Tryz.func168,Tryz.ntmps168
 go_wp2_with fail
 refine HS.out.mono ?_
 rintro e w1 ⟨rfl,y,hy⟩
 have Y:=Lib.hid hy
 have HM1:=Lib.hid (HM.out.on hy)
 clear hy
 go_wp2_with fail
 refine (count_any HM1.out 1 (by omega)).mono ?_
 rintro e w2 ⟨rfl,hw2⟩
 obtain rfl:=hw2.symm
 clear hw2
 have n1:=HM1.out.one 1
 have HK:=Lib.hid (show Nm (w1.alloc (.cells #[.int .i64 (numP ps 1 1)] 3)) (CB g y) (some ⟨w1.heap.size,0,none⟩) 1 1 [numP ps 1 1] from ⟨Ik.one _ _ _ _,Nat.le_refl _,by omega,(fun z hz=>by rw [List.mem_singleton.1 hz];omega),fun ad e _ hq=>by injection e with e;rw [← e] at hq;exact Nat.lt_irrefl _ (Y.out.cz.hi _ hq)⟩)
 have HY:=Lib.hid (Y.out.below (w2:=w1.alloc (.cells #[.int .i64 (numP ps 1 1)] 3)) ((Below.refl _ _).alloc (Nat.le_refl _) _))
 have HN1:=Lib.hid (show numP [numP ps 1 1] 0 1=numP ps 1 1 from by show (if numP ps 1 1=0 then 1 else numP ps 1 1)=_;rw [if_neg (by omega)])
 clear n1
 go_wp2_with fail
 generalize w1.alloc (.cells #[.int .i64 (numP ps 1 1)] 3)=w3 at HK HY ⊢
 refine (toColumn_any HY.out.cz HK.out).mono ?_
 rintro e w4 ⟨rfl,z,hz⟩
 have Z:=Lib.hid hz
 clear hz
 go_wp2_with fail
 go_end0
 exact ⟨rfl,z,(HY.out.trans Z.out).as (by rw [Y.out.t];show (((Dd.toRow.run ps x.t).atX (min (numP [numP ps 1 1] 0 1-1) _)):Tm)=_;rw [HN1.out];rfl)⟩
set_option maxRecDepth 100000 in
set_option maxHeartbeats 1600000 in
theorem restore_any (h:Cz B w g x):Calls Tryz.prog 109 #[.pointer (some ⟨g,0,none⟩),.slice A n c] w (CzP B g x (x.t.restored) w):=by
 have HZ:=Lib.hid h
 have c1:w.cell? ⟨g,1,none⟩=some (.int .i64 x.t.now.x):=h.cell rfl
 have c2:w.cell? ⟨g,2,none⟩=some (.int .i64 x.t.now.y):=h.cell rfl
 have c3:w.cell? ⟨g,3,none⟩=some (.int .u32 x.t.now.pen.fg):=h.cell rfl
 have c4:w.cell? ⟨g,4,none⟩=some (.int .u32 x.t.now.pen.bg):=h.cell rfl
 have c5:w.cell? ⟨g,5,none⟩=some (.int .u8 x.t.now.pen.st):=h.cell rfl
 have c6:w.cell? ⟨g,6,none⟩=some (.int .u16 x.t.now.pen.lk):=h.cell rfl
 have c7:w.cell? ⟨g,7,none⟩=some (.bool x.t.now.org):=h.cell rfl
 have c8:w.cell? ⟨g,8,none⟩=some (.int .i64 x.t.sav.x):=h.cell rfl
 have c9:w.cell? ⟨g,9,none⟩=some (.int .i64 x.t.sav.y):=h.cell rfl
 have c10:w.cell? ⟨g,10,none⟩=some (.int .u32 x.t.sav.pen.fg):=h.cell rfl
 have c11:w.cell? ⟨g,11,none⟩=some (.int .u32 x.t.sav.pen.bg):=h.cell rfl
 have c12:w.cell? ⟨g,12,none⟩=some (.int .u8 x.t.sav.pen.st):=h.cell rfl
 have c13:w.cell? ⟨g,13,none⟩=some (.int .u16 x.t.sav.pen.lk):=h.cell rfl
 have c14:w.cell? ⟨g,14,none⟩=some (.bool x.t.sav.org):=h.cell rfl
 have f1:w.frozen? ⟨g,1,none⟩=false:=h.fr 1
 have f2:w.frozen? ⟨g,2,none⟩=false:=h.fr 2
 have f3:w.frozen? ⟨g,3,none⟩=false:=h.fr 3
 have f4:w.frozen? ⟨g,4,none⟩=false:=h.fr 4
 have f5:w.frozen? ⟨g,5,none⟩=false:=h.fr 5
 have f6:w.frozen? ⟨g,6,none⟩=false:=h.fr 6
 have f7:w.frozen? ⟨g,7,none⟩=false:=h.fr 7
 have ho:=h.ok
 have R:=Lib.hid (show RwG w g (ctV { x with t:={ x.t with now:=x.t.sav } }) (((((((w.setCell ⟨g,1,none⟩ (.int .i64 x.t.sav.x)).setCell ⟨g,2,none⟩ (.int .i64 x.t.sav.y)).setCell ⟨g,3,none⟩ (.int .u32 x.t.sav.pen.fg)).setCell ⟨g,4,none⟩ (.int .u32 x.t.sav.pen.bg)).setCell ⟨g,5,none⟩ (.int .u8 x.t.sav.pen.st)).setCell ⟨g,6,none⟩ (.int .u16 x.t.sav.pen.lk)).setCell ⟨g,7,none⟩ (.bool x.t.sav.org)) from (((((((h.raw.set 1 (.int .i64 x.t.sav.x)).set 2 (.int .i64 x.t.sav.y)).set 3 (.int .u32 x.t.sav.pen.fg)).set 4 (.int .u32 x.t.sav.pen.bg)).set 5 (.int .u8 x.t.sav.pen.st)).set 6 (.int .u16 x.t.sav.pen.lk)).set 7 (.bool x.t.sav.org)))
 have zc:=h.ok.c1
 have zr:=h.ok.r1
 have HK:=Lib.hid (cutCursor_raw (X:=x.t.sav.x) (Y:=x.t.sav.y) (C:=x.t.c) (R:=x.t.r) R.out rfl rfl rfl rfl zc zr)
 have hok:=Lib.hid h.ok.restored
 clear h ho zc zr
 go_enter Tryz.func109,Tryz.ntmps109
 go_upto_region 1 with fail
 generalize (((((((w.setCell ⟨g,1,none⟩ (.int .i64 x.t.sav.x)).setCell ⟨g,2,none⟩ (.int .i64 x.t.sav.y)).setCell ⟨g,3,none⟩ (.int .u32 x.t.sav.pen.fg)).setCell ⟨g,4,none⟩ (.int .u32 x.t.sav.pen.bg)).setCell ⟨g,5,none⟩ (.int .u8 x.t.sav.pen.st)).setCell ⟨g,6,none⟩ (.int .u16 x.t.sav.pen.lk)).setCell ⟨g,7,none⟩ (.bool x.t.sav.org))=w1 at HK R ⊢
 clear c1 c2 c3 c4 c5 c6 c7 c8 c9 c10 c11 c12 c13 c14 f1 f2 f3 f4 f5 f6 f7
 go_wp2_with fail
 refine HK.out.mono ?_
 rintro e w2 ⟨rfl,hR⟩
 have R2:=Lib.hid hR
 clear hR
 go_wp2_with fail
 go_end0
 exact ⟨rfl,_,R2.out.fin HZ.out (y:={ x with t:=x.t.restored }) rfl ⟨rfl,rfl,rfl,rfl,rfl,rfl,rfl,rfl,rfl,rfl,rfl,rfl,rfl,rfl,rfl,rfl,rfl,HZ.out.tl⟩ hok.out⟩
set_option maxRecDepth 100000 in
set_option maxHeartbeats 1600000 in
theorem setTab_any (h:Cz B w g x):Calls Tryz.prog 111 #[.pointer (some ⟨g,0,none⟩),.slice A n c] w (CzP B g x ({ x.t with tabs:=x.t.tabs.set x.t.now.x.toNat true }) w):=by
 obtain ⟨i,hi⟩:∃ i:Nat,x.t.now.x=(i:Int):=⟨x.t.now.x.toNat,by have:=h.ok.x0;omega⟩
 have hl:i<x.t.tabs.length:=by have:=h.ok.tabs;have:=h.ok.x1;have:=h.ok.c1;omega
 have hl80:i<80:=by rw [← h.ok.tabs];exact hl
 have HD:=Lib.hid (show Below w.heap.size w w.drew from (Below.refl _ _).drew)
 have X:=Lib.hid (show CzTo B g x { x.t with tabs:=x.t.tabs.set i true } w (w.drew.setCell ⟨g,29+i,none⟩ (.bool true)) { x with t:={ x.t with tabs:=x.t.tabs.set i true } } from ((h.raw.below HD.out).set (29+i) (.bool true)).fin h (y:={ x with t:={ x.t with tabs:=x.t.tabs.set i true } }) (ctV_setTab x true hl) ⟨rfl,rfl,rfl,rfl,rfl,rfl,rfl,rfl,rfl,rfl,rfl,rfl,rfl,rfl,rfl,rfl,rfl,h.tl⟩ { h.ok with tabs:=by show (x.t.tabs.set i true).length=80;rw [List.length_set];exact h.ok.tabs })
 have c1:w.cell? ⟨g,1,none⟩=some (.int .i64 x.t.now.x):=h.cell rfl
 rw [hi] at c1
 have et:=h.cell (ctV_tab hl)
 have e1:w.drew.cell? ⟨g,29+i,none⟩=some (.bool (x.t.tabs.getD i false)):=et
 have f1:w.drew.frozen? ⟨g,29+i,none⟩=false:=h.fr (29+i)
 have i0:(0:Int)≤(i:Int):=by omega
 have i1:(i:Int)<80:=by omega
 rw [show x.t.now.x.toNat=i by rw [hi];rfl]
 generalize x.t.tabs.getD i false=bt at e1 et
 clear h hi hl hl80 et
 go_enter Tryz.func111,Tryz.ntmps111
 go_wp2_with fail
 go_still_tail 11,(by kernel_rfl)
 change wpList _ _ _ _ _ w.drew
 generalize w.drew=w2 at X e1 f1 ⊢
 go_wp2_with fail
 go_end0
 exact ⟨rfl,_,X.out⟩
set_option maxRecDepth 100000 in
set_option maxHeartbeats 1600000 in
theorem setMargins_any (h:Cz B w g x) (hN:Nm w (CB g x) A n c ps):Calls Tryz.prog 171 #[.pointer (some ⟨g,0,none⟩),.slice A n c] w (CzP B g x (Dd.setMargins.run ps x.t) w):=by
 have HZ:=Lib.hid h
 have n1:=hN.one 0
 have m1:=hN.num 1
 have zr:=h.ok.r1
 have zb1:=h.ok.b1
 have zt0:=h.ok.t0
 have HC:=Lib.hid (count_any hN 0 (by omega))
 have HA:=Lib.hid (at_any hN 1 (by omega))
 have HR:=Lib.hid (lastRow_any h)
 have eM:numP ps 1 (x.t.r:Int)=(if ps.getD 1 0=0 then (x.t.r:Int) else ps.getD 1 0):=rfl
 show Calls _ _ _ _ (CzP B g x (if numP ps 0 1<min (numP ps 1 x.t.r) x.t.r then ({ x.t with top:=numP ps 0 1-1,bot:=min (numP ps 1 x.t.r) x.t.r-1 }:Tm).home else x.t) w)
 rw [eM]
 generalize numP ps 0 1=N at HC n1 ⊢
 generalize ps.getD 1 0=m at HA m1 ⊢
 obtain ⟨b,hb⟩:∃ b,b=min (if m=0 then (x.t.r:Int) else m) x.t.r:=⟨_,rfl⟩
 rw [← hb]
 have c23:w.cell? ⟨g,23,none⟩=some (.int .i64 x.t.top):=h.cell rfl
 have c24:w.cell? ⟨g,24,none⟩=some (.int .i64 x.t.bot):=h.cell rfl
 have f23:w.frozen? ⟨g,23,none⟩=false:=h.fr 23
 have f24:w.frozen? ⟨g,24,none⟩=false:=h.fr 24
 have b0:1≤b∧b≤x.t.r:=by split at hb<;>omega
 have KEY:=Lib.hid (show N<b→CzTo B g x { x.t with top:=N-1,bot:=b-1 } w ((w.setCell ⟨g,23,none⟩ (.int .i64 (N-1))).setCell ⟨g,24,none⟩ (.int .i64 (b-1))) { x with t:={ x.t with top:=N-1,bot:=b-1 } } from fun hlt=>((h.raw.set 23 (.int .i64 (N-1))).set 24 (.int .i64 (b-1))).fin h (y:={ x with t:={ x.t with top:=N-1,bot:=b-1 } }) rfl ⟨rfl,rfl,rfl,rfl,rfl,rfl,rfl,rfl,rfl,rfl,rfl,rfl,rfl,rfl,rfl,rfl,rfl,h.tl⟩ { h.ok with t0:=by show 0≤N-1;omega,tb:=by show N-1≤b-1;omega,b1:=by show b-1<(x.t.r:Int);omega })
 by_cases h0:m=0
 · have eb:b=x.t.r:=by rw [hb,if_pos h0];omega
   clear hb
   subst h0
   subst eb
   by_cases hlt:N<x.t.r
   · rw [if_pos hlt]
     have Y:=Lib.hid (KEY.out hlt)
     have k0:wrap64 (N-1)=N-1:=by unfold wrap64;omega
     have k1:wrap64 ((x.t.r:Int)-1)=((x.t.r:Int)-1):=by clear k0;unfold wrap64;omega
     have k3:wrap64 ((x.t.r:Int)-1+1)=x.t.r:=by clear k0 k1;unfold wrap64;omega
     have k2:wrap64 (x.t.r:Int)=x.t.r:=by clear k0 k1 k3;unfold wrap64;omega
     have k5:wrap64 ((x.t.r:Int)-1)=x.t.r-1:=by clear k0 k1 k3 k2;unfold wrap64;omega
     clear KEY eM h hN zr zb1 zt0 b0 n1 m1
     go_enter Tryz.func171,Tryz.ntmps171
     go_wp2_with fail
     refine HC.out.mono ?_
     rintro e w1 ⟨rfl,hw1⟩
     obtain rfl:=hw1.symm
     clear hw1
     go_wp2_with fail
     refine HA.out.mono ?_
     rintro e w1 ⟨rfl,hw1⟩
     obtain rfl:=hw1.symm
     clear hw1
     go_wp2_with fail
     refine HR.out.mono ?_
     rintro e w1 ⟨rfl,hw1⟩
     obtain rfl:=hw1.symm
     clear hw1
     go_wp2_with fail
     generalize ((w.setCell ⟨g,23,none⟩ (.int .i64 (N-1))).setCell ⟨g,24,none⟩ (.int .i64 ((x.t.r:Int)-1)))=w3 at Y ⊢
     refine (home_any Y.out.cz).mono ?_
     rintro e w4 ⟨rfl,z,hz⟩
     have Z:=Lib.hid hz
     clear hz
     go_wp2_with fail
     go_end0
     exact ⟨rfl,z,(Y.out.trans Z.out).as rfl⟩
   · rw [if_neg hlt]
     have hge:=Int.not_lt.1 hlt
     have k0:wrap64 (N-1)=N-1:=by unfold wrap64;omega
     have k1:wrap64 ((x.t.r:Int)-1)=((x.t.r:Int)-1):=by clear k0;unfold wrap64;omega
     have k3:wrap64 ((x.t.r:Int)-1+1)=x.t.r:=by clear k0 k1;unfold wrap64;omega
     have k2:wrap64 (x.t.r:Int)=x.t.r:=by clear k0 k1 k3;unfold wrap64;omega
     have k5:wrap64 ((x.t.r:Int)-1)=x.t.r-1:=by clear k0 k1 k3 k2;unfold wrap64;omega
     clear KEY eM h hN zr zb1 zt0 b0 n1 m1
     go_enter Tryz.func171,Tryz.ntmps171
     go_wp2_with fail
     refine HC.out.mono ?_
     rintro e w1 ⟨rfl,hw1⟩
     obtain rfl:=hw1.symm
     clear hw1
     go_wp2_with fail
     refine HA.out.mono ?_
     rintro e w1 ⟨rfl,hw1⟩
     obtain rfl:=hw1.symm
     clear hw1
     go_wp2_with fail
     refine HR.out.mono ?_
     rintro e w1 ⟨rfl,hw1⟩
     obtain rfl:=hw1.symm
     clear hw1
     go_wp2_with fail
     go_end0
     exact ⟨rfl,x,CzTo.refl HZ.out⟩
 · by_cases h2:m > x.t.r
   · have eb:b=x.t.r:=by rw [hb,if_neg h0];omega
     clear hb
     subst eb
     by_cases hlt:N<x.t.r
     · rw [if_pos hlt]
       have Y:=Lib.hid (KEY.out hlt)
       have k0:wrap64 (N-1)=N-1:=by unfold wrap64;omega
       have k1:wrap64 ((x.t.r:Int)-1)=((x.t.r:Int)-1):=by clear k0;unfold wrap64;omega
       have k3:wrap64 ((x.t.r:Int)-1+1)=x.t.r:=by clear k0 k1;unfold wrap64;omega
       have k2:wrap64 (x.t.r:Int)=x.t.r:=by clear k0 k1 k3;unfold wrap64;omega
       have k5:wrap64 ((x.t.r:Int)-1)=x.t.r-1:=by clear k0 k1 k3 k2;unfold wrap64;omega
       clear KEY eM h hN zr zb1 zt0 b0 n1 m1
       go_enter Tryz.func171,Tryz.ntmps171
       go_wp2_with fail
       refine HC.out.mono ?_
       rintro e w1 ⟨rfl,hw1⟩
       obtain rfl:=hw1.symm
       clear hw1
       go_wp2_with fail
       refine HA.out.mono ?_
       rintro e w1 ⟨rfl,hw1⟩
       obtain rfl:=hw1.symm
       clear hw1
       go_wp2_with fail
       refine HR.out.mono ?_
       rintro e w1 ⟨rfl,hw1⟩
       obtain rfl:=hw1.symm
       clear hw1
       go_wp2_with fail
       generalize ((w.setCell ⟨g,23,none⟩ (.int .i64 (N-1))).setCell ⟨g,24,none⟩ (.int .i64 ((x.t.r:Int)-1)))=w3 at Y ⊢
       refine (home_any Y.out.cz).mono ?_
       rintro e w4 ⟨rfl,z,hz⟩
       have Z:=Lib.hid hz
       clear hz
       go_wp2_with fail
       go_end0
       exact ⟨rfl,z,(Y.out.trans Z.out).as rfl⟩
     · rw [if_neg hlt]
       have hge:=Int.not_lt.1 hlt
       have k0:wrap64 (N-1)=N-1:=by unfold wrap64;omega
       have k1:wrap64 ((x.t.r:Int)-1)=((x.t.r:Int)-1):=by clear k0;unfold wrap64;omega
       have k3:wrap64 ((x.t.r:Int)-1+1)=x.t.r:=by clear k0 k1;unfold wrap64;omega
       have k2:wrap64 (x.t.r:Int)=x.t.r:=by clear k0 k1 k3;unfold wrap64;omega
       have k5:wrap64 ((x.t.r:Int)-1)=x.t.r-1:=by clear k0 k1 k3 k2;unfold wrap64;omega
       clear KEY eM h hN zr zb1 zt0 b0 n1 m1
       go_enter Tryz.func171,Tryz.ntmps171
       go_wp2_with fail
       refine HC.out.mono ?_
       rintro e w1 ⟨rfl,hw1⟩
       obtain rfl:=hw1.symm
       clear hw1
       go_wp2_with fail
       refine HA.out.mono ?_
       rintro e w1 ⟨rfl,hw1⟩
       obtain rfl:=hw1.symm
       clear hw1
       go_wp2_with fail
       refine HR.out.mono ?_
       rintro e w1 ⟨rfl,hw1⟩
       obtain rfl:=hw1.symm
       clear hw1
       go_wp2_with fail
       go_end0
       exact ⟨rfl,x,CzTo.refl HZ.out⟩
   · have eb:b=m:=by rw [hb,if_neg h0];omega
     clear hb
     subst eb
     have h3:=Int.not_lt.1 h2
     have d0:decide (b=0)=false:=decide_eq_false h0
     have d1:(b == 0)=false:=beq_eq_false_iff_ne.2 h0
     have d2:decide ((x.t.r:Int)<b)=false:=decide_eq_false h2
     have d3:decide (b > (x.t.r:Int))=false:=d2
     by_cases hlt:N<b
     · rw [if_pos hlt]
       have Y:=Lib.hid (KEY.out hlt)
       have k0:wrap64 (N-1)=N-1:=by unfold wrap64;omega
       have k1:wrap64 (b-1)=(b-1):=by clear k0;unfold wrap64;omega
       have k3:wrap64 ((x.t.r:Int)-1+1)=x.t.r:=by clear k0 k1;unfold wrap64;omega
       have k2:wrap64 (x.t.r:Int)=x.t.r:=by clear k0 k1 k3;unfold wrap64;omega
       have k5:wrap64 ((x.t.r:Int)-1)=x.t.r-1:=by clear k0 k1 k3 k2;unfold wrap64;omega
       clear KEY eM h hN zr zb1 zt0 b0 n1 m1
       go_enter Tryz.func171,Tryz.ntmps171
       go_wp2_with fail
       refine HC.out.mono ?_
       rintro e w1 ⟨rfl,hw1⟩
       obtain rfl:=hw1.symm
       clear hw1
       go_wp2_with fail
       refine HA.out.mono ?_
       rintro e w1 ⟨rfl,hw1⟩
       obtain rfl:=hw1.symm
       clear hw1
       go_wp2_with fail
       refine HR.out.mono ?_
       rintro e w1 ⟨rfl,hw1⟩
       obtain rfl:=hw1.symm
       clear hw1
       go_wp2_with fail
       generalize ((w.setCell ⟨g,23,none⟩ (.int .i64 (N-1))).setCell ⟨g,24,none⟩ (.int .i64 (b-1)))=w3 at Y ⊢
       refine (home_any Y.out.cz).mono ?_
       rintro e w4 ⟨rfl,z,hz⟩
       have Z:=Lib.hid hz
       clear hz
       go_wp2_with fail
       go_end0
       exact ⟨rfl,z,(Y.out.trans Z.out).as rfl⟩
     · rw [if_neg hlt]
       have hge:=Int.not_lt.1 hlt
       have k0:wrap64 (N-1)=N-1:=by unfold wrap64;omega
       have k1:wrap64 (b-1)=(b-1):=by clear k0;unfold wrap64;omega
       have k3:wrap64 ((x.t.r:Int)-1+1)=x.t.r:=by clear k0 k1;unfold wrap64;omega
       have k2:wrap64 (x.t.r:Int)=x.t.r:=by clear k0 k1 k3;unfold wrap64;omega
       have k5:wrap64 ((x.t.r:Int)-1)=x.t.r-1:=by clear k0 k1 k3 k2;unfold wrap64;omega
       clear KEY eM h hN zr zb1 zt0 b0 n1 m1
       go_enter Tryz.func171,Tryz.ntmps171
       go_wp2_with fail
       refine HC.out.mono ?_
       rintro e w1 ⟨rfl,hw1⟩
       obtain rfl:=hw1.symm
       clear hw1
       go_wp2_with fail
       refine HA.out.mono ?_
       rintro e w1 ⟨rfl,hw1⟩
       obtain rfl:=hw1.symm
       clear hw1
       go_wp2_with fail
       refine HR.out.mono ?_
       rintro e w1 ⟨rfl,hw1⟩
       obtain rfl:=hw1.symm
       clear hw1
       go_wp2_with fail
       go_end0
       exact ⟨rfl,x,CzTo.refl HZ.out⟩
set_option maxRecDepth 100000 in
set_option maxHeartbeats 1600000 in
theorem softReset_any (h:Cz B w g x):Calls Tryz.prog 116 #[.pointer (some ⟨g,0,none⟩),.slice A n c] w (CzP B g x (x.t.reset) w):=by
 have HZ:=Lib.hid h
 have c3:w.cell? ⟨g,3,none⟩=some (.int .u32 x.t.now.pen.fg):=h.cell rfl
 have c4:w.cell? ⟨g,4,none⟩=some (.int .u32 x.t.now.pen.bg):=h.cell rfl
 have c5:w.cell? ⟨g,5,none⟩=some (.int .u8 x.t.now.pen.st):=h.cell rfl
 have c6:w.cell? ⟨g,6,none⟩=some (.int .u16 x.t.now.pen.lk):=h.cell rfl
 have c7:w.cell? ⟨g,7,none⟩=some (.bool x.t.now.org):=h.cell rfl
 have c8:w.cell? ⟨g,8,none⟩=some (.int .i64 x.t.sav.x):=h.cell rfl
 have c9:w.cell? ⟨g,9,none⟩=some (.int .i64 x.t.sav.y):=h.cell rfl
 have c10:w.cell? ⟨g,10,none⟩=some (.int .u32 x.t.sav.pen.fg):=h.cell rfl
 have c11:w.cell? ⟨g,11,none⟩=some (.int .u32 x.t.sav.pen.bg):=h.cell rfl
 have c12:w.cell? ⟨g,12,none⟩=some (.int .u8 x.t.sav.pen.st):=h.cell rfl
 have c13:w.cell? ⟨g,13,none⟩=some (.int .u16 x.t.sav.pen.lk):=h.cell rfl
 have c14:w.cell? ⟨g,14,none⟩=some (.bool x.t.sav.org):=h.cell rfl
 have c25:w.cell? ⟨g,25,none⟩=some (.bool (!x.t.nowrap)):=h.cell rfl
 have c26:w.cell? ⟨g,26,none⟩=some (.bool x.t.ins):=h.cell rfl
 have c27:w.cell? ⟨g,27,none⟩=some (.bool x.t.hid):=h.cell rfl
 have f3:w.frozen? ⟨g,3,none⟩=false:=h.fr 3
 have f4:w.frozen? ⟨g,4,none⟩=false:=h.fr 4
 have f5:w.frozen? ⟨g,5,none⟩=false:=h.fr 5
 have f6:w.frozen? ⟨g,6,none⟩=false:=h.fr 6
 have f7:w.frozen? ⟨g,7,none⟩=false:=h.fr 7
 have f8:w.frozen? ⟨g,8,none⟩=false:=h.fr 8
 have f9:w.frozen? ⟨g,9,none⟩=false:=h.fr 9
 have f10:w.frozen? ⟨g,10,none⟩=false:=h.fr 10
 have f11:w.frozen? ⟨g,11,none⟩=false:=h.fr 11
 have f12:w.frozen? ⟨g,12,none⟩=false:=h.fr 12
 have f13:w.frozen? ⟨g,13,none⟩=false:=h.fr 13
 have f14:w.frozen? ⟨g,14,none⟩=false:=h.fr 14
 have f25:w.frozen? ⟨g,25,none⟩=false:=h.fr 25
 have f26:w.frozen? ⟨g,26,none⟩=false:=h.fr 26
 have f27:w.frozen? ⟨g,27,none⟩=false:=h.fr 27
 have Y:=Lib.hid (show CzTo B g x _ w (((((((((((((((w.setCell ⟨g,25,none⟩ (.bool true)).setCell ⟨g,26,none⟩ (.bool false)).setCell ⟨g,27,none⟩ (.bool false)).setCell ⟨g,3,none⟩ (.int .u32 0)).setCell ⟨g,4,none⟩ (.int .u32 0)).setCell ⟨g,5,none⟩ (.int .u8 0)).setCell ⟨g,6,none⟩ (.int .u16 0)).setCell ⟨g,7,none⟩ (.bool false)).setCell ⟨g,8,none⟩ (.int .i64 0)).setCell ⟨g,9,none⟩ (.int .i64 0)).setCell ⟨g,10,none⟩ (.int .u32 0)).setCell ⟨g,11,none⟩ (.int .u32 0)).setCell ⟨g,12,none⟩ (.int .u8 0)).setCell ⟨g,13,none⟩ (.int .u16 0)).setCell ⟨g,14,none⟩ (.bool false)) ({ x with t:={ x.t with nowrap:=false,ins:=false,hid:=false,now:={ x.t.now with pen:=pn0,org:=false },sav:=spt0 } }) from (((((((((((((((h.raw.set 25 (.bool true)).set 26 (.bool false)).set 27 (.bool false)).set 3 (.int .u32 0)).set 4 (.int .u32 0)).set 5 (.int .u8 0)).set 6 (.int .u16 0)).set 7 (.bool false)).set 8 (.int .i64 0)).set 9 (.int .i64 0)).set 10 (.int .u32 0)).set 11 (.int .u32 0)).set 12 (.int .u8 0)).set 13 (.int .u16 0)).set 14 (.bool false)).fin h (y:={ x with t:={ x.t with nowrap:=false,ins:=false,hid:=false,now:={ x.t.now with pen:=pn0,org:=false },sav:=spt0 } }) rfl ⟨rfl,rfl,rfl,rfl,rfl,rfl,rfl,rfl,rfl,rfl,rfl,rfl,rfl,rfl,rfl,rfl,rfl,h.tl⟩ { h.ok with pen:=pn0_ok 0,sx:=Int.le_refl 0,sy:=Int.le_refl 0,sp:=pn0_ok 0 })
 clear h
 go_enter Tryz.func116,Tryz.ntmps116
 go_upto_region 3 with fail
 generalize (((((((((((((((w.setCell ⟨g,25,none⟩ (.bool true)).setCell ⟨g,26,none⟩ (.bool false)).setCell ⟨g,27,none⟩ (.bool false)).setCell ⟨g,3,none⟩ (.int .u32 0)).setCell ⟨g,4,none⟩ (.int .u32 0)).setCell ⟨g,5,none⟩ (.int .u8 0)).setCell ⟨g,6,none⟩ (.int .u16 0)).setCell ⟨g,7,none⟩ (.bool false)).setCell ⟨g,8,none⟩ (.int .i64 0)).setCell ⟨g,9,none⟩ (.int .i64 0)).setCell ⟨g,10,none⟩ (.int .u32 0)).setCell ⟨g,11,none⟩ (.int .u32 0)).setCell ⟨g,12,none⟩ (.int .u8 0)).setCell ⟨g,13,none⟩ (.int .u16 0)).setCell ⟨g,14,none⟩ (.bool false))=w1 at Y ⊢
 clear c3 c4 c5 c6 c7 c8 c9 c10 c11 c12 c13 c14 c25 c26 c27 f3 f4 f5 f6 f7 f8 f9 f10 f11 f12 f13 f14 f25 f26 f27
 go_wp2_with fail
 refine (freeMargins_any Y.out.cz).mono ?_
 rintro e w2 ⟨rfl,z,hz⟩
 have Z:=Lib.hid hz
 clear hz
 go_wp2_with fail
 go_end0
 exact ⟨rfl,z,(Y.out.trans Z.out).as rfl⟩
end
theorem tab_is {t:Tm} {k:Nat} (h1:t.now.x<(k:Int)) (h2:k<t.c) (h3:t.hasTab k=true) (h4:∀ j:Nat,t.now.x<(j:Int)→j<k→t.hasTab j=false):t.tab=t.atX k:=by
 unfold Tm.tab
 rw [show (List.range t.c).find? (fun (i:Nat)=>decide (t.now.x<(i:Int)) && t.hasTab i)=some k from by
  rw [List.find?_range_eq_some]
  refine ⟨by simp [h1,h3],List.mem_range.2 h2,fun j hj=>?_⟩
  by_cases hx:t.now.x<(j:Int)
  · simp [h4 j hx hj]
  · simp [hx]]
theorem tab_none {t:Tm} (h4:∀ j:Nat,t.now.x<(j:Int)→j<t.c→t.hasTab j=false):t.tab=t.atX (t.c-1):=by
 unfold Tm.tab
 rw [show (List.range t.c).find? (fun (i:Nat)=>decide (t.now.x<(i:Int)) && t.hasTab i)=none from by
  rw [List.find?_eq_none]
  intro j hj
  have hj:=List.mem_range.1 hj
  by_cases hx:t.now.x<(j:Int)
  · simp [h4 j hx hj]
  · simp [hx]]
theorem rev_find {p:Nat→Bool} {k:Nat} (hp:p k=true):∀ c,k<c→(∀ j,k<j→j<c→p j=false)→(List.range c).reverse.find? p=some k
 | 0,h,_=>absurd h (by omega)
 | c+1,h,hn=>by
  rw [List.range_succ,List.reverse_append,List.reverse_singleton,List.singleton_append]
  by_cases hk:c=k
  · subst hk
    rw [List.find?_cons_of_pos hp]
  · rw [List.find?_cons_of_neg (by rw [hn c (by omega) (by omega)];decide)]
    exact rev_find hp c (by omega) fun j h1 h2=>hn j h1 (by omega)
theorem tabBack_at {t:Tm} {k:Nat} (h0:0<k) (h1:(k:Int)<t.now.x) (h2:k<t.c) (h3:t.hasTab k=true) (h4:∀ j:Nat,k<j→(j:Int)<t.now.x→t.hasTab j=false):t.tabBack=t.atX k:=by
 unfold Tm.tabBack
 rw [rev_find (k:=k) (by simp [h0,h1,h3]) _ h2 fun j hj _=>by
  by_cases hx:(j:Int)<t.now.x
  · simp [h4 j hj hx]
  · simp [hx]]
theorem tabBack_none {t:Tm} (h4:∀ j:Nat,0<j→(j:Int)<t.now.x→t.hasTab j=false):t.tabBack=t.atX 0:=by
 unfold Tm.tabBack
 rw [show (List.range t.c).reverse.find? (fun (i:Nat)=>decide (0<i) && decide ((i:Int)<t.now.x) && t.hasTab i)=none from by
  rw [List.find?_eq_none]
  intro j _
  by_cases hx:0<j∧(j:Int)<t.now.x
  · simp [h4 j hx.1 hx.2]
  · simp only [Bool.and_eq_true,decide_eq_true_eq]
    exact fun hc=>hx hc.1]
end Go.Proofs.YtlcipgdnpilkfaaGreatDoor
