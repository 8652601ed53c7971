/-
  Part 23 of what the laws of emul want: EmulMove.
-/
import Derived.Test.YtlcipgdnpilkfaaGreatDoorPt22
namespace Go.Proofs.YtlcipgdnpilkfaaGreatDoor
open Go.RowKit
theorem Nm.one {w:World} {P:Nat→Prop} {A:Option Addr} {n c:Nat} {ps:List Int} (h:Nm w P A n c ps) (i:Nat):1≤numP ps i 1∧numP ps i 1≤9999:=by
 have:=h.num i
 rw [← max_num this.1]
 omega
section
variable {B:Nat} {w:World} {g:Nat} {x:CT} {A:Option Addr} {n c:Nat} {ps:List Int}
set_option maxRecDepth 100000 in
set_option maxHeartbeats 1600000 in
theorem lineStart_any (h:Cz B w g x):Calls Tryz.prog 107 #[.pointer (some ⟨g,0,none⟩),.slice A n c] w (CzP B g x (x.t.atX 0) w):=by
 have c1:w.cell? ⟨g,1,none⟩=some (.int .i64 x.t.now.x):=h.cell rfl
 have f1:w.frozen? ⟨g,1,none⟩=false:=h.fr 1
 have X:=Lib.hid (show ∀ w1,Below w.heap.size w w1→CzP B g x (x.t.atX 0) w (.returned (.tuple #[])) (w1.setCell ⟨g,1,none⟩ (.int .i64 0)) from fun w1 hb=>⟨rfl,_,((h.raw.below hb).set 1 (.int .i64 0)).fin h (y:={ x with t:=x.t.atX 0 }) rfl ⟨rfl,rfl,rfl,rfl,rfl,rfl,rfl,rfl,rfl,rfl,rfl,rfl,rfl,rfl,rfl,rfl,rfl,h.tl⟩ (h.ok.atX (Int.le_refl 0) (by have:=h.ok.c1;omega))⟩)
 clear h
 go_enter Tryz.func107,Tryz.ntmps107
 go_wp2_with fail
 go_end0
 exact X.out _ (Below.refl _ _)
set_option maxRecDepth 100000 in
set_option maxHeartbeats 1600000 in
theorem home_any (h:Cz B w g x):Calls Tryz.prog 222 #[.pointer (some ⟨g,0,none⟩)] w (CzP B g x (x.t.home) w):=by
 cases ho:x.t.now.org
 · have c7:w.cell? ⟨g,7,none⟩=some (.bool false):=ho ▸ h.cell rfl
   have c1:w.cell? ⟨g,1,none⟩=some (.int .i64 x.t.now.x):=h.cell rfl
   have c2:w.cell? ⟨g,2,none⟩=some (.int .i64 x.t.now.y):=h.cell rfl
   have f1:w.frozen? ⟨g,1,none⟩=false:=h.fr 1
   have f2:w.frozen? ⟨g,2,none⟩=false:=h.fr 2
   have e:x.t.home=(x.t.atX 0).atY 0:=by unfold Tm.home;rw [ho];rfl
   have X:=Lib.hid (show ∀ w1,Below w.heap.size w w1→CzP B g x (x.t.home) w (.returned (.tuple #[])) ((w1.setCell ⟨g,1,none⟩ (.int .i64 0)).setCell ⟨g,2,none⟩ (.int .i64 0)) from fun w1 hb=>⟨rfl,_,(((h.raw.below hb).set 1 (.int .i64 0)).set 2 (.int .i64 0)).fin h (y:={ x with t:=x.t.home }) (by rw [e];rfl) ⟨rfl,rfl,rfl,rfl,rfl,rfl,rfl,rfl,rfl,rfl,rfl,rfl,rfl,rfl,rfl,rfl,rfl,h.tl⟩ (h.ok.home)⟩)
   clear h e
   go_enter Tryz.func222,Tryz.ntmps222
   go_wp2_with fail
   go_end0
   exact X.out _ (Below.refl _ _)
 · have c7:w.cell? ⟨g,7,none⟩=some (.bool true):=ho ▸ h.cell rfl
   have c1:w.cell? ⟨g,1,none⟩=some (.int .i64 x.t.now.x):=h.cell rfl
   have c2:w.cell? ⟨g,2,none⟩=some (.int .i64 x.t.now.y):=h.cell rfl
   have c23:w.cell? ⟨g,23,none⟩=some (.int .i64 x.t.top):=h.cell rfl
   have f1:w.frozen? ⟨g,1,none⟩=false:=h.fr 1
   have f2:w.frozen? ⟨g,2,none⟩=false:=h.fr 2
   have e:x.t.home=(x.t.atX 0).atY x.t.top:=by unfold Tm.home;rw [ho];rfl
   have X:=Lib.hid (show ∀ w1,Below w.heap.size w w1→CzP B g x (x.t.home) w (.returned (.tuple #[])) (((w1.setCell ⟨g,1,none⟩ (.int .i64 0)).setCell ⟨g,2,none⟩ (.int .i64 0)).setCell ⟨g,2,none⟩ (.int .i64 x.t.top)) from fun w1 hb=>⟨rfl,_,((((h.raw.below hb).set 1 (.int .i64 0)).set 2 (.int .i64 0)).set 2 (.int .i64 x.t.top)).fin h (y:={ x with t:=x.t.home }) (by rw [e];rfl) ⟨rfl,rfl,rfl,rfl,rfl,rfl,rfl,rfl,rfl,rfl,rfl,rfl,rfl,rfl,rfl,rfl,rfl,h.tl⟩ (h.ok.home)⟩)
   clear h e
   go_enter Tryz.func222,Tryz.ntmps222
   go_wp2_with fail
   go_end0
   exact X.out _ (Below.refl _ _)
set_option maxRecDepth 100000 in
set_option maxHeartbeats 1600000 in
theorem freeMargins_any (h:Cz B w g x):Calls Tryz.prog 38 #[.pointer (some ⟨g,0,none⟩)] w (CzP B g x ({ x.t with top:=0,bot:=x.t.r-1 }) w):=by
 have HR:=Lib.hid (lastRow_any h)
 have r1:=h.ok.r1
 have c23:w.cell? ⟨g,23,none⟩=some (.int .i64 x.t.top):=h.cell rfl
 have c24:w.cell? ⟨g,24,none⟩=some (.int .i64 x.t.bot):=h.cell rfl
 have f23:w.frozen? ⟨g,23,none⟩=false:=h.fr 23
 have f24:w.frozen? ⟨g,24,none⟩=false:=h.fr 24
 have X:=Lib.hid (show ∀ w1,Below w.heap.size w w1→CzP B g x ({ x.t with top:=0,bot:=x.t.r-1 }) w (.returned (.tuple #[])) ((w1.setCell ⟨g,23,none⟩ (.int .i64 0)).setCell ⟨g,24,none⟩ (.int .i64 ((x.t.r:Int)-1))) from fun w1 hb=>⟨rfl,_,(((h.raw.below hb).set 23 (.int .i64 0)).set 24 (.int .i64 ((x.t.r:Int)-1))).fin h (y:={ x with t:={ x.t with top:=0,bot:=x.t.r-1 } }) rfl ⟨rfl,rfl,rfl,rfl,rfl,rfl,rfl,rfl,rfl,rfl,rfl,rfl,rfl,rfl,rfl,rfl,rfl,h.tl⟩ ({ h.ok with t0:=Int.le_refl 0,tb:=by show (0:Int)≤x.t.r-1;omega,b1:=by show (x.t.r:Int)-1<x.t.r;omega })⟩)
 clear h r1
 go_enter Tryz.func38,Tryz.ntmps38
 go_wp2_with fail
 refine HR.out.mono ?_
 rintro e w1 ⟨rfl,hw1⟩
 obtain rfl:=hw1.symm
 clear hw1
 go_wp2_with fail
 go_end0
 exact X.out _ (Below.refl _ _)
set_option maxRecDepth 100000 in
set_option maxHeartbeats 1600000 in
theorem save_any (h:Cz B w g x):Calls Tryz.prog 108 #[.pointer (some ⟨g,0,none⟩),.slice A n c] w (CzP B g x ({ x.t with sav:=x.t.now }) w):=by
 have c1:w.cell? ⟨g,1,none⟩=some (.int .i64 x.t.now.x):=h.cell rfl
 have c2:w.cell? ⟨g,2,none⟩=some (.int .i64 x.t.now.y):=h.cell rfl
 have c3:w.cell? ⟨g,3,none⟩=some (.int .u32 x.t.now.pen.fg):=h.cell rfl
 have c4:w.cell? ⟨g,4,none⟩=some (.int .u32 x.t.now.pen.bg):=h.cell rfl
 have c5:w.cell? ⟨g,5,none⟩=some (.int .u8 x.t.now.pen.st):=h.cell rfl
 have c6:w.cell? ⟨g,6,none⟩=some (.int .u16 x.t.now.pen.lk):=h.cell rfl
 have c7:w.cell? ⟨g,7,none⟩=some (.bool x.t.now.org):=h.cell rfl
 have c8:w.cell? ⟨g,8,none⟩=some (.int .i64 x.t.sav.x):=h.cell rfl
 have c9:w.cell? ⟨g,9,none⟩=some (.int .i64 x.t.sav.y):=h.cell rfl
 have c10:w.cell? ⟨g,10,none⟩=some (.int .u32 x.t.sav.pen.fg):=h.cell rfl
 have c11:w.cell? ⟨g,11,none⟩=some (.int .u32 x.t.sav.pen.bg):=h.cell rfl
 have c12:w.cell? ⟨g,12,none⟩=some (.int .u8 x.t.sav.pen.st):=h.cell rfl
 have c13:w.cell? ⟨g,13,none⟩=some (.int .u16 x.t.sav.pen.lk):=h.cell rfl
 have c14:w.cell? ⟨g,14,none⟩=some (.bool x.t.sav.org):=h.cell rfl
 have f8:w.frozen? ⟨g,8,none⟩=false:=h.fr 8
 have f9:w.frozen? ⟨g,9,none⟩=false:=h.fr 9
 have f10:w.frozen? ⟨g,10,none⟩=false:=h.fr 10
 have f11:w.frozen? ⟨g,11,none⟩=false:=h.fr 11
 have f12:w.frozen? ⟨g,12,none⟩=false:=h.fr 12
 have f13:w.frozen? ⟨g,13,none⟩=false:=h.fr 13
 have f14:w.frozen? ⟨g,14,none⟩=false:=h.fr 14
 have X:=Lib.hid (show ∀ w1,Below w.heap.size w w1→CzP B g x ({ x.t with sav:=x.t.now }) w (.returned (.tuple #[])) (((((((w1.setCell ⟨g,8,none⟩ (.int .i64 x.t.now.x)).setCell ⟨g,9,none⟩ (.int .i64 x.t.now.y)).setCell ⟨g,10,none⟩ (.int .u32 x.t.now.pen.fg)).setCell ⟨g,11,none⟩ (.int .u32 x.t.now.pen.bg)).setCell ⟨g,12,none⟩ (.int .u8 x.t.now.pen.st)).setCell ⟨g,13,none⟩ (.int .u16 x.t.now.pen.lk)).setCell ⟨g,14,none⟩ (.bool x.t.now.org)) from fun w1 hb=>⟨rfl,_,((((((((h.raw.below hb).set 8 (.int .i64 x.t.now.x)).set 9 (.int .i64 x.t.now.y)).set 10 (.int .u32 x.t.now.pen.fg)).set 11 (.int .u32 x.t.now.pen.bg)).set 12 (.int .u8 x.t.now.pen.st)).set 13 (.int .u16 x.t.now.pen.lk)).set 14 (.bool x.t.now.org)).fin h (y:={ x with t:={ x.t with sav:=x.t.now } }) rfl ⟨rfl,rfl,rfl,rfl,rfl,rfl,rfl,rfl,rfl,rfl,rfl,rfl,rfl,rfl,rfl,rfl,rfl,h.tl⟩ ({ h.ok with sx:=h.ok.x0,sy:=h.ok.y0,sp:=h.ok.pen })⟩)
 clear h
 go_enter Tryz.func108,Tryz.ntmps108
 go_wp2_with fail
 go_end0
 exact X.out _ (Below.refl _ _)
theorem Cz.atX (h:Cz B w g x) {z:Int} (h0:0≤z) (h1:z<x.t.c):∀ w1,Below w.heap.size w w1→CzP B g x (x.t.atX z) w (.returned (.tuple #[])) (w1.setCell ⟨g,1,none⟩ (.int .i64 z)):=fun _ hb=>⟨rfl,_,((h.raw.below hb).set 1 (.int .i64 z)).fin h (y:={ x with t:=x.t.atX z }) rfl ⟨rfl,rfl,rfl,rfl,rfl,rfl,rfl,rfl,rfl,rfl,rfl,rfl,rfl,rfl,rfl,rfl,rfl,h.tl⟩ (h.ok.atX h0 h1)⟩
theorem Cz.atY (h:Cz B w g x) {z:Int} (h0:0≤z) (h1:z<x.t.r):∀ w1,Below w.heap.size w w1→CzP B g x (x.t.atY z) w (.returned (.tuple #[])) (w1.setCell ⟨g,2,none⟩ (.int .i64 z)):=fun _ hb=>⟨rfl,_,((h.raw.below hb).set 2 (.int .i64 z)).fin h (y:={ x with t:=x.t.atY z }) rfl ⟨rfl,rfl,rfl,rfl,rfl,rfl,rfl,rfl,rfl,rfl,rfl,rfl,rfl,rfl,rfl,rfl,rfl,h.tl⟩ (h.ok.atY h0 h1)⟩
set_option maxRecDepth 100000 in
set_option maxHeartbeats 1600000 in
theorem right_any (h:Cz B w g x) (hN:Nm w (CB g x) A n c ps):Calls Tryz.prog 160 #[.pointer (some ⟨g,0,none⟩),.slice A n c] w (CzP B g x (Dd.right.run ps x.t) w):=by
 have HC:=Lib.hid (count_any (hN.below (Below.refl _ _).drew) 0 (by omega))
 have n1:=hN.one 0
 have HL:=Lib.hid (lastCol_any (h.below (Below.refl _ _).drew))
 have zc:=h.ok.c1
 have zr:=h.ok.r1
 have zx0:=h.ok.x0
 have zx1:=h.ok.x1
 have zy0:=h.ok.y0
 have zy1:=h.ok.y1
 have zt0:=h.ok.t0
 have ztb:=h.ok.tb
 have zb1:=h.ok.b1
 show Calls _ _ _ _ (CzP B g x (x.t.atX (min (x.t.now.x+numP ps 0 1) (x.t.c-1))) w)
 generalize numP ps 0 1=N at HC n1 ⊢
 have c1:w.cell? ⟨g,1,none⟩=some (.int .i64 x.t.now.x):=h.cell rfl
 have f1:w.drew.frozen? ⟨g,1,none⟩=false:=h.fr 1
 have e1:w.drew.cell? ⟨g,1,none⟩=some (.int .i64 x.t.now.x):=h.cell rfl
 have X:=Lib.hid (h.atX (z:=min (x.t.now.x+N) (x.t.c-1)) (by omega) (by omega))
 have HD:=Lib.hid (show Below w.heap.size w w.drew from (Below.refl _ _).drew)
 have k0:wrap64 (x.t.now.x+N)=x.t.now.x+N:=by unfold wrap64;omega
 have j0:IntKind.i64.wrap (x.t.now.x+N)=x.t.now.x+N:=by rw [IntKind.wrap_i64];omega
 clear h hN zc zr zx0 zx1 zy0 zy1 zt0 ztb zb1
 go_enter Tryz.func160,Tryz.ntmps160
 go_wp2_with fail
 go_still_tail 17,(by kernel_rfl)
 still_call HC.out
 repeat still_step
 still_call HL.out
 repeat still_step
 refine wpStill_nil ?_
 change wpList _ _ _ _ _ w.drew
 generalize w.drew=w2 at f1 e1 HD ⊢
 go_wp2_with fail
 go_end0
 exact X.out _ HD.out
set_option maxRecDepth 100000 in
set_option maxHeartbeats 1600000 in
theorem toColumn_any (h:Cz B w g x) (hN:Nm w (CB g x) A n c ps):Calls Tryz.prog 166 #[.pointer (some ⟨g,0,none⟩),.slice A n c] w (CzP B g x (Dd.toColumn.run ps x.t) w):=by
 have HC:=Lib.hid (count_any hN 0 (by omega))
 have n1:=hN.one 0
 have HL:=Lib.hid (lastCol_any h)
 have zc:=h.ok.c1
 have zr:=h.ok.r1
 have zx0:=h.ok.x0
 have zx1:=h.ok.x1
 have zy0:=h.ok.y0
 have zy1:=h.ok.y1
 have zt0:=h.ok.t0
 have ztb:=h.ok.tb
 have zb1:=h.ok.b1
 show Calls _ _ _ _ (CzP B g x (x.t.atX (min (numP ps 0 1-1) (x.t.c-1))) w)
 generalize numP ps 0 1=N at HC n1 ⊢
 have c1:w.cell? ⟨g,1,none⟩=some (.int .i64 x.t.now.x):=h.cell rfl
 have f1:w.frozen? ⟨g,1,none⟩=false:=h.fr 1
 have X:=Lib.hid (h.atX (z:=min (N-1) (x.t.c-1)) (by omega) (by omega))
 have k0:wrap64 (N-1)=N-1:=by unfold wrap64;omega
 have j0:IntKind.i64.wrap (N-1)=N-1:=by rw [IntKind.wrap_i64];omega
 clear h hN zc zr zx0 zx1 zy0 zy1 zt0 ztb zb1
 go_enter Tryz.func166,Tryz.ntmps166
 go_wp2_with fail
 refine HC.out.mono ?_
 rintro e w1 ⟨rfl,hw1⟩
 obtain rfl:=hw1.symm
 clear hw1
 go_wp2_with fail
 refine HL.out.mono ?_
 rintro e w1 ⟨rfl,hw1⟩
 obtain rfl:=hw1.symm
 clear hw1
 go_wp2_with fail
 go_end0
 exact X.out _ (Below.refl _ _)
set_option maxRecDepth 100000 in
set_option maxHeartbeats 1600000 in
theorem up_any (h:Cz B w g x) (hN:Nm w (CB g x) A n c ps):Calls Tryz.prog 162 #[.pointer (some ⟨g,0,none⟩),.slice A n c] w (CzP B g x (Dd.up.run ps x.t) w):=by
 have HZ:=Lib.hid h
 have HM:=Lib.hid hN
 have n1:=hN.one 0
 have zc:=h.ok.c1
 have zr:=h.ok.r1
 have zx0:=h.ok.x0
 have zx1:=h.ok.x1
 have zy0:=h.ok.y0
 have zy1:=h.ok.y1
 have zt0:=h.ok.t0
 have ztb:=h.ok.tb
 have zb1:=h.ok.b1
 show Calls _ _ _ _ (CzP B g x (x.t.atY (if x.t.now.y≥x.t.top then max (x.t.now.y-numP ps 0 1) x.t.top else max (x.t.now.y-numP ps 0 1) 0)) w)
 have HC:=Lib.hid (show ∀ w',Below w.heap.size w w'→Calls Tryz.prog 159 #[.slice A n c,.int .i64 0] w' fun e w''=>e=.returned (.int .i64 (numP ps 0 1))∧w''=w' from fun w' hb=>count_any (HM.out.below hb) 0 (by omega))
 generalize numP ps 0 1=N at HC n1 ⊢
 by_cases hc:x.t.now.y≥x.t.top
 · rw [if_pos hc]
   have X:=Lib.hid (h.atY (z:=max (x.t.now.y-N) x.t.top) (by omega) (by omega))
   have k0:wrap64 (x.t.now.y-N)=x.t.now.y-N:=by unfold wrap64;omega
   have j0:IntKind.i64.wrap (x.t.now.y-N)=x.t.now.y-N:=by rw [IntKind.wrap_i64];omega
   have c2:w.cell? ⟨g,2,none⟩=some (.int .i64 x.t.now.y):=h.cell rfl
   have c23:w.cell? ⟨g,23,none⟩=some (.int .i64 x.t.top):=h.cell rfl
   clear h hN zc zr zx0 zx1 zy0 zy1 zt0 ztb zb1
   go_enter Tryz.func162,Tryz.ntmps162
   go_wp2_with fail
   go_quiet (fail)
   go_wp2_with fail
   generalize hw2:w.drewN nq=w2
   have hb2:Below w.heap.size w w2:=by rw [← hw2];exact belowN (Below.refl _ _) _
   clear hw2
   have c2:w2.cell? ⟨g,2,none⟩=some (.int .i64 x.t.now.y):=(HZ.out.below hb2).cell rfl
   have f2:w2.drew.frozen? ⟨g,2,none⟩=false:=(HZ.out.below hb2).fr 2
   have e2:w2.drew.cell? ⟨g,2,none⟩=some (.int .i64 x.t.now.y):=(HZ.out.below hb2).cell rfl
   have HD:=Lib.hid (show Below w.heap.size w w2.drew from hb2.drew)
   clear hb2
   go_still_tail 16,(by kernel_rfl)
   still_call (HC.out _ HD.out)
   repeat still_step
   refine wpStill_nil ?_
   change wpList _ _ _ _ _ w2.drew
   generalize w2.drew=w3 at f2 e2 HD ⊢
   go_wp2_with fail
   go_end0
   exact X.out _ HD.out
 · rw [if_neg hc]
   have hc:=Int.not_le.1 hc
   have X:=Lib.hid (h.atY (z:=max (x.t.now.y-N) 0) (by omega) (by omega))
   have k0:wrap64 (x.t.now.y-N)=x.t.now.y-N:=by unfold wrap64;omega
   have j0:IntKind.i64.wrap (x.t.now.y-N)=x.t.now.y-N:=by rw [IntKind.wrap_i64];omega
   have c2:w.cell? ⟨g,2,none⟩=some (.int .i64 x.t.now.y):=h.cell rfl
   have c23:w.cell? ⟨g,23,none⟩=some (.int .i64 x.t.top):=h.cell rfl
   clear h hN zc zr zx0 zx1 zy0 zy1 zt0 ztb zb1
   go_enter Tryz.func162,Tryz.ntmps162
   go_wp2_with fail
   go_quiet (fail)
   go_wp2_with fail
   generalize hw2:w.drewN nq=w2
   have hb2:Below w.heap.size w w2:=by rw [← hw2];exact belowN (Below.refl _ _) _
   clear hw2
   have c2:w2.cell? ⟨g,2,none⟩=some (.int .i64 x.t.now.y):=(HZ.out.below hb2).cell rfl
   have f2:w2.drew.frozen? ⟨g,2,none⟩=false:=(HZ.out.below hb2).fr 2
   have e2:w2.drew.cell? ⟨g,2,none⟩=some (.int .i64 x.t.now.y):=(HZ.out.below hb2).cell rfl
   have HD:=Lib.hid (show Below w.heap.size w w2.drew from hb2.drew)
   clear hb2
   go_still_tail 16,(by kernel_rfl)
   still_call (HC.out _ HD.out)
   repeat still_step
   refine wpStill_nil ?_
   change wpList _ _ _ _ _ w2.drew
   generalize w2.drew=w3 at f2 e2 HD ⊢
   go_wp2_with fail
   go_end0
   exact X.out _ HD.out
set_option maxRecDepth 100000 in
set_option maxHeartbeats 1600000 in
theorem down_any (h:Cz B w g x) (hN:Nm w (CB g x) A n c ps):Calls Tryz.prog 163 #[.pointer (some ⟨g,0,none⟩),.slice A n c] w (CzP B g x (Dd.down.run ps x.t) w):=by
 have HZ:=Lib.hid h
 have HM:=Lib.hid hN
 have n1:=hN.one 0
 have zc:=h.ok.c1
 have zr:=h.ok.r1
 have zx0:=h.ok.x0
 have zx1:=h.ok.x1
 have zy0:=h.ok.y0
 have zy1:=h.ok.y1
 have zt0:=h.ok.t0
 have ztb:=h.ok.tb
 have zb1:=h.ok.b1
 show Calls _ _ _ _ (CzP B g x (x.t.atY (if x.t.now.y≤x.t.bot then min (x.t.now.y+numP ps 0 1) x.t.bot else min (x.t.now.y+numP ps 0 1) (x.t.r-1))) w)
 have HC:=Lib.hid (show ∀ w',Below w.heap.size w w'→Calls Tryz.prog 159 #[.slice A n c,.int .i64 0] w' fun e w''=>e=.returned (.int .i64 (numP ps 0 1))∧w''=w' from fun w' hb=>count_any (HM.out.below hb) 0 (by omega))
 generalize numP ps 0 1=N at HC n1 ⊢
 have HR:=Lib.hid (lastRow_any h)
 by_cases hc:x.t.now.y≤x.t.bot
 · rw [if_pos hc]
   have X:=Lib.hid (h.atY (z:=min (x.t.now.y+N) x.t.bot) (by omega) (by omega))
   have k0:wrap64 (x.t.now.y+N)=x.t.now.y+N:=by unfold wrap64;omega
   have j0:IntKind.i64.wrap (x.t.now.y+N)=x.t.now.y+N:=by rw [IntKind.wrap_i64];omega
   have c2:w.cell? ⟨g,2,none⟩=some (.int .i64 x.t.now.y):=h.cell rfl
   have c24:w.cell? ⟨g,24,none⟩=some (.int .i64 x.t.bot):=h.cell rfl
   clear h hN zc zr zx0 zx1 zy0 zy1 zt0 ztb zb1
   go_enter Tryz.func163,Tryz.ntmps163
   go_wp2_with fail
   refine HR.out.mono ?_
   rintro e w1 ⟨rfl,hw1⟩
   obtain rfl:=hw1.symm
   clear hw1
   go_wp2_with fail
   go_quiet (fail)
   go_wp2_with fail
   generalize hw2:w.drewN nq=w2
   have hb2:Below w.heap.size w w2:=by rw [← hw2];exact belowN (Below.refl _ _) _
   clear hw2
   have c2:w2.cell? ⟨g,2,none⟩=some (.int .i64 x.t.now.y):=(HZ.out.below hb2).cell rfl
   have f2:w2.drew.frozen? ⟨g,2,none⟩=false:=(HZ.out.below hb2).fr 2
   have e2:w2.drew.cell? ⟨g,2,none⟩=some (.int .i64 x.t.now.y):=(HZ.out.below hb2).cell rfl
   have HD:=Lib.hid (show Below w.heap.size w w2.drew from hb2.drew)
   clear hb2
   go_still_tail 16,(by kernel_rfl)
   still_call (HC.out _ HD.out)
   repeat still_step
   refine wpStill_nil ?_
   change wpList _ _ _ _ _ w2.drew
   generalize w2.drew=w3 at f2 e2 HD ⊢
   go_wp2_with fail
   go_end0
   exact X.out _ HD.out
 · rw [if_neg hc]
   have hc:=Int.not_le.1 hc
   have X:=Lib.hid (h.atY (z:=min (x.t.now.y+N) (x.t.r-1)) (by omega) (by omega))
   have k0:wrap64 (x.t.now.y+N)=x.t.now.y+N:=by unfold wrap64;omega
   have j0:IntKind.i64.wrap (x.t.now.y+N)=x.t.now.y+N:=by rw [IntKind.wrap_i64];omega
   have c2:w.cell? ⟨g,2,none⟩=some (.int .i64 x.t.now.y):=h.cell rfl
   have c24:w.cell? ⟨g,24,none⟩=some (.int .i64 x.t.bot):=h.cell rfl
   clear h hN zc zr zx0 zx1 zy0 zy1 zt0 ztb zb1
   go_enter Tryz.func163,Tryz.ntmps163
   go_wp2_with fail
   refine HR.out.mono ?_
   rintro e w1 ⟨rfl,hw1⟩
   obtain rfl:=hw1.symm
   clear hw1
   go_wp2_with fail
   go_quiet (fail)
   go_wp2_with fail
   generalize hw2:w.drewN nq=w2
   have hb2:Below w.heap.size w w2:=by rw [← hw2];exact belowN (Below.refl _ _) _
   clear hw2
   have c2:w2.cell? ⟨g,2,none⟩=some (.int .i64 x.t.now.y):=(HZ.out.below hb2).cell rfl
   have f2:w2.drew.frozen? ⟨g,2,none⟩=false:=(HZ.out.below hb2).fr 2
   have e2:w2.drew.cell? ⟨g,2,none⟩=some (.int .i64 x.t.now.y):=(HZ.out.below hb2).cell rfl
   have HD:=Lib.hid (show Below w.heap.size w w2.drew from hb2.drew)
   clear hb2
   go_still_tail 16,(by kernel_rfl)
   still_call (HC.out _ HD.out)
   repeat still_step
   refine wpStill_nil ?_
   change wpList _ _ _ _ _ w2.drew
   generalize w2.drew=w3 at f2 e2 HD ⊢
   go_wp2_with fail
   go_end0
   exact X.out _ HD.out
end
end Go.Proofs.YtlcipgdnpilkfaaGreatDoor
