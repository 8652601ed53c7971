/-
  Part 20 of what the laws of emul want: EmulLeaf, EmulMove.
-/
import Derived.StillTailTactics
import Derived.RegionTactic
import Derived.Deep.RegionHeld3
import Derived.Deep.MidRow
import Derived.Test.YtlcipgdnpilkfaaGreatDoorPo19
namespace Go.Proofs.YtlcipgdnpilkfaaGreatDoor
open Go.RowKit
structure Nm (w:World) (P:Nat→Prop) (A:Option Addr) (n c:Nat) (ps:List Int):Prop where
 rd:Ik .i64 w A n ps
 le:n≤c
 few:n≤16
 rg:∀ z∈ps,0≤z∧z≤9999
 off:∀ ad,A=some ad→0<n→¬ P ad.block
theorem Nm.nil (w:World) (P:Nat→Prop):Nm w P none 0 0 []:=⟨Ik.nil _ _ _,Nat.le_refl _,by omega,(fun z hz=>by cases hz),(fun _ e=>by cases e)⟩
theorem Nm.len {w:World} {P:Nat→Prop} {A:Option Addr} {n c:Nat} {ps:List Int} (h:Nm w P A n c ps):ps.length=n:=h.rd.len
theorem Nm.lt {w:World} {P:Nat→Prop} {A:Option Addr} {n c:Nat} {ps:List Int} (h:Nm w P A n c ps):∀ ad,A=some ad→0<n→ad.block<w.heap.size:=fun ad e hn=>by
 obtain ⟨ad',e',hb,_⟩:=h.rd.at_ hn
 obtain rfl:ad=ad':=by rw [e] at e';injection e'
 exact hb
theorem Nm.on {B g:Nat} {x y:CT} {t':Tm} {w w':World} {A:Option Addr} {n c:Nat} {ps:List Int} (h:Nm w (CB g x) A n c ps) (k:CzTo B g x t' w w' y):Nm w' (CB g y) A n c ps:=by
 refine ⟨h.rd.keep k.out.bel.size fun p hn hA hp=>?_,h.le,h.few,h.rg,fun ad e hn hq=>?_⟩
 · cases hP:A with
   | none=>rw [hP] at hA;cases hA
   | some ad =>
    rw [hP] at hA
    have hA:ad.block=p.block:=by injection hA
    exact World.cell?_of_block (k.out.keep _ hp (by rw [← hA];exact h.off ad hP hn))
 · rcases k.sub _ hq with h1 | h1
   · exact h.off ad e hn h1
   · have:=h.lt ad e hn;omega
theorem Nm.below {w w':World} {P:Nat→Prop} {A:Option Addr} {n c:Nat} {ps:List Int} (h:Nm w P A n c ps) (hb:Below w.heap.size w w'):Nm w' P A n c ps:=⟨h.rd.below hb,h.le,h.few,h.rg,h.off⟩
theorem Nm.num {w:World} {P:Nat→Prop} {A:Option Addr} {n c:Nat} {ps:List Int} (h:Nm w P A n c ps) (i:Nat):0≤ps.getD i 0∧ps.getD i 0≤9999:=by
 by_cases hi:i<ps.length
 · rw [getD_lt hi];exact h.rg _ (List.getElem_mem hi)
 · simp [List.getD,List.getElem?_eq_none (Nat.le_of_not_lt hi)]
theorem max_num {ps:List Int} {i:Nat} (h:0≤ps.getD i 0):max (ps.getD i 0) 1=numP ps i 1:=by
 unfold numP
 split<;>omega
theorem at_any {w:World} {P:Nat→Prop} {A:Option Addr} {n c:Nat} {ps:List Int} (h:Nm w P A n c ps) (i:Nat) (hi:i≤100) :
  Calls Tryz.prog 220 #[.slice A n c,.int .i64 (i:Int)] w fun e w'=>e=.returned (.int .i64 (ps.getD i 0))∧w'=w:=by
 have hl:=h.len
 by_cases hlt:i<n
 · have hr:=h.rd
   obtain ⟨ad,rfl⟩:∃ ad,A=some ad:=by obtain ⟨ad,e,_⟩:=hr.at_ (by omega);exact ⟨ad,e⟩
   have hc:=hr.cell hlt
   have h1:¬ (n:Int)≤(i:Int):=by omega
   have h2:(i:Int)<(n:Int):=by omega
   have h3:(0:Int)≤(i:Int):=by omega
   generalize ps.getD i 0=z at hc ⊢
   clear h hr hl
   go_enter Tryz.func220,Tryz.ntmps220
   go_wp2_with fail
   go_ret
   exact ⟨rfl,rfl⟩
 · have e:ps.getD i 0=0:=by simp [List.getD,List.getElem?_eq_none (show ps.length≤i by omega)]
   rw [e]
   have h1:(n:Int)≤(i:Int):=by omega
   clear h hl e
   go_enter Tryz.func220,Tryz.ntmps220
   go_wp2_with fail
   go_ret
   exact ⟨rfl,rfl⟩
theorem count_any {w:World} {P:Nat→Prop} {A:Option Addr} {n c:Nat} {ps:List Int} (h:Nm w P A n c ps) (i:Nat) (hi:i≤100) :
  Calls Tryz.prog 159 #[.slice A n c,.int .i64 (i:Int)] w fun e w'=>e=.returned (.int .i64 (numP ps i 1))∧w'=w:=by
 have HA:=Lib.hid (at_any h i hi)
 have h0:=(h.num i).1
 rw [← max_num h0]
 clear h h0
 generalize ps.getD i 0=z at HA ⊢
 go_enter Tryz.func159,Tryz.ntmps159
 go_wp2_with fail
 refine HA.out.mono ?_
 rintro e w' ⟨rfl,rfl⟩
 go_wp2_with fail
 go_ret
 exact ⟨rfl,rfl⟩
section
variable {B:Nat} {w:World} {g:Nat} {x:CT}
theorem lastCol_any (h:Cz B w g x):Calls Tryz.prog 82 #[.pointer (some ⟨g,0,none⟩)] w fun e w'=>e=.returned (.int .i64 ((x.t.c:Int)-1))∧w'=w:=by
 have c15:w.cell? ⟨g,15,none⟩=some (.int .i64 x.t.c):=h.cell rfl
 have h1:=h.ok.c1
 clear h
 go_enter Tryz.func82,Tryz.ntmps82
 go_wp2_with fail
 go_ret
 exact ⟨rfl,rfl⟩
theorem lastRow_any (h:Cz B w g x):Calls Tryz.prog 83 #[.pointer (some ⟨g,0,none⟩)] w fun e w'=>e=.returned (.int .i64 ((x.t.r:Int)-1))∧w'=w:=by
 have c16:w.cell? ⟨g,16,none⟩=some (.int .i64 x.t.r):=h.cell rfl
 have h1:=h.ok.r1
 clear h
 go_enter Tryz.func83,Tryz.ntmps83
 go_wp2_with fail
 go_ret
 exact ⟨rfl,rfl⟩
def CT.so (x:CT):Nat:=if x.t.isO then 18 else 15
def CT.sb (x:CT):Nat:=if x.t.isO then x.ob else x.mb
def CT.sN (x:CT):Nat:=if x.t.isO then x.oN else x.mN
def CT.sK (x:CT):Nat:=if x.t.isO then x.oK else x.mK
theorem shown_any (h:Cz B w g x):Calls Tryz.prog 44 #[.pointer (some ⟨g,0,none⟩)] w fun e w'=>e=.returned (.pointer (some ⟨g,x.so,none⟩))∧w'=w:=by
 have c21:w.cell? ⟨g,21,none⟩=some (.bool x.t.isO):=h.cell rfl
 unfold CT.so
 clear h
 cases ho:x.t.isO<;>rw [ho] at c21
 · go_enter Tryz.func44,Tryz.ntmps44
   go_wp2_with fail
   go_ret
   exact ⟨rfl,rfl⟩
 · go_enter Tryz.func44,Tryz.ntmps44
   go_wp2_with fail
   go_ret
   exact ⟨rfl,rfl⟩
theorem Cz.sh (h:Cz B w g x):w.cell? ⟨g,x.so,none⟩=some (.int .i64 x.t.c)∧w.cell? ⟨g,x.so+1,none⟩=some (.int .i64 x.t.r)∧w.cell? ⟨g,x.so+2,none⟩=some (.slice (some ⟨x.sb,0,none⟩) x.sN x.sK):=by
 unfold CT.so CT.sb CT.sN CT.sK
 cases ho:x.t.isO
 · exact ⟨h.cell rfl,h.cell rfl,h.cell rfl⟩
 · exact ⟨h.cell rfl,h.cell rfl,h.cell rfl⟩
theorem Cz.srw (h:Cz B w g x):Rw ceV 66 w x.sb x.t.shown.flatten∧x.sN=x.t.r*x.t.c∧x.sN≤x.sK∧x.sK≤maxLen∧x.t.shown.flatten.length=x.t.r*x.t.c:=by
 have hl:=h.ok.shown.box.flen
 unfold CT.sb CT.sN CT.sK Tm.shown at *
 cases ho:x.t.isO
 · rw [ho] at hl
   exact ⟨h.m,h.mn,h.mkk.1,h.mkk.2,hl⟩
 · rw [ho] at hl
   exact ⟨h.o,h.on,h.okk.1,h.okk.2,hl⟩
end
open Go.RowKit
theorem Nm.one {w:World} {P:Nat→Prop} {A:Option Addr} {n c:Nat} {ps:List Int} (h:Nm w P A n c ps) (i:Nat):1≤numP ps i 1∧numP ps i 1≤9999:=by
 have:=h.num i
 rw [← max_num this.1]
 omega
section
variable {B:Nat} {w:World} {g:Nat} {x:CT} {A:Option Addr} {n c:Nat} {ps:List Int}
set_option maxRecDepth 100000 in
set_option maxHeartbeats 1600000 in
theorem lineStart_any (h:Cz B w g x):Calls Tryz.prog 107 #[.pointer (some ⟨g,0,none⟩),.slice A n c] w (CzP B g x (x.t.atX 0) w):=by
 have c1:w.cell? ⟨g,1,none⟩=some (.int .i64 x.t.now.x):=h.cell rfl
 have f1:w.frozen? ⟨g,1,none⟩=false:=h.fr 1
 have X:=Lib.hid (show ∀ w1,Below w.heap.size w w1→CzP B g x (x.t.atX 0) w (.returned (.tuple #[])) (w1.setCell ⟨g,1,none⟩ (.int .i64 0)) from fun w1 hb=>⟨rfl,_,((h.raw.below hb).set 1 (.int .i64 0)).fin h (y:={ x with t:=x.t.atX 0 }) rfl ⟨rfl,rfl,rfl,rfl,rfl,rfl,rfl,rfl,rfl,rfl,rfl,rfl,rfl,rfl,rfl,rfl,rfl,h.tl⟩ (h.ok.atX (Int.le_refl 0) (by have:=h.ok.c1;omega))⟩)
 clear h
 go_enter Tryz.func107,Tryz.ntmps107
 go_wp2_with fail
 go_end0
 exact X.out _ (Below.refl _ _)
set_option maxRecDepth 100000 in
set_option maxHeartbeats 1600000 in
theorem home_any (h:Cz B w g x):Calls Tryz.prog 222 #[.pointer (some ⟨g,0,none⟩)] w (CzP B g x (x.t.home) w):=by
 cases ho:x.t.now.org
 · have c7:w.cell? ⟨g,7,none⟩=some (.bool false):=ho ▸ h.cell rfl
   have c1:w.cell? ⟨g,1,none⟩=some (.int .i64 x.t.now.x):=h.cell rfl
   have c2:w.cell? ⟨g,2,none⟩=some (.int .i64 x.t.now.y):=h.cell rfl
   have f1:w.frozen? ⟨g,1,none⟩=false:=h.fr 1
   have f2:w.frozen? ⟨g,2,none⟩=false:=h.fr 2
   have e:x.t.home=(x.t.atX 0).atY 0:=by unfold Tm.home;rw [ho];rfl
   have X:=Lib.hid (show ∀ w1,Below w.heap.size w w1→CzP B g x (x.t.home) w (.returned (.tuple #[])) ((w1.setCell ⟨g,1,none⟩ (.int .i64 0)).setCell ⟨g,2,none⟩ (.int .i64 0)) from fun w1 hb=>⟨rfl,_,(((h.raw.below hb).set 1 (.int .i64 0)).set 2 (.int .i64 0)).fin h (y:={ x with t:=x.t.home }) (by rw [e];rfl) ⟨rfl,rfl,rfl,rfl,rfl,rfl,rfl,rfl,rfl,rfl,rfl,rfl,rfl,rfl,rfl,rfl,rfl,h.tl⟩ (h.ok.home)⟩)
   clear h e
   go_enter Tryz.func222,Tryz.ntmps222
   go_wp2_with fail
   go_end0
   exact X.out _ (Below.refl _ _)
 · have c7:w.cell? ⟨g,7,none⟩=some (.bool true):=ho ▸ h.cell rfl
   have c1:w.cell? ⟨g,1,none⟩=some (.int .i64 x.t.now.x):=h.cell rfl
   have c2:w.cell? ⟨g,2,none⟩=some (.int .i64 x.t.now.y):=h.cell rfl
   have c23:w.cell? ⟨g,23,none⟩=some (.int .i64 x.t.top):=h.cell rfl
   have f1:w.frozen? ⟨g,1,none⟩=false:=h.fr 1
   have f2:w.frozen? ⟨g,2,none⟩=false:=h.fr 2
   have e:x.t.home=(x.t.atX 0).atY x.t.top:=by unfold Tm.home;rw [ho];rfl
   have X:=Lib.hid (show ∀ w1,Below w.heap.size w w1→CzP B g x (x.t.home) w (.returned (.tuple #[])) (((w1.setCell ⟨g,1,none⟩ (.int .i64 0)).setCell ⟨g,2,none⟩ (.int .i64 0)).setCell ⟨g,2,none⟩ (.int .i64 x.t.top)) from fun w1 hb=>⟨rfl,_,((((h.raw.below hb).set 1 (.int .i64 0)).set 2 (.int .i64 0)).set 2 (.int .i64 x.t.top)).fin h (y:={ x with t:=x.t.home }) (by rw [e];rfl) ⟨rfl,rfl,rfl,rfl,rfl,rfl,rfl,rfl,rfl,rfl,rfl,rfl,rfl,rfl,rfl,rfl,rfl,h.tl⟩ (h.ok.home)⟩)
   clear h e
   go_enter Tryz.func222,Tryz.ntmps222
   go_wp2_with fail
   go_end0
   exact X.out _ (Below.refl _ _)
set_option maxRecDepth 100000 in
set_option maxHeartbeats 1600000 in
theorem freeMargins_any (h:Cz B w g x):Calls Tryz.prog 38 #[.pointer (some ⟨g,0,none⟩)] w (CzP B g x ({ x.t with top:=0,bot:=x.t.r-1 }) w):=by
 have HR:=Lib.hid (lastRow_any h)
 have r1:=h.ok.r1
 have c23:w.cell? ⟨g,23,none⟩=some (.int .i64 x.t.top):=h.cell rfl
 have c24:w.cell? ⟨g,24,none⟩=some (.int .i64 x.t.bot):=h.cell rfl
 have f23:w.frozen? ⟨g,23,none⟩=false:=h.fr 23
 have f24:w.frozen? ⟨g,24,none⟩=false:=h.fr 24
 have X:=Lib.hid (show ∀ w1,Below w.heap.size w w1→CzP B g x ({ x.t with top:=0,bot:=x.t.r-1 }) w (.returned (.tuple #[])) ((w1.setCell ⟨g,23,none⟩ (.int .i64 0)).setCell ⟨g,24,none⟩ (.int .i64 ((x.t.r:Int)-1))) from fun w1 hb=>⟨rfl,_,(((h.raw.below hb).set 23 (.int .i64 0)).set 24 (.int .i64 ((x.t.r:Int)-1))).fin h (y:={ x with t:={ x.t with top:=0,bot:=x.t.r-1 } }) rfl ⟨rfl,rfl,rfl,rfl,rfl,rfl,rfl,rfl,rfl,rfl,rfl,rfl,rfl,rfl,rfl,rfl,rfl,h.tl⟩ ({ h.ok with t0:=Int.le_refl 0,tb:=by show (0:Int)≤x.t.r-1;omega,b1:=by show (x.t.r:Int)-1<x.t.r;omega })⟩)
 clear h r1
 go_enter Tryz.func38,Tryz.ntmps38
 go_wp2_with fail
 refine HR.out.mono ?_
 rintro e w1 ⟨rfl,hw1⟩
 obtain rfl:=hw1.symm
 clear hw1
 go_wp2_with fail
 go_end0
 exact X.out _ (Below.refl _ _)
set_option maxRecDepth 100000 in
set_option maxHeartbeats 1600000 in
theorem save_any (h:Cz B w g x):Calls Tryz.prog 108 #[.pointer (some ⟨g,0,none⟩),.slice A n c] w (CzP B g x ({ x.t with sav:=x.t.now }) w):=by
 have c1:w.cell? ⟨g,1,none⟩=some (.int .i64 x.t.now.x):=h.cell rfl
 have c2:w.cell? ⟨g,2,none⟩=some (.int .i64 x.t.now.y):=h.cell rfl
 have c3:w.cell? ⟨g,3,none⟩=some (.int .u32 x.t.now.pen.fg):=h.cell rfl
 have c4:w.cell? ⟨g,4,none⟩=some (.int .u32 x.t.now.pen.bg):=h.cell rfl
 have c5:w.cell? ⟨g,5,none⟩=some (.int .u8 x.t.now.pen.st):=h.cell rfl
 have c6:w.cell? ⟨g,6,none⟩=some (.int .u16 x.t.now.pen.lk):=h.cell rfl
 have c7:w.cell? ⟨g,7,none⟩=some (.bool x.t.now.org):=h.cell rfl
 have c8:w.cell? ⟨g,8,none⟩=some (.int .i64 x.t.sav.x):=h.cell rfl
 have c9:w.cell? ⟨g,9,none⟩=some (.int .i64 x.t.sav.y):=h.cell rfl
 have c10:w.cell? ⟨g,10,none⟩=some (.int .u32 x.t.sav.pen.fg):=h.cell rfl
 have c11:w.cell? ⟨g,11,none⟩=some (.int .u32 x.t.sav.pen.bg):=h.cell rfl
 have c12:w.cell? ⟨g,12,none⟩=some (.int .u8 x.t.sav.pen.st):=h.cell rfl
 have c13:w.cell? ⟨g,13,none⟩=some (.int .u16 x.t.sav.pen.lk):=h.cell rfl
 have c14:w.cell? ⟨g,14,none⟩=some (.bool x.t.sav.org):=h.cell rfl
 have f8:w.frozen? ⟨g,8,none⟩=false:=h.fr 8
 have f9:w.frozen? ⟨g,9,none⟩=false:=h.fr 9
 have f10:w.frozen? ⟨g,10,none⟩=false:=h.fr 10
 have f11:w.frozen? ⟨g,11,none⟩=false:=h.fr 11
 have f12:w.frozen? ⟨g,12,none⟩=false:=h.fr 12
 have f13:w.frozen? ⟨g,13,none⟩=false:=h.fr 13
 have f14:w.frozen? ⟨g,14,none⟩=false:=h.fr 14
 have X:=Lib.hid (show ∀ w1,Below w.heap.size w w1→CzP B g x ({ x.t with sav:=x.t.now }) w (.returned (.tuple #[])) (((((((w1.setCell ⟨g,8,none⟩ (.int .i64 x.t.now.x)).setCell ⟨g,9,none⟩ (.int .i64 x.t.now.y)).setCell ⟨g,10,none⟩ (.int .u32 x.t.now.pen.fg)).setCell ⟨g,11,none⟩ (.int .u32 x.t.now.pen.bg)).setCell ⟨g,12,none⟩ (.int .u8 x.t.now.pen.st)).setCell ⟨g,13,none⟩ (.int .u16 x.t.now.pen.lk)).setCell ⟨g,14,none⟩ (.bool x.t.now.org)) from fun w1 hb=>⟨rfl,_,((((((((h.raw.below hb).set 8 (.int .i64 x.t.now.x)).set 9 (.int .i64 x.t.now.y)).set 10 (.int .u32 x.t.now.pen.fg)).set 11 (.int .u32 x.t.now.pen.bg)).set 12 (.int .u8 x.t.now.pen.st)).set 13 (.int .u16 x.t.now.pen.lk)).set 14 (.bool x.t.now.org)).fin h (y:={ x with t:={ x.t with sav:=x.t.now } }) rfl ⟨rfl,rfl,rfl,rfl,rfl,rfl,rfl,rfl,rfl,rfl,rfl,rfl,rfl,rfl,rfl,rfl,rfl,h.tl⟩ ({ h.ok with sx:=h.ok.x0,sy:=h.ok.y0,sp:=h.ok.pen })⟩)
 clear h
 go_enter Tryz.func108,Tryz.ntmps108
 go_wp2_with fail
 go_end0
 exact X.out _ (Below.refl _ _)
theorem Cz.atX (h:Cz B w g x) {z:Int} (h0:0≤z) (h1:z<x.t.c):∀ w1,Below w.heap.size w w1→CzP B g x (x.t.atX z) w (.returned (.tuple #[])) (w1.setCell ⟨g,1,none⟩ (.int .i64 z)):=fun _ hb=>⟨rfl,_,((h.raw.below hb).set 1 (.int .i64 z)).fin h (y:={ x with t:=x.t.atX z }) rfl ⟨rfl,rfl,rfl,rfl,rfl,rfl,rfl,rfl,rfl,rfl,rfl,rfl,rfl,rfl,rfl,rfl,rfl,h.tl⟩ (h.ok.atX h0 h1)⟩
theorem Cz.atY (h:Cz B w g x) {z:Int} (h0:0≤z) (h1:z<x.t.r):∀ w1,Below w.heap.size w w1→CzP B g x (x.t.atY z) w (.returned (.tuple #[])) (w1.setCell ⟨g,2,none⟩ (.int .i64 z)):=fun _ hb=>⟨rfl,_,((h.raw.below hb).set 2 (.int .i64 z)).fin h (y:={ x with t:=x.t.atY z }) rfl ⟨rfl,rfl,rfl,rfl,rfl,rfl,rfl,rfl,rfl,rfl,rfl,rfl,rfl,rfl,rfl,rfl,rfl,h.tl⟩ (h.ok.atY h0 h1)⟩
set_option maxRecDepth 100000 in
set_option maxHeartbeats 1600000 in
theorem right_any (h:Cz B w g x) (hN:Nm w (CB g x) A n c ps):Calls Tryz.prog 160 #[.pointer (some ⟨g,0,none⟩),.slice A n c] w (CzP B g x (Dd.right.run ps x.t) w):=by
 have HC:=Lib.hid (count_any (hN.below (Below.refl _ _).drew) 0 (by omega))
 have n1:=hN.one 0
 have HL:=Lib.hid (lastCol_any (h.below (Below.refl _ _).drew))
 have zc:=h.ok.c1
 have zr:=h.ok.r1
 have zx0:=h.ok.x0
 have zx1:=h.ok.x1
 have zy0:=h.ok.y0
 have zy1:=h.ok.y1
 have zt0:=h.ok.t0
 have ztb:=h.ok.tb
 have zb1:=h.ok.b1
 show Calls _ _ _ _ (CzP B g x (x.t.atX (min (x.t.now.x+numP ps 0 1) (x.t.c-1))) w)
 generalize numP ps 0 1=N at HC n1 ⊢
 have c1:w.cell? ⟨g,1,none⟩=some (.int .i64 x.t.now.x):=h.cell rfl
 have f1:w.drew.frozen? ⟨g,1,none⟩=false:=h.fr 1
 have e1:w.drew.cell? ⟨g,1,none⟩=some (.int .i64 x.t.now.x):=h.cell rfl
 have X:=Lib.hid (h.atX (z:=min (x.t.now.x+N) (x.t.c-1)) (by omega) (by omega))
 have HD:=Lib.hid (show Below w.heap.size w w.drew from (Below.refl _ _).drew)
 have k0:wrap64 (x.t.now.x+N)=x.t.now.x+N:=by unfold wrap64;omega
 have j0:IntKind.i64.wrap (x.t.now.x+N)=x.t.now.x+N:=by rw [IntKind.wrap_i64];omega
 clear h hN zc zr zx0 zx1 zy0 zy1 zt0 ztb zb1
 go_enter Tryz.func160,Tryz.ntmps160
 go_wp2_with fail
 go_still_tail 17,(by kernel_rfl)
 still_call HC.out
 repeat still_step
 still_call HL.out
 repeat still_step
 refine wpStill_nil ?_
 change wpList _ _ _ _ _ w.drew
 generalize w.drew=w2 at f1 e1 HD ⊢
 go_wp2_with fail
 go_end0
 exact X.out _ HD.out
set_option maxRecDepth 100000 in
set_option maxHeartbeats 1600000 in
theorem toColumn_any (h:Cz B w g x) (hN:Nm w (CB g x) A n c ps):Calls Tryz.prog 166 #[.pointer (some ⟨g,0,none⟩),.slice A n c] w (CzP B g x (Dd.toColumn.run ps x.t) w):=by
 have HC:=Lib.hid (count_any hN 0 (by omega))
 have n1:=hN.one 0
 have HL:=Lib.hid (lastCol_any h)
 have zc:=h.ok.c1
 have zr:=h.ok.r1
 have zx0:=h.ok.x0
 have zx1:=h.ok.x1
 have zy0:=h.ok.y0
 have zy1:=h.ok.y1
 have zt0:=h.ok.t0
 have ztb:=h.ok.tb
 have zb1:=h.ok.b1
 show Calls _ _ _ _ (CzP B g x (x.t.atX (min (numP ps 0 1-1) (x.t.c-1))) w)
 generalize numP ps 0 1=N at HC n1 ⊢
 have c1:w.cell? ⟨g,1,none⟩=some (.int .i64 x.t.now.x):=h.cell rfl
 have f1:w.frozen? ⟨g,1,none⟩=false:=h.fr 1
 have X:=Lib.hid (h.atX (z:=min (N-1) (x.t.c-1)) (by omega) (by omega))
 have k0:wrap64 (N-1)=N-1:=by unfold wrap64;omega
 have j0:IntKind.i64.wrap (N-1)=N-1:=by rw [IntKind.wrap_i64];omega
 clear h hN zc zr zx0 zx1 zy0 zy1 zt0 ztb zb1
 go_enter Tryz.func166,Tryz.ntmps166
 go_wp2_with fail
 refine HC.out.mono ?_
 rintro e w1 ⟨rfl,hw1⟩
 obtain rfl:=hw1.symm
 clear hw1
 go_wp2_with fail
 refine HL.out.mono ?_
 rintro e w1 ⟨rfl,hw1⟩
 obtain rfl:=hw1.symm
 clear hw1
 go_wp2_with fail
 go_end0
 exact X.out _ (Below.refl _ _)
set_option maxRecDepth 100000 in
set_option maxHeartbeats 1600000 in
theorem up_any (h:Cz B w g x) (hN:Nm w (CB g x) A n c ps):Calls Tryz.prog 162 #[.pointer (some ⟨g,0,none⟩),.slice A n c] w (CzP B g x (Dd.up.run ps x.t) w):=by
 have HZ:=Lib.hid h
 have HM:=Lib.hid hN
 have n1:=hN.one 0
 have zc:=h.ok.c1
 have zr:=h.ok.r1
 have zx0:=h.ok.x0
 have zx1:=h.ok.x1
 have zy0:=h.ok.y0
 have zy1:=h.ok.y1
 have zt0:=h.ok.t0
 have ztb:=h.ok.tb
 have zb1:=h.ok.b1
 show Calls _ _ _ _ (CzP B g x (x.t.atY (if x.t.now.y≥x.t.top then max (x.t.now.y-numP ps 0 1) x.t.top else max (x.t.now.y-numP ps 0 1) 0)) w)
 have HC:=Lib.hid (show ∀ w',Below w.heap.size w w'→Calls Tryz.prog 159 #[.slice A n c,.int .i64 0] w' fun e w''=>e=.returned (.int .i64 (numP ps 0 1))∧w''=w' from fun w' hb=>count_any (HM.out.below hb) 0 (by omega))
 generalize numP ps 0 1=N at HC n1 ⊢
 by_cases hc:x.t.now.y≥x.t.top
 · rw [if_pos hc]
   have X:=Lib.hid (h.atY (z:=max (x.t.now.y-N) x.t.top) (by omega) (by omega))
   have k0:wrap64 (x.t.now.y-N)=x.t.now.y-N:=by unfold wrap64;omega
   have j0:IntKind.i64.wrap (x.t.now.y-N)=x.t.now.y-N:=by rw [IntKind.wrap_i64];omega
   have c2:w.cell? ⟨g,2,none⟩=some (.int .i64 x.t.now.y):=h.cell rfl
   have c23:w.cell? ⟨g,23,none⟩=some (.int .i64 x.t.top):=h.cell rfl
   clear h hN zc zr zx0 zx1 zy0 zy1 zt0 ztb zb1
   go_enter Tryz.func162,Tryz.ntmps162
   go_wp2_with fail
   go_quiet (fail)
   go_wp2_with fail
   generalize hw2:w.drewN nq=w2
   have hb2:Below w.heap.size w w2:=by rw [← hw2];exact belowN (Below.refl _ _) _
   clear hw2
   have c2:w2.cell? ⟨g,2,none⟩=some (.int .i64 x.t.now.y):=(HZ.out.below hb2).cell rfl
   have f2:w2.drew.frozen? ⟨g,2,none⟩=false:=(HZ.out.below hb2).fr 2
   have e2:w2.drew.cell? ⟨g,2,none⟩=some (.int .i64 x.t.now.y):=(HZ.out.below hb2).cell rfl
   have HD:=Lib.hid (show Below w.heap.size w w2.drew from hb2.drew)
   clear hb2
   go_still_tail 16,(by kernel_rfl)
   still_call (HC.out _ HD.out)
   repeat still_step
   refine wpStill_nil ?_
   change wpList _ _ _ _ _ w2.drew
   generalize w2.drew=w3 at f2 e2 HD ⊢
   go_wp2_with fail
   go_end0
   exact X.out _ HD.out
 · rw [if_neg hc]
   have hc:=Int.not_le.1 hc
   have X:=Lib.hid (h.atY (z:=max (x.t.now.y-N) 0) (by omega) (by omega))
   have k0:wrap64 (x.t.now.y-N)=x.t.now.y-N:=by unfold wrap64;omega
   have j0:IntKind.i64.wrap (x.t.now.y-N)=x.t.now.y-N:=by rw [IntKind.wrap_i64];omega
   have c2:w.cell? ⟨g,2,none⟩=some (.int .i64 x.t.now.y):=h.cell rfl
   have c23:w.cell? ⟨g,23,none⟩=some (.int .i64 x.t.top):=h.cell rfl
   clear h hN zc zr zx0 zx1 zy0 zy1 zt0 ztb zb1
   go_enter Tryz.func162,Tryz.ntmps162
   go_wp2_with fail
   go_quiet (fail)
   go_wp2_with fail
   generalize hw2:w.drewN nq=w2
   have hb2:Below w.heap.size w w2:=by rw [← hw2];exact belowN (Below.refl _ _) _
   clear hw2
   have c2:w2.cell? ⟨g,2,none⟩=some (.int .i64 x.t.now.y):=(HZ.out.below hb2).cell rfl
   have f2:w2.drew.frozen? ⟨g,2,none⟩=false:=(HZ.out.below hb2).fr 2
   have e2:w2.drew.cell? ⟨g,2,none⟩=some (.int .i64 x.t.now.y):=(HZ.out.below hb2).cell rfl
   have HD:=Lib.hid (show Below w.heap.size w w2.drew from hb2.drew)
   clear hb2
   go_still_tail 16,(by kernel_rfl)
   still_call (HC.out _ HD.out)
   repeat still_step
   refine wpStill_nil ?_
   change wpList _ _ _ _ _ w2.drew
   generalize w2.drew=w3 at f2 e2 HD ⊢
   go_wp2_with fail
   go_end0
   exact X.out _ HD.out
set_option maxRecDepth 100000 in
set_option maxHeartbeats 1600000 in
theorem down_any (h:Cz B w g x) (hN:Nm w (CB g x) A n c ps):Calls Tryz.prog 163 #[.pointer (some ⟨g,0,none⟩),.slice A n c] w (CzP B g x (Dd.down.run ps x.t) w):=by
 have HZ:=Lib.hid h
 have HM:=Lib.hid hN
 have n1:=hN.one 0
 have zc:=h.ok.c1
 have zr:=h.ok.r1
 have zx0:=h.ok.x0
 have zx1:=h.ok.x1
 have zy0:=h.ok.y0
 have zy1:=h.ok.y1
 have zt0:=h.ok.t0
 have ztb:=h.ok.tb
 have zb1:=h.ok.b1
 show Calls _ _ _ _ (CzP B g x (x.t.atY (if x.t.now.y≤x.t.bot then min (x.t.now.y+numP ps 0 1) x.t.bot else min (x.t.now.y+numP ps 0 1) (x.t.r-1))) w)
 have HC:=Lib.hid (show ∀ w',Below w.heap.size w w'→Calls Tryz.prog 159 #[.slice A n c,.int .i64 0] w' fun e w''=>e=.returned (.int .i64 (numP ps 0 1))∧w''=w' from fun w' hb=>count_any (HM.out.below hb) 0 (by omega))
 generalize numP ps 0 1=N at HC n1 ⊢
 have HR:=Lib.hid (lastRow_any h)
 by_cases hc:x.t.now.y≤x.t.bot
 · rw [if_pos hc]
   have X:=Lib.hid (h.atY (z:=min (x.t.now.y+N) x.t.bot) (by omega) (by omega))
   have k0:wrap64 (x.t.now.y+N)=x.t.now.y+N:=by unfold wrap64;omega
   have j0:IntKind.i64.wrap (x.t.now.y+N)=x.t.now.y+N:=by rw [IntKind.wrap_i64];omega
   have c2:w.cell? ⟨g,2,none⟩=some (.int .i64 x.t.now.y):=h.cell rfl
   have c24:w.cell? ⟨g,24,none⟩=some (.int .i64 x.t.bot):=h.cell rfl
   clear h hN zc zr zx0 zx1 zy0 zy1 zt0 ztb zb1
   go_enter Tryz.func163,Tryz.ntmps163
   go_wp2_with fail
   refine HR.out.mono ?_
   rintro e w1 ⟨rfl,hw1⟩
   obtain rfl:=hw1.symm
   clear hw1
   go_wp2_with fail
   go_quiet (fail)
   go_wp2_with fail
   generalize hw2:w.drewN nq=w2
   have hb2:Below w.heap.size w w2:=by rw [← hw2];exact belowN (Below.refl _ _) _
   clear hw2
   have c2:w2.cell? ⟨g,2,none⟩=some (.int .i64 x.t.now.y):=(HZ.out.below hb2).cell rfl
   have f2:w2.drew.frozen? ⟨g,2,none⟩=false:=(HZ.out.below hb2).fr 2
   have e2:w2.drew.cell? ⟨g,2,none⟩=some (.int .i64 x.t.now.y):=(HZ.out.below hb2).cell rfl
   have HD:=Lib.hid (show Below w.heap.size w w2.drew from hb2.drew)
   clear hb2
   go_still_tail 16,(by kernel_rfl)
   still_call (HC.out _ HD.out)
   repeat still_step
   refine wpStill_nil ?_
   change wpList _ _ _ _ _ w2.drew
   generalize w2.drew=w3 at f2 e2 HD ⊢
   go_wp2_with fail
   go_end0
   exact X.out _ HD.out
 · rw [if_neg hc]
   have hc:=Int.not_le.1 hc
   have X:=Lib.hid (h.atY (z:=min (x.t.now.y+N) (x.t.r-1)) (by omega) (by omega))
   have k0:wrap64 (x.t.now.y+N)=x.t.now.y+N:=by unfold wrap64;omega
   have j0:IntKind.i64.wrap (x.t.now.y+N)=x.t.now.y+N:=by rw [IntKind.wrap_i64];omega
   have c2:w.cell? ⟨g,2,none⟩=some (.int .i64 x.t.now.y):=h.cell rfl
   have c24:w.cell? ⟨g,24,none⟩=some (.int .i64 x.t.bot):=h.cell rfl
   clear h hN zc zr zx0 zx1 zy0 zy1 zt0 ztb zb1
   go_enter Tryz.func163,Tryz.ntmps163
   go_wp2_with fail
   refine HR.out.mono ?_
   rintro e w1 ⟨rfl,hw1⟩
   obtain rfl:=hw1.symm
   clear hw1
   go_wp2_with fail
   go_quiet (fail)
   go_wp2_with fail
   generalize hw2:w.drewN nq=w2
   have hb2:Below w.heap.size w w2:=by rw [← hw2];exact belowN (Below.refl _ _) _
   clear hw2
   have c2:w2.cell? ⟨g,2,none⟩=some (.int .i64 x.t.now.y):=(HZ.out.below hb2).cell rfl
   have f2:w2.drew.frozen? ⟨g,2,none⟩=false:=(HZ.out.below hb2).fr 2
   have e2:w2.drew.cell? ⟨g,2,none⟩=some (.int .i64 x.t.now.y):=(HZ.out.below hb2).cell rfl
   have HD:=Lib.hid (show Below w.heap.size w w2.drew from hb2.drew)
   clear hb2
   go_still_tail 16,(by kernel_rfl)
   still_call (HC.out _ HD.out)
   repeat still_step
   refine wpStill_nil ?_
   change wpList _ _ _ _ _ w2.drew
   generalize w2.drew=w3 at f2 e2 HD ⊢
   go_wp2_with fail
   go_end0
   exact X.out _ HD.out
end
end Go.Proofs.YtlcipgdnpilkfaaGreatDoor
