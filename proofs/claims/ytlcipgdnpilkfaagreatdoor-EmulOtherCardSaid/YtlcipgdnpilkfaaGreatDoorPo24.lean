/-
  Part 24 of what the laws of emul want: EmulTabs, EmulPenS.
-/
import Derived.Test.YtlcipgdnpilkfaaGreatDoorPo14
import Derived.Test.YtlcipgdnpilkfaaGreatDoorPo23
namespace Go.Proofs.YtlcipgdnpilkfaaGreatDoor
open Go.RowKit
section
variable {B:Nat} {w:World} {g:Nat} {x:CT} {A:Option Addr} {n c:Nat} {ps:List Int}
structure Ahd (u:Tm) (v:Nat):Prop where
 le:(v:Int)≤u.c-1
 no:∀ j:Nat,u.now.x<(j:Int)→j<v→u.hasTab j=false
 lt:u.now.x<(v:Int)∨(v:Int)=u.c-1
theorem Ahd.fin {u:Tm} {v:Nat} (h:Ahd u v) (hs:(v:Int)=u.c-1∨u.hasTab v=true):u.tab=u.atX v:=by
 have hle:=h.le
 by_cases ht:u.hasTab v=true∧u.now.x<(v:Int)
 · exact tab_is ht.2 (by omega) ht.1 h.no
 · have hv:(v:Int)=u.c-1:=by
    rcases hs with hs | hs
    · exact hs
    · rcases h.lt with hl | hl
      · exact absurd ⟨hs,hl⟩ ht
      · exact hl
   rw [hv]
   refine tab_none fun j h1 h2=>?_
   by_cases hj:j=v
   · subst hj
     cases hh:u.hasTab j
     · rfl
     · exact absurd ⟨hh,h1⟩ ht
   · exact h.no j h1 (by omega)
theorem Ahd.next {u:Tm} {v:Nat} (h:Ahd u v) (ht:u.hasTab v=false) (hl:(v:Int)<u.c-1):Ahd u (v+1):=by
 have h1:=h.lt
 refine ⟨by omega,fun j h2 h3=>?_,by omega⟩
 by_cases e:j=v
 · rw [e];exact ht
 · exact h.no j h2 (by omega)
structure Bck (u:Tm) (v:Nat):Prop where
 no:∀ j:Nat,v<j→(j:Int)<u.now.x→u.hasTab j=false
 lt:(v:Int)<u.now.x∨v=0
 c:(v:Int)<u.c
theorem Bck.fin {u:Tm} {v:Nat} (h:Bck u v) (hs:v=0∨u.hasTab v=true):u.tabBack=u.atX v:=by
 have hc:=h.c
 by_cases hv:v=0
 · subst hv
   exact tabBack_none fun j h1 h2=>h.no j h1 h2
 · rcases h.lt with hl | hl
   · rcases hs with hs | hs
     · exact absurd hs hv
     · exact tabBack_at (by omega) hl (by omega) hs h.no
   · exact absurd hl hv
theorem Bck.next {u:Tm} {v:Nat} (h:Bck u v) (ht:u.hasTab v=false) (hv:0<v):Bck u (v-1):=by
 have h1:=h.lt
 have h2:=h.c
 refine ⟨fun j h3 h4=>?_,by omega,by omega⟩
 by_cases e:j=v
 · rw [e];exact ht
 · exact h.no j (by omega) h4
set_option maxRecDepth 100000 in
set_option maxHeartbeats 1600000 in
theorem leftT_any (h:Cz B w g x) (hN:Nm w (CB g x) A n c ps):Calls Tryz.prog 104 #[.pointer (some ⟨g,0,none⟩),.slice A n c] w (CzP B g x (Dd.left.run ps x.t) w):=by
 have HC:=Lib.hid (count_any (hN.below (Below.refl _ _).drew) 0 (by omega))
 have n1:=hN.one 0
 have zc:=h.ok.c1
 have zr:=h.ok.r1
 have zx0:=h.ok.x0
 have zx1:=h.ok.x1
 have zy0:=h.ok.y0
 have zy1:=h.ok.y1
 have zt0:=h.ok.t0
 have ztb:=h.ok.tb
 have zb1:=h.ok.b1
 show Calls _ _ _ _ (CzP B g x (x.t.atX (max (x.t.now.x-numP ps 0 1) 0)) w)
 generalize numP ps 0 1=N at HC n1 ⊢
 have c1:w.cell? ⟨g,1,none⟩=some (.int .i64 x.t.now.x):=h.cell rfl
 have f1:w.drew.frozen? ⟨g,1,none⟩=false:=h.fr 1
 have e1:w.drew.cell? ⟨g,1,none⟩=some (.int .i64 x.t.now.x):=h.cell rfl
 have X:=Lib.hid (h.atX (z:=max (x.t.now.x-N) 0) (by omega) (by omega))
 have HD:=Lib.hid (show Below w.heap.size w w.drew from (Below.refl _ _).drew)
 have k0:wrap64 (x.t.now.x-N)=x.t.now.x-N:=by unfold wrap64;omega
 have j0:IntKind.i64.wrap (x.t.now.x-N)=x.t.now.x-N:=by rw [IntKind.wrap_i64];omega
 clear h hN zc zr zx0 zx1 zy0 zy1 zt0 ztb zb1
 go_enter Tryz.func104,Tryz.ntmps104
 go_wp2_with fail
 go_still_tail 15,(by kernel_rfl)
 still_call HC.out
 repeat still_step
 refine wpStill_nil ?_
 change wpList _ _ _ _ _ w.drew
 generalize w.drew=w2 at f1 e1 HD ⊢
 go_wp2_with fail
 go_end0
 exact X.out _ HD.out
set_option maxRecDepth 100000 in
set_option maxHeartbeats 1600000 in
theorem tabAhead_any (h:Cz B w g x) (hN:Nm w (CB g x) A n c ps):Calls Tryz.prog 105 #[.pointer (some ⟨g,0,none⟩),.slice A n c] w (CzP B g x (Dd.tabAhead.run ps x.t) w):=by
 have HZ:=Lib.hid h
 have HC:=Lib.hid (count_any hN 0 (by omega))
 have n1:=hN.one 0
 show Calls _ _ _ _ (CzP B g x (iterS Tm.tab (numP ps 0 1).toNat x.t) w)
 obtain ⟨N,hNN⟩:∃ N:Nat,numP ps 0 1=(N:Int):=⟨(numP ps 0 1).toNat,by omega⟩
 rw [hNN] at HC n1 ⊢
 rw [Int.toNat_natCast]
 clear hNN h hN
 go_enter Tryz.func105,Tryz.ntmps105
 go_wp2_with fail
 refine HC.out.mono ?_
 rintro e w1 ⟨rfl,hw1⟩
 obtain rfl:=hw1.symm
 clear hw1
 go_wp2_with fail
 go_loopw [6] (fun i wr=>∃ (k:Nat) (y:CT),k≤N∧i=.int .i64 k∧CzTo B g x (iterS Tm.tab k x.t) w wr y) (fun i _=>N-(intOf i).toNat)
 case atStart=>exact ⟨0,x,Nat.zero_le _,rfl,CzTo.refl HZ.out⟩
 case round =>
  obtain ⟨k,y,hk,rfl,hy⟩:=hrel
  have Y:=Lib.hid hy
  clear hy
  generalize wr=wo at Y ⊢
  by_cases hlt:k<N
  · have k1:(k:Int)<(N:Int):=by omega
    go_wp2_with fail
    refine (right_any Y.out.cz (Nm.nil _ _)).mono ?_
    rintro e w2 ⟨rfl,z,hz⟩
    have Z:=Lib.hid (show CzTo B g y (y.t.atX (min (y.t.now.x+1) (y.t.c-1))) wo w2 z from hz.as rfl)
    clear hz
    have hc1:=Y.out.cz.ok.c1
    have hx0:=Y.out.cz.ok.x0
    have hx1:=Y.out.cz.ok.x1
    obtain ⟨v0,hv0⟩:∃ v0:Nat,min (y.t.now.x+1) (y.t.c-1)=(v0:Int):=⟨(min (y.t.now.x+1) (y.t.c-1)).toNat,by omega⟩
    have A0:=Lib.hid (show Ahd y.t v0 from ⟨by omega,(fun j h1 h2=>by omega),by omega⟩)
    have Z0:=Lib.hid (show CzTo B g y (y.t.atX v0) wo w2 z from by rw [← hv0];exact Z.out)
    clear Z hv0 hc1 hx0 hx1
    go_wp2_with fail
    go_loopw [] (fun ws=>∃ (v:Nat) (z:CT),Ahd y.t v∧CzTo B g y (y.t.atX v) wo ws z) (fun ws=>y.t.c-(intOf ((ws.cell? ⟨g,1,none⟩).getD (.int .i64 0))).toNat)
    case atStart=>exact ⟨v0,z,A0.out,Z0.out⟩
    case round =>
     obtain ⟨v,z,ha,hz⟩:=hrel
     have A1:=Lib.hid ha
     have Z1:=Lib.hid hz
     have hc80:=Y.out.cz.ok.c1
     have v80:v<80:=by have:=ha.le;omega
     have c1:wr.cell? ⟨g,1,none⟩=some (.int .i64 (v:Int)):=by have e:=hz.cz.cell (k:=1) (v:=.int .i64 z.t.now.x) rfl;rw [hz.t] at e;exact e
     have et:wr.cell? ⟨g,29+v,none⟩=some (.bool (y.t.hasTab v)):=by have e:=hz.cz.cell (ctV_tab (x:=z) (i:=v) (by rw [hz.cz.ok.tabs];exact v80));rw [hz.t] at e;exact e
     have HL:=Lib.hid (show ∀ q,Calls Tryz.prog 82 #[.pointer (some ⟨g,0,none⟩)] (wr.drewN q) (fun e w'=>e=.returned (.int .i64 ((y.t.c:Int)-1))∧w'=wr.drewN q) from fun q=>by have e:=lastCol_any (hz.cz.below (belowN (Below.refl _ _) q));rw [show z.t.c=y.t.c from by rw [hz.t];rfl] at e;exact e)
     have i0:(0:Int)≤(v:Int):=by omega
     have i1:(v:Int)<80:=by omega
     have HM:=Lib.hid (show (intOf ((wr.cell? ⟨g,1,none⟩).getD (.int .i64 0)))=(v:Int) from by rw [c1];rfl)
     clear ha hz
     by_cases h1:(v:Int)<y.t.c-1
     · cases ht:y.t.hasTab v
       · rw [ht] at et
         have AN:=Lib.hid (A1.out.next ht h1)
         clear ht hc80
         go_wp2_with fail
         go_quiet ((go_at_call 82;exact Calls.quiet_of_same (HL.out _)))
         generalize hw2:wr.drewN nq=w2
         have hb2:Below wr.heap.size wr w2:=by rw [← hw2];exact belowN (Below.refl _ _) _
         clear hw2
         have Z2:=Lib.hid (Z1.out.below hb2)
         clear hb2 c1 et Z1
         have c1:w2.cell? ⟨g,1,none⟩=some (.int .i64 (v:Int)):=by have e:=Z2.out.cz.cell (k:=1) (v:=.int .i64 z.t.now.x) rfl;rw [Z2.out.t] at e;exact e
         have f1:=Z2.out.cz.fr 1
         have hcz:z.t.c=y.t.c:=by rw [Z2.out.t];rfl
         obtain ⟨_,z2,hz2⟩:=Z2.out.cz.atX (z:=(v:Int)+1) (by omega) (by rw [hcz];omega) w2 (Below.refl _ _)
         have ZN:=Lib.hid ((Z2.out.trans hz2).as (show z.t.atX ((v:Int)+1)=y.t.atX (((v+1:Nat):Int)) from by rw [Z2.out.t];rfl))
         have HM2:=Lib.hid (show ((w2.setCell ⟨g,1,none⟩ (.int .i64 ((v:Int)+1))).cell? ⟨g,1,none⟩)=some (.int .i64 ((v+1:Nat):Int)) from by have e:=ZN.out.cz.cell (k:=1) (v:=.int .i64 z2.t.now.x) rfl;rw [ZN.out.t] at e;exact e)
         clear hz2 hcz
         go_wp2_with fail
         go_roundw
         case rel=>exact ⟨v+1,z2,AN.out,ZN.out⟩
         case measure=>rw [HM.out,HM2.out];simp [intOf];omega
       · rw [ht] at et
         have HE:=Lib.hid ht
         clear ht
         go_wp2_with fail
         go_quiet ((go_at_call 82;exact Calls.quiet_of_same (HL.out _)))
         generalize hw2:wr.drewN nq=w2
         have hb2:Below wr.heap.size wr w2:=by rw [← hw2];exact belowN (Below.refl _ _) _
         clear hw2
         have Z2:=Lib.hid (Z1.out.below hb2)
         clear hb2 c1 et Z1
         go_wp2_with fail
         go_roundw
         case rel=>exact ⟨k+1,z,by omega,by go_num,(Y.out.trans Z2.out).as (by rw [iter_succ,← Y.out.t,A1.out.fin (.inr HE.out)])⟩
         case measure=>simp [intOf];omega
     · have hE:(v:Int)=y.t.c-1:=by have:=A1.out.le;omega
       have HE:=Lib.hid hE
       have d1:decide ((v:Int)<(y.t.c:Int)-1)=false:=decide_eq_false h1
       have h2:=Int.not_lt.1 h1
       clear hE
       go_wp2_with fail
       go_quiet ((go_at_call 82;exact Calls.quiet_of_same (HL.out _)))
       generalize hw2:wr.drewN nq=w2
       have hb2:Below wr.heap.size wr w2:=by rw [← hw2];exact belowN (Below.refl _ _) _
       clear hw2
       have Z2:=Lib.hid (Z1.out.below hb2)
       clear hb2 c1 et Z1
       go_wp2_with fail
       go_roundw
       case rel=>exact ⟨k+1,z,by omega,by go_num,(Y.out.trans Z2.out).as (by rw [iter_succ,← Y.out.t,A1.out.fin (.inl HE.out)])⟩
       case measure=>simp [intOf];omega
  · obtain rfl:k=N:=by omega
    go_wp2_with fail
    go_end0
    exact ⟨rfl,y,Y.out⟩
set_option maxRecDepth 100000 in
set_option maxHeartbeats 1600000 in
theorem tabBack_any (h:Cz B w g x) (hN:Nm w (CB g x) A n c ps):Calls Tryz.prog 169 #[.pointer (some ⟨g,0,none⟩),.slice A n c] w (CzP B g x (Dd.tabBack.run ps x.t) w):=by
 have HZ:=Lib.hid h
 have HC:=Lib.hid (count_any hN 0 (by omega))
 have n1:=hN.one 0
 show Calls _ _ _ _ (CzP B g x (iterS Tm.tabBack (numP ps 0 1).toNat x.t) w)
 obtain ⟨N,hNN⟩:∃ N:Nat,numP ps 0 1=(N:Int):=⟨(numP ps 0 1).toNat,by omega⟩
 rw [hNN] at HC n1 ⊢
 rw [Int.toNat_natCast]
 clear hNN h hN
 go_enter Tryz.func169,Tryz.ntmps169
 go_wp2_with fail
 refine HC.out.mono ?_
 rintro e w1 ⟨rfl,hw1⟩
 obtain rfl:=hw1.symm
 clear hw1
 go_wp2_with fail
 go_loopw [6] (fun i wr=>∃ (k:Nat) (y:CT),k≤N∧i=.int .i64 k∧CzTo B g x (iterS Tm.tabBack k x.t) w wr y) (fun i _=>N-(intOf i).toNat)
 case atStart=>exact ⟨0,x,Nat.zero_le _,rfl,CzTo.refl HZ.out⟩
 case round =>
  obtain ⟨k,y,hk,rfl,hy⟩:=hrel
  have Y:=Lib.hid hy
  clear hy
  generalize wr=wo at Y ⊢
  by_cases hlt:k<N
  · have k1:(k:Int)<(N:Int):=by omega
    go_wp2_with fail
    refine (leftT_any Y.out.cz (Nm.nil _ _)).mono ?_
    rintro e w2 ⟨rfl,z,hz⟩
    have Z:=Lib.hid (show CzTo B g y (y.t.atX (max (y.t.now.x-1) 0)) wo w2 z from hz.as rfl)
    clear hz
    have hc1:=Y.out.cz.ok.c1
    have hx0:=Y.out.cz.ok.x0
    have hx1:=Y.out.cz.ok.x1
    obtain ⟨v0,hv0⟩:∃ v0:Nat,max (y.t.now.x-1) 0=(v0:Int):=⟨(max (y.t.now.x-1) 0).toNat,by omega⟩
    have A0:=Lib.hid (show Bck y.t v0 from ⟨(fun j h1 h2=>by omega),by omega,by omega⟩)
    have Z0:=Lib.hid (show CzTo B g y (y.t.atX v0) wo w2 z from by rw [← hv0];exact Z.out)
    clear Z hv0 hc1 hx0 hx1
    go_wp2_with fail
    go_loopw [] (fun ws=>∃ (v:Nat) (z:CT),Bck y.t v∧CzTo B g y (y.t.atX v) wo ws z) (fun ws=>(intOf ((ws.cell? ⟨g,1,none⟩).getD (.int .i64 0))).toNat)
    case atStart=>exact ⟨v0,z,A0.out,Z0.out⟩
    case round =>
     obtain ⟨v,z,ha,hz⟩:=hrel
     have A1:=Lib.hid ha
     have Z1:=Lib.hid hz
     have hc80:=Y.out.cz.ok.c1
     have v80:v<80:=by have:=ha.c;omega
     have c1:wr.cell? ⟨g,1,none⟩=some (.int .i64 (v:Int)):=by have e:=hz.cz.cell (k:=1) (v:=.int .i64 z.t.now.x) rfl;rw [hz.t] at e;exact e
     have et:wr.cell? ⟨g,29+v,none⟩=some (.bool (y.t.hasTab v)):=by have e:=hz.cz.cell (ctV_tab (x:=z) (i:=v) (by rw [hz.cz.ok.tabs];exact v80));rw [hz.t] at e;exact e
     have i0:(0:Int)≤(v:Int):=by omega
     have i1:(v:Int)<80:=by omega
     have HM:=Lib.hid (show (intOf ((wr.cell? ⟨g,1,none⟩).getD (.int .i64 0)))=(v:Int) from by rw [c1];rfl)
     clear ha hz
     have z80:=z.t.now.x
     clear z80
     by_cases h1:0<v
     · cases ht:y.t.hasTab v
       · have h1i:(0:Int)<(v:Int):=by omega
         rw [ht] at et
         have AN:=Lib.hid (A1.out.next ht h1)
         clear ht hc80
         go_wp2_with fail
         go_quiet (fail)
         generalize hw2:wr.drewN nq=w2
         have hb2:Below wr.heap.size wr w2:=by rw [← hw2];exact belowN (Below.refl _ _) _
         clear hw2
         have Z2:=Lib.hid (Z1.out.below hb2)
         clear hb2 c1 et Z1
         have c1:w2.cell? ⟨g,1,none⟩=some (.int .i64 (v:Int)):=by have e:=Z2.out.cz.cell (k:=1) (v:=.int .i64 z.t.now.x) rfl;rw [Z2.out.t] at e;exact e
         have f1:=Z2.out.cz.fr 1
         have hcz:z.t.c=y.t.c:=by rw [Z2.out.t];rfl
         have hcc:=A1.out.c
         obtain ⟨_,z2,hz2⟩:=Z2.out.cz.atX (z:=(v:Int)-1) (by omega) (by rw [hcz];omega) w2 (Below.refl _ _)
         have eN:(v:Int)-1=((v-1:Nat):Int):=by omega
         have ZN:=Lib.hid ((Z2.out.trans hz2).as (show z.t.atX ((v:Int)-1)=y.t.atX (((v-1:Nat):Int)) from by rw [Z2.out.t,eN];rfl))
         have HM2:=Lib.hid (show ((w2.setCell ⟨g,1,none⟩ (.int .i64 ((v:Int)-1))).cell? ⟨g,1,none⟩)=some (.int .i64 ((v-1:Nat):Int)) from by have e:=ZN.out.cz.cell (k:=1) (v:=.int .i64 z2.t.now.x) rfl;rw [ZN.out.t] at e;exact e)
         have kk:wrap64 ((v:Int)-1)=(v:Int)-1:=by clear eN;unfold wrap64;omega
         clear hz2 hcz eN hcc
         go_wp2_with fail
         go_roundw
         case rel=>exact ⟨v-1,z2,AN.out,ZN.out⟩
         case measure=>rw [HM.out,HM2.out];simp [intOf];omega
       · have h1i:(0:Int)<(v:Int):=by omega
         rw [ht] at et
         have HE:=Lib.hid ht
         clear ht
         go_wp2_with fail
         go_quiet (fail)
         generalize hw2:wr.drewN nq=w2
         have hb2:Below wr.heap.size wr w2:=by rw [← hw2];exact belowN (Below.refl _ _) _
         clear hw2
         have Z2:=Lib.hid (Z1.out.below hb2)
         clear hb2 c1 et Z1
         go_wp2_with fail
         go_roundw
         case rel=>exact ⟨k+1,z,by omega,by go_num,(Y.out.trans Z2.out).as (by rw [iter_succ,← Y.out.t,A1.out.fin (.inr HE.out)])⟩
         case measure=>simp [intOf];omega
     · have hE:v=0:=by omega
       have HE:=Lib.hid hE
       subst hE
       go_wp2_with fail
       go_quiet (fail)
       generalize hw2:wr.drewN nq=w2
       have hb2:Below wr.heap.size wr w2:=by rw [← hw2];exact belowN (Below.refl _ _) _
       clear hw2
       have Z2:=Lib.hid (Z1.out.below hb2)
       clear hb2 c1 et Z1
       go_wp2_with fail
       go_roundw
       case rel=>exact ⟨k+1,z,by omega,by go_num,(Y.out.trans Z2.out).as (by rw [iter_succ,← Y.out.t,A1.out.fin (.inl rfl)])⟩
       case measure=>simp [intOf];omega
  · obtain rfl:k=N:=by omega
    go_wp2_with fail
    go_end0
    exact ⟨rfl,y,Y.out⟩
end
def attrB (n:Int):Int:=if n=1 then 1 else if n=2 then 2 else if n=3 then 4 else if n=4 then 8 else if n=5 then 16 else if n=7 then 32 else if n=8 then 64 else if n=9 then 128 else 0
def colB (n f b:Int):Int × Bool:=if f≤n∧n<f+8 then (n-f+1,true) else if b≤n∧n<b+8 then (n-b+9,true) else (0,false)
def lookP (p:Pn) (n:Int):Pn :=
 if n=0 then ⟨0,0,0,p.lk⟩ else if n=39 then { p with fg:=0 } else if n=49 then { p with bg:=0 } else if 30≤n∧n≤37 then { p with fg:=n-29 } else if 40≤n∧n≤47 then { p with bg:=n-39 }
   else if 90≤n∧n≤97 then { p with fg:=n-81 } else if 100≤n∧n≤107 then { p with bg:=n-91 } else { p with st:=attrS p.st n }
def ownS (l:List Int):Int × Nat:=match colourS l with | some (c,l')=>(c,l.length-l'.length) | none=>(0,0)
theorem colour_len {l l':List Int} {c:Int} (h:colourS l=some (c,l')):l'.length<l.length∧l'=l.drop (l.length-l'.length):=by
 unfold colourS at h
 split at h
 · split at h
   · injection h with h;injection h with h1 h2;subst h2
     refine ⟨by simp;omega,?_⟩
     rename_i n l hn
     have e:(5 :: n :: l).length-l.length=2:=by simp only [List.length_cons];omega
     rw [e];rfl
   · cases h
 · split at h
   · injection h with h;injection h with h1 h2;subst h2
     refine ⟨by simp;omega,?_⟩
     rename_i a b c l hn
     have e:(2 :: a :: b :: c :: l).length-l.length=4:=by simp only [List.length_cons];omega
     rw [e];rfl
   · cases h
 · cases h
theorem pensF_fuel:∀ (f:Nat) (p:Pn) (l:List Int),l.length≤f→pensF f p l=pensF l.length p l
 | 0,p,l,h=>by rw [List.eq_nil_of_length_eq_zero (by omega:l.length=0)];rfl
 | f+1,p,[],_=>rfl
 | f+1,p,n :: l,h=>by
  have h:l.length≤f:=by simpa using h
  show pensF (f+1) p (n :: l)=pensF (l.length+1) p (n :: l)
  unfold pensF
  split
  · exact pensF_fuel f _ l h
  · split
    · cases hc:colourS l with
      | none=>rfl
      | some x =>
       obtain ⟨c,l'⟩:=x
       have:=(colour_len hc).1
       show pensF f _ l'=pensF l.length _ l'
       rw [pensF_fuel f _ l' (by omega),pensF_fuel l.length _ l' (by omega)]
    · exact pensF_fuel f _ l h
def restP (p:Pn) (l:List Int):Pn:=pensF l.length p l
theorem rest_nil (p:Pn):restP p []=p:=rfl
theorem rest_look (p:Pn) {n:Int} (l:List Int) (h:¬ (n=38∨n=48)):restP p (n :: l)=restP (lookP p n) l:=by
 show pensF (l.length+1) p (n :: l)=_
 unfold pensF lookP restP
 by_cases h0:n=0
 · rw [if_pos h0,if_pos h0]
 · rw [if_neg h0,if_neg h,if_neg h0]
theorem rest_none (p:Pn) {n:Int} {l:List Int} (h:n=38∨n=48) (hc:(ownS l).2=0):restP p (n :: l)=p:=by
 show pensF (l.length+1) p (n :: l)=_
 unfold pensF
 rw [if_neg (by omega),if_pos h]
 cases hk:colourS l with
 | none=>rfl
 | some x =>
  obtain ⟨c,l'⟩:=x
  have:=(colour_len hk).1
  unfold ownS at hc
  rw [hk] at hc
  simp only at hc
  omega
theorem rest_own (p:Pn) {n:Int} {l:List Int} (h:n=38∨n=48) (hc:(ownS l).2≠0):restP p (n :: l)=restP (if n=38 then { p with fg:=(ownS l).1 } else { p with bg:=(ownS l).1 }) (l.drop (ownS l).2):=by
 show pensF (l.length+1) p (n :: l)=_
 unfold pensF
 rw [if_neg (by omega),if_pos h]
 cases hk:colourS l with
 | none=>unfold ownS at hc;rw [hk] at hc;exact absurd rfl hc
 | some x =>
  obtain ⟨c,l'⟩:=x
  obtain ⟨h1,h2⟩:=colour_len hk
  have e:ownS l=(c,l.length-l'.length):=by unfold ownS;rw [hk]
  rw [e]
  show pensF l.length _ l'=restP _ (l.drop (l.length-l'.length))
  rw [← h2,pensF_fuel l.length _ l' (by omega)]
  rfl
theorem pens_rest (p:Pn) (l:List Int):pensP p l=restP p (if l=[] then [0] else l):=by
 unfold pensP
 split
 · rfl
 · rfl
theorem own_le (l:List Int):(ownS l).2≤l.length:=by
 unfold ownS
 split<;>simp only<;>omega
end Go.Proofs.YtlcipgdnpilkfaaGreatDoor
