/-
  Part 45 of what the laws of emul want: EmulFd, EmulScrS, EmulFx.
-/
import Derived.Test.YtlcipgdnpilkfaaGreatDoorPr34
import Derived.Test.YtlcipgdnpilkfaaGreatDoorPr44
namespace Go.Proofs.YtlcipgdnpilkfaaGreatDoor
open Go.RowKit
/-! ### What a step of the parser tells -/
theorem prS_tx (l:List Int):∀ a∈prS l,a.ps.length≤16∧U8s a.tx:=fun a ha=>by
 obtain ⟨z,_,rfl⟩:=List.mem_map.1 ha
 exact ⟨by simp [acPrint],fun z hz=>by simp [acPrint] at hz⟩
def TxO (p:List AcS × PaS):Prop:=(∀ a∈p.1,a.ps.length≤16∧U8s a.tx)∧U8s p.2.tx
theorem u8_nil:U8s []:=fun z hz=>by cases hz
theorem txo_none {s:PaS} (h:U8s s.tx):TxO ([],s):=⟨fun a ha=>(by cases ha),h⟩
theorem txo_ite {c:Prop} [Decidable c] {a b:List AcS × PaS} (ha:TxO a) (hb:TxO b):TxO (if c then a else b):=by split;exact ha;exact hb
theorem txo_one {a:AcS} {s:PaS} (h1:a.ps.length≤16∧U8s a.tx) (h:U8s s.tx):TxO ([a],s):=⟨fun x hx=>by rw [List.mem_singleton.1 hx];exact h1,h⟩
theorem txo_app {L M:List AcS} {s:PaS} (h1:∀ a∈L,a.ps.length≤16∧U8s a.tx) (h2:∀ a∈M,a.ps.length≤16∧U8s a.tx) (h:U8s s.tx):TxO (L ++ M,s):=⟨fun a ha=>by
 rcases List.mem_append.1 ha with ha | ha
 · exact h1 a ha
 · exact h2 a ha,h⟩
theorem bare_tx {k r m f:Int}:(⟨k,r,m,f,[],[]⟩:AcS).ps.length≤16∧U8s (⟨k,r,m,f,[],[]⟩:AcS).tx:=⟨by simp,u8_nil⟩
theorem ground_tx (dec:List Int) (b:Int):TxO (groundP dec b):=by
 unfold groundP
 refine txo_ite (txo_app (prS_tx _) (fun a ha=>by rw [List.mem_singleton.1 ha];exact bare_tx) u8_nil) (txo_ite ⟨prS_tx _,u8_nil⟩ ⟨prS_tx _,u8_nil⟩)
theorem esc_tx (s:PaS) (b:Int):TxO (escP s b):=by
 unfold escP
 refine txo_ite (txo_ite (txo_none u8_nil) (txo_none u8_nil)) (txo_ite (txo_none u8_nil) (txo_ite (txo_none u8_nil) (txo_ite (txo_none u8_nil) (txo_one bare_tx u8_nil))))
theorem ctl_tx (s:PaS) (b:Int):TxO (ctlP s b):=by
 unfold ctlP
 have hc:(acCsi s.m b (s.ps.take 16)).ps.length≤16∧U8s (acCsi s.m b (s.ps.take 16)).tx:=⟨by simp [acCsi];omega,u8_nil⟩
 refine txo_ite (txo_one hc u8_nil) (txo_ite (txo_none u8_nil) (txo_ite (txo_ite (txo_none u8_nil) (txo_none u8_nil)) (txo_ite (txo_none u8_nil) (txo_ite (txo_none u8_nil) (txo_ite (txo_none u8_nil) (txo_none u8_nil))))))
theorem feed_tx {s:PaS} {b:Int} (h:U8s s.tx) (hb:0≤b∧b≤255):TxO (feedP s b):=by
 have ho:(acOsc s.tx).ps.length≤16∧U8s (acOsc s.tx).tx:=⟨by simp [acOsc],h⟩
 have hos:∀ a∈(if s.tx.length≤256 then [acOsc s.tx] else []),a.ps.length≤16∧U8s a.tx:=fun a ha=>by
  split at ha
  · rw [List.mem_singleton.1 ha];exact ho
  · cases ha
 have hos2:∀ a∈(if s.st=5∧s.tx.length≤256 then [acOsc s.tx] else []),a.ps.length≤16∧U8s a.tx:=fun a ha=>by
  split at ha
  · rw [List.mem_singleton.1 ha];exact ho
  · cases ha
 have hsn:U8s (s.tx ++ [b]):=fun z hz=>by
  rcases List.mem_append.1 hz with hz | hz
  · exact h z hz
  · rw [List.mem_singleton.1 hz];exact hb
 unfold feedP
 refine txo_ite (ground_tx _ _) (txo_ite (txo_none u8_nil) (txo_ite (txo_app (prS_tx _) hos2 u8_nil) (txo_ite (txo_ite ⟨hos,u8_nil⟩ (txo_ite (txo_none h) (txo_none hsn))) (txo_ite (txo_none h) (txo_ite (txo_one bare_tx h) (txo_ite (txo_none h) (txo_ite (ground_tx _ _) (txo_ite (esc_tx s b) (txo_ite (txo_ite (txo_none u8_nil) (txo_none h)) (txo_ite (txo_ite (txo_none u8_nil) (txo_none h)) (ctl_tx s b)))))))))))
structure Sane (t:Tm):Prop where
 lk:LkOk t
 tx:U8s t.p.tx
namespace Sane
variable {t:Tm}
theorem fresh (c r:Nat):Sane (tmNew c r):=⟨LkOk.fresh c r,u8_nil⟩
theorem doA (h:Sane t) (a:AcS):Sane (t.doA a):=⟨h.lk.doA a,by rw [doA_p];exact h.tx⟩
theorem all:∀ (l:List AcS) {t:Tm},Sane t→Sane (l.foldl Tm.doA t)
 | [],_,h=>h
 | a :: l,_,h=>all l (h.doA a)
theorem with_p (h:Sane t) {q:PaS} (hq:U8s q.tx):Sane { t with p:=q }:=⟨h.lk.with_p q,hq⟩
theorem byte (h:Sane t) {b:Int} (hb:0≤b∧b≤255):Sane (t.byte b):=all _ (h.with_p (feed_tx h.tx hb).2)
theorem feed:∀ (l:List Int) {t:Tm},Sane t→U8s l→Sane (t.feed l)
 | [],_,h,_=>h
 | b :: l,_,h,hl=>feed l (h.byte (hl b (by simp))) fun z hz=>hl z (by simp [hz])
end Sane
theorem feed_snoc (t:Tm) {l:List Int} {k:Nat} (h:k<l.length):t.feed (l.take (k+1))=(t.feed (l.take k)).byte (l.getD k 0):=by
 rw [List.take_add_one,List.getElem?_eq_getElem h,Tm.feed_append,getD_lt h]
 rfl
section
variable {B:Nat} {w:World} {g:Nat} {x:CT}
theorem Cz.parsed (h:Cz B w g x) {w':World} {S':Nat→Prop} {s':PaS} (hp:Pz B w' x.pd s' S') (ho:OutB B x.PS w w') (hS:∀ q,S' q→x.PS q∨w.heap.size≤q):CzTo B g x { x.t with p:=s' } w w' { x with t:={ x.t with p:=s' },PS:=S' }:=by
 have hs:=ho.bel.size
 have hm:¬ x.PS x.mb:=h.p.off h.m.has (by decide) (by decide) (by decide) (by decide)
 have hoo:¬ x.PS x.ob:=h.p.off h.o.has (by decide) (by decide) (by decide) (by decide)
 have ht:∀ q,(Value.slice x.bA x.bN x.bK).ownBlock=some q→¬ x.PS q:=fun q hq=>h.p.off (row_has h.b.own q hq) (by decide) (by decide) (by decide) (by decide)
 refine ⟨rfl,⟨(ho.keep g h.lt h.gp).trans h.blk,h.gB,h.ok.with_p s',h.m.kept (ho.keep _ h.m.lt hm),h.mB,h.mn,h.mkk,h.o.kept (ho.keep _ h.o.lt hoo),h.oB,h.on,h.okk,h.ne,hp,h.b.same fun q hq=>ho.keep q (h.b.own.lt q hq).2 (ht q hq),h.tl,h.bs⟩,⟨ho.bel,fun q hq hn=>ho.keep q hq fun hp=>hn (.inr (.inr (.inr (.inl hp))))⟩,fun q hq=>?_⟩
 rcases hq with hq | hq | hq | hq | hq
 · exact .inl (.inl hq)
 · exact .inl (.inr (.inl hq))
 · exact .inl (.inr (.inr (.inl hq)))
 · rcases hS q hq with h1 | h1
   · exact .inl (.inr (.inr (.inr (.inl h1))))
   · exact .inr h1
 · exact .inl (.inr (.inr (.inr (.inr hq))))
theorem ActIn.on {y:AcR} {t':Tm} {w':World} {z:CT} (h:ActIn w g x y) (ht:∀ ad,y.T=some ad→0<y.nt→¬ CB g x ad.block) (k:CzTo B g x t' w w' z):ActIn w' g z y:=by
 refine ⟨⟨h.rd.p.keep k.out.bel.size fun p hn hA hp=>?_,h.rd.t.keep k.out.bel.size fun p hn hA hp=>?_,h.rd.lp,h.rd.mp,h.rd.lt,h.rd.mt⟩,fun ad e hn hq=>?_,h.u8,h.np⟩
 · cases hP:y.P with
   | none=>rw [hP] at hA;cases hA
   | some ad =>
    rw [hP] at hA
    have hA:ad.block=p.block:=by injection hA
    exact World.cell?_of_block (k.out.keep _ hp (by rw [← hA];exact h.off ad hP hn))
 · cases hP:y.T with
   | none=>rw [hP] at hA;cases hA
   | some ad =>
    rw [hP] at hA
    have hA:ad.block=p.block:=by injection hA
    exact World.cell?_of_block (k.out.keep _ hp (by rw [← hA];exact ht ad hP hn))
 · obtain ⟨ad',e',hb,_⟩:=h.rd.p.at_ hn
   obtain rfl:ad=ad':=by rw [e] at e';injection e'
   rcases k.sub _ hq with h1 | h1
   · exact h.off ad e hn h1
   · omega
structure ActsIn (w:World) (g:Nat) (x:CT) (A:Option Addr) (R:List AcR):Prop where
 row:Vs acV w A R.length R
 offR:∀ ad,A=some ad→0<R.length→¬ CB g x ad.block
 each:∀ y∈R,ActIn w g x y
 offT:∀ y∈R,∀ ad,y.T=some ad→0<y.nt→¬ CB g x ad.block
theorem ActsIn.at_ {A:Option Addr} {R:List AcR} (h:ActsIn w g x A R) {t':Tm} {w':World} {z:CT} (k:CzTo B g x t' w w' z) {j:Nat} (hj:j<R.length):∃ ad y,A=some ad∧R[j]?=some y∧y∈R∧Sxa w' (ad.add (j*6)) y∧ActIn w' g z y:=by
 obtain ⟨ad,rfl⟩:=h.row.addr (by omega)
 have hy:R[j]?=some R[j]:=List.getElem?_eq_getElem hj
 have hv:Vs acV w' (some ad) R.length R:=h.row.keep k.out.bel.size fun p hn hA hp=>World.cell?_of_block (k.out.keep _ hp (by
  have hA:ad.block=p.block:=by injection hA
  rw [← hA]
  exact h.offR ad rfl hn))
 exact ⟨ad,R[j],rfl,hy,List.getElem_mem hj,hv.sxa hy,(h.each _ (List.getElem_mem hj)).on (h.offT _ (List.getElem_mem hj)) k⟩
theorem acts_apart (h:Cz B w g x) {w':World} {S':Nat→Prop} {s':PaS} {A:Option Addr} {R:List AcR} {b:Int} (hb:0≤b∧b≤255) (htx:U8s x.t.p.tx) (hA:Ats w' A R.length R) (hL:acts R=(feedP x.t.p b).1) (hap:∀ y∈R,Ap w' S' y) (hn:FdNew w A R) (hr:∀ ad,A=some ad→0<R.length→¬ S' ad.block):ActsIn w' g { x with t:={ x.t with p:=s' },PS:=S' } A R:=by
 have hold:∀ q,w.heap.size≤q→¬ S' q→¬ CB g { x with t:={ x.t with p:=s' },PS:=S' } q:=fun q hq hS hc=>by
  rcases hc with hc | hc | hc | hc | hc
  · have:=h.lt;omega
  · have:=h.m.lt;simp only at hc;omega
  · have:=h.o.lt;simp only at hc;omega
  · exact hS hc
  · have:=(h.b.own.lt q hc).2;omega
 have hf:=(feed_tx htx hb).1
 rw [← hL] at hf
 have hmem:∀ y∈R,y.a∈acts R:=fun y hy=>List.mem_map.2 ⟨y,hy,rfl⟩
 exact ⟨hA.row,fun ad e hn'=>hold _ (hn.1 ad e hn') (hr ad e hn'),fun y hy=>⟨hA.rd y hy,fun ad e hn'=>hold _ ((hn.2 y hy).1 ad e hn') ((hap y hy).p ad e hn').1,(hf _ (hmem y hy)).2,by rw [← (hA.rd y hy).p.len];have:=(hf _ (hmem y hy)).1;omega⟩,fun y hy ad e hn'=>hold _ ((hn.2 y hy).2 ad e hn') ((hap y hy).t ad e hn').1⟩
theorem acts_snoc {R:List AcR} {j:Nat} {y:AcR} (h:R[j]?=some y) (t:Tm):((acts R).take (j+1)).foldl Tm.doA t=(((acts R).take j).foldl Tm.doA t).doA y.a:=by
 rw [List.take_add_one,acts_get h,List.foldl_append]
 rfl
set_option maxRecDepth 100000 in
set_option maxHeartbeats 6400000 in
theorem feedT_any (hT:Tabs w) (h:Cz B w g x) (hl:Sane x.t) {A:Option Addr} {n c:Nat} {zs:List Int} (hs:Sb w A n zs) (h8:U8s zs) (hn:n≤1000000) (hoff:∀ ad,A=some ad→0<n→¬ CB g x ad.block):Calls Tryz.prog 15 #[.pointer (some ⟨g,0,none⟩),.slice A n c] w (CzP B g x (x.t.feed zs) w):=by
 have HZ:=Lib.hid h
 have HT:=Lib.hid hT
 have HL:=Lib.hid hl
 have HS:=Lib.hid (And.intro hs (And.intro h8 hoff))
 clear h hT hl hs h8 hoff
 go_enter Tryz.func15,Tryz.ntmps15
 go_wp2_with fail
 go_loopw [12] (fun i wr=>∃ (k:Nat) (y:CT),k≤n∧i=.int .i64 k∧CzTo B g x (x.t.feed (zs.take k)) w wr y) (fun i _=>n-(intOf i).toNat)
 case atStart=>exact ⟨0,x,Nat.zero_le _,rfl,by rw [List.take_zero];exact CzTo.refl HZ.out⟩
 case round =>
  obtain ⟨k,y,hk,rfl,hy⟩:=hrel
  have Y:=Lib.hid hy
  clear hy
  by_cases hlt:k<n
  · have hln:=HS.out.1.len
    obtain ⟨ad,rfl,hbk,hcl⟩:=HS.out.1.at_ (by omega)
    have hcell:wr.cell? (ad.add k)=some (.int .u8 (zs.getD k 0)):=by
     rw [World.cell?_of_block (Y.out.out.keep (ad.add k).block (by rw [addBlock];exact hbk) (by rw [addBlock];exact HS.out.2.2 ad rfl (by omega)))]
     exact hcl k hlt
    have hz8:0≤zs.getD k 0∧zs.getD k 0≤255:=by
     rw [getD_lt (by omega)]
     exact HS.out.2.1 _ (List.getElem_mem _)
    have HN:=Lib.hid (feed_snoc x.t (l:=zs) (k:=k) (by omega))
    generalize zs.getD k 0=z at hcell hz8 HN
    have HZ8:=Lib.hid hz8
    have HSN:=Lib.hid (show Sane y.t from by rw [Y.out.t];exact Sane.feed _ HL.out fun z hz=>HS.out.2.1 z (List.mem_of_mem_take hz))
    have kk:(k:Int)<(n:Int):=by omega
    have c0:wr.cell? ⟨g,0,none⟩=some (.pointer (some ⟨y.pd,0,none⟩)):=Y.out.cz.cell rfl
    have HT2:=Lib.hid (HT.out.out HZ.out.tab Y.out.out.bel)
    clear hbk hcl hln hz8
    go_wp2_with fail
    refine (pFeed_any HT2.out Y.out.cz.p Y.out.cz.bB HZ8.out).mono ?_
    rintro e w2 ⟨A2,c2,R,S2,rfl,hA2,hR,hP,ho,hS,hAp,hnew,hrw⟩
    obtain ⟨y1,hy1⟩:∃ y1:CT,y1={ y with t:={ y.t with p:=(feedP y.t.p z).2 },PS:=S2 }:=⟨_,rfl⟩
    have K1:=Lib.hid (show CzTo B g y { y.t with p:=(feedP y.t.p z).2 } wr w2 y1 from by rw [hy1];exact Y.out.cz.parsed hP ho hS)
    have AI:=Lib.hid (show ActsIn w2 g y1 A2 R from by rw [hy1];exact acts_apart Y.out.cz HZ8.out HSN.out.tx hA2 hR hAp hnew hrw)
    have HR:=Lib.hid hR
    have hr2:R.length≤2:=by rw [← acts_len,hR];exact feedP_len _ _
    have HX1:=Lib.hid (show y1.t={ y.t with p:=(feedP y.t.p z).2 } from by rw [hy1])
    have HS1:=Lib.hid (show Sane y1.t from by rw [hy1];exact HSN.out.with_p (feed_tx HSN.out.tx HZ8.out).2)
    have T2:=Lib.hid (HT2.out.out HZ.out.tab K1.out.out.bel)
    clear hA2 hR hP ho hS hAp hnew hrw hy1 hcell c0
    go_wp2_with fail
    go_loopw [23] (fun i w3=>∃ (j:Nat) (v:CT),j≤R.length∧i=.int .i64 j∧CzTo B g y1 (((acts R).take j).foldl Tm.doA y1.t) w2 w3 v) (fun i _=>R.length-(intOf i).toNat)
    case atStart=>exact ⟨0,y1,Nat.zero_le _,rfl,CzTo.refl K1.out.cz⟩
    case round =>
     obtain ⟨j,v,hj,rfl,hv⟩:=hrel
     have V:=Lib.hid hv
     clear hv
     by_cases hjl:j<R.length
     · obtain ⟨ad2,a,rfl,hget,hmem,hsx,hin⟩:=AI.out.at_ V.out hjl
       have HSC:=Lib.hid (acts_snoc hget y1.t)
       have s0:=hsx.c0
       have s1:=hsx.c1
       have s2:=hsx.c2
       have s3:=hsx.c3
       have s4:=hsx.c4
       have s5:=hsx.c5
       obtain ⟨w3,hw3⟩:∃ w3,w3=wr.alloc (.cells (acA a) 62):=⟨_,rfl⟩
       obtain ⟨b3,hb3e⟩:∃ b3,b3=wr.heap.size:=⟨_,rfl⟩
       have HD3:=Lib.hid (show w3.cell? ⟨b3,0,none⟩=some (.int .i64 a.a.k)∧w3.cell? ⟨b3,1,none⟩=some (.int .i32 a.a.r)∧w3.cell? ⟨b3,2,none⟩=some (.int .u8 a.a.m)∧w3.cell? ⟨b3,3,none⟩=some (.int .u8 a.a.fin)∧w3.cell? ⟨b3,4,none⟩=some (.slice a.P a.np a.cp)∧w3.cell? ⟨b3,5,none⟩=some (.slice a.T a.nt a.ct) from by
        rw [hw3,hb3e]
        exact ⟨newCell wr _ _ 0 rfl,newCell wr _ _ 1 rfl,newCell wr _ _ 2 rfl,newCell wr _ _ 3 rfl,newCell wr _ _ 4 rfl,newCell wr _ _ 5 rfl⟩)
       have hb3:Below wr.heap.size wr w3:=by rw [hw3];exact (Below.refl _ _).alloc (Nat.le_refl _) _
       have X3:=Lib.hid (show CzTo B g y1 (((acts R).take j).foldl Tm.doA y1.t) w2 w3 v from V.out.below hb3)
       have IN:=Lib.hid (show ActIn w3 g v a from ⟨hin.rd.below hb3,hin.off,hin.u8,hin.np⟩)
       have LK:=Lib.hid (show LkOk v.t from by rw [V.out.t];exact (Sane.all _ HS1.out).lk)
       have T3:=Lib.hid (T2.out.out HZ.out.tab X3.out.out.bel)
       have jj:(j:Int)<(R.length:Int):=by omega
       unfold acA at hw3
       have HDO:=Lib.hid (doT_any T3.out X3.out.cz LK.out a IN.out)
       unfold acA at HDO
       clear hget hmem hsx hin hb3
       go_upto_region 7 with fail
       rw [← hw3,← hb3e]
       clear hw3 hb3e s0 s1 s2 s3 s4 s5
       obtain ⟨d0,d1,d2,d3,d4,d5⟩:=HD3.out
       go_wp2_with fail
       refine HDO.out.mono ?_
       rintro e w4 ⟨rfl,u,hu⟩
       have X4:=Lib.hid (show CzTo B g y1 (((acts R).take (j+1)).foldl Tm.doA y1.t) w2 w4 u from (X3.out.trans hu).as (by rw [HSC.out,X3.out.t]))
       clear hu d0 d1 d2 d3 d4 d5
       go_wp2_with fail
       go_roundw
       case rel=>exact ⟨j+1,u,by omega,by go_num,X4.out⟩
       case measure=>simp [intOf];omega
     · obtain rfl:j=R.length:=by omega
       have hall:(acts R).take R.length=acts R:=List.take_of_length_le (by rw [acts_len];exact Nat.le_refl _)
       have E:=Lib.hid (show CzTo B g x (x.t.feed (zs.take (k+1))) w wr v from (Y.out.trans (K1.out.trans V.out)).as (by
        rw [hall,HR.out,HX1.out,HN.out,← Y.out.t]
        rfl))
       clear hall
       go_wp2_with fail
       go_roundw
       case rel=>exact ⟨k+1,v,by omega,by go_num,E.out⟩
       case measure=>simp [intOf];omega
  · obtain rfl:k=n:=by omega
    have hall:zs.take k=zs:=List.take_of_length_le (by rw [HS.out.1.len];exact Nat.le_refl _)
    have E:=Lib.hid (show CzTo B g x (x.t.feed zs) w wr y from Y.out.as (by rw [hall]))
    clear hall
    go_wp2_with fail
    go_end0
    exact ⟨rfl,y,E.out⟩
end
open Go.RowKit
theorem numI_rng (l:List ByteArray) (s:ByteArray):0≤numI l s∧numI l s≤l.length:=by
 unfold numI
 have h1:=placeI_ge l s
 have h2:=placeI_lt l s
 split<;>omega
section
variable {B:Nat} {w:World} {g:Nat} {x:CT}
structure ScOwn (base:Nat) (w:World) (s:ScR) (S:Sc):Prop where
 sc:ScIn w s S
 cx:Cx base w s.A s.n s.k S.cells
 tx:Tx base w s.T s.m s.q S.links
 n:s.n≤1920
 m:s.m≤16
theorem ScOwn.below {base:Nat} {w w':World} {s:ScR} {S:Sc} (h:ScOwn base w s S) (hb:Below w.heap.size w w'):ScOwn base w' s S:=⟨h.sc.below hb,h.cx.below hb,h.tx.below hb,h.n,h.m⟩
theorem screenS_any (h:Cz B w g x) (hs:Sane x.t):Calls Tryz.prog 18 #[.pointer (some ⟨g,0,none⟩)] w fun e w'=>Below w.heap.size w w'∧∃ s:ScR,e=.returned (.agg (scrA s))∧ScOwn w.heap.size w' s x.t.screen:=by
 have htb:=h.ok.tbl
 refine (screen_any h fun ce hce=>(prws_flat hs.lk.shown ce hce).rng htb).mono ?_
 rintro e w' ⟨hb,A,c,A',c',rfl,hc,ht⟩
 have hl:=canonL_le x.t.shown.flatten x.t.table
 have hcl:(canonC x.t.shown.flatten x.t.table).length≤1920:=by rw [canonC_len,h.ok.shown.box.flen];exact h.ok.shown.small
 have hml:=h.ok.title
 have htl:x.ttl.size≤64:=by rw [← sL_len,h.tl];exact hml.1
 refine ⟨hb,⟨x.t.c,x.t.r,A,_,c,x.t.now.x,x.t.now.y,x.t.hid,x.t.mouse,x.ttl,A',_,c'⟩,rfl,⟨⟨rfl,rfl,rfl,rfl,rfl,rfl,h.tl.symm,hc.vs,ht.vs,hc.le,by show (canonC _ _).length≤_;omega,ht.le,?_,?_,by show x.ttl.size≤_;omega⟩,hc,ht,hcl,by show (canonL _ _).length≤16;omega⟩⟩
 · intro y hy
   obtain ⟨z,_,rfl⟩:=List.mem_map.1 hy
   have:=numI_rng (canonL x.t.shown.flatten x.t.table) (leadsS x.t.table z.p.lk)
   show 0≤numI _ _∧numI _ _≤65535
   omega
 · intro u hu
   have:=h.bs u (canonL_may hu).2
   omega
structure ScC (w:World) (b:Nat) (s:ScR):Prop where
 c0:w.cell? ⟨b,0,none⟩=some (.int .i64 s.c)
 c1:w.cell? ⟨b,1,none⟩=some (.int .i64 s.r)
 c2:w.cell? ⟨b,2,none⟩=some (.slice s.A s.n s.k)
 c3:w.cell? ⟨b,3,none⟩=some (.int .i64 s.x)
 c4:w.cell? ⟨b,4,none⟩=some (.int .i64 s.y)
 c5:w.cell? ⟨b,5,none⟩=some (.bool s.hid)
 c6:w.cell? ⟨b,6,none⟩=some (.int .u8 s.mouse)
 c7:w.cell? ⟨b,7,none⟩=some (.string s.ttl)
 c8:w.cell? ⟨b,8,none⟩=some (.slice s.T s.m s.q)
 lt:b<w.heap.size
theorem ScC.new (w:World) (s:ScR):ScC (w.alloc (.cells (scrA s) 56)) w.heap.size s :=
 ⟨newCell w _ _ 0 rfl,newCell w _ _ 1 rfl,newCell w _ _ 2 rfl,newCell w _ _ 3 rfl,newCell w _ _ 4 rfl,newCell w _ _ 5 rfl,newCell w _ _ 6 rfl,newCell w _ _ 7 rfl,newCell w _ _ 8 rfl,by simp⟩
theorem ScC.keep {w w':World} {b:Nat} {s:ScR} (h:ScC w b s) (hs:w.heap.size≤w'.heap.size) (hb:w'.heap[b]?=w.heap[b]?):ScC w' b s:=by
 have hc:∀ k,w'.cell? ⟨b,k,none⟩=w.cell? ⟨b,k,none⟩:=fun k=>World.cell?_of_block hb
 exact ⟨(hc 0).trans h.c0,(hc 1).trans h.c1,(hc 2).trans h.c2,(hc 3).trans h.c3,(hc 4).trans h.c4,(hc 5).trans h.c5,(hc 6).trans h.c6,(hc 7).trans h.c7,(hc 8).trans h.c8,Nat.lt_of_lt_of_le h.lt hs⟩
theorem ScC.below {w w':World} {b:Nat} {s:ScR} (h:ScC w b s) (hb:Below w.heap.size w w'):ScC w' b s:=h.keep hb.size (hb.block b h.lt)
end
open Go.RowKit
def fxT1:Tm:=(tmNew 4 2).feed [97,98,99,100]
def fxT2:Tm:=fxT1.feed [101]
theorem fx_u4:U8s [97,98,99,100]:=fun z hz=>by simp at hz;omega
theorem fx_u1:U8s [101]:=fun z hz=>by simp at hz;omega
theorem fx_o1:TmOk fxT1:=TmOk.feed _ (TmOk.fresh (by decide) (by decide) (by decide) (by decide))
theorem fx_1:fxT1.screen.cells.length=8∧fxT1.screen.x=3∧fxT1.screen.y=0:=by decide +kernel
theorem fx_2:fxT2.screen.cells.length=8∧fxT2.screen.x=1∧fxT2.screen.y=1∧(cAt fxT2.screen.cells 3).r=100∧(cAt fxT2.screen.cells 4).r=101:=by decide +kernel
def scZ0:Sc:=⟨0,0,[],0,0,false,0,[],[]⟩
def scR0:ScR:=⟨0,0,none,0,0,0,0,false,0,⟨#[]⟩,none,0,0⟩
theorem sc0_in (w:World):ScIn w scR0 scZ0:=⟨rfl,rfl,rfl,rfl,rfl,rfl,rfl,Vs.nil _ _,Vs.nil _ _,Nat.le_refl _,by show (0:Nat)≤_;omega,Nat.le_refl _,(fun x hx=>by cases hx),(fun u hu=>by cases hu),by show (0:Nat)≤_;omega⟩
theorem sc0_right:rightSc scZ0=false:=by
 rw [right_is]
 simp [scZ0]
theorem lit_u8 (w:World) (zs:List Int) (n:Nat) (cs:Array Value) (fr:Nat × Nat) (hc:cs.toList=zs.map (Value.int .u8)) (hl:zs.length=n):Sb (w.alloc (.cells cs 5 fr)) (some ⟨w.heap.size,0,none⟩) n zs:=by
 refine ⟨hl,fun _=>⟨_,rfl,by simp,fun k hk=>?_⟩⟩
 rw [addHead,cell_of_row _ _ k _ _ _ (heap_alloc_new w _)]
 have h1:cs[k]?=cs.toList[k]?:=by simp
 rw [h1,hc,List.getElem?_map,getD_lt (by omega),List.getElem?_eq_getElem (by omega)]
 rfl
theorem Pz.lower {B B':Nat} {w:World} {g:Nat} {s:PaS} {S:Nat→Prop} (h:Pz B w g s S) (hB:B'≤B) (ht:TabB B'):Pz B' w g s S:=by
 obtain ⟨_,r,hp,hr,e⟩:=h
 exact ⟨ht,r,⟨hp.blk,Nat.le_trans hB hp.gB,hp.dc,Nat.le_trans hB hp.dB,own_base hp.num hB,own_base hp.txt hB⟩,hr,e⟩
theorem Cz.lower {B B':Nat} {w:World} {g:Nat} {x:CT} (h:Cz B w g x) (hB:B'≤B) (ht:TabB B'):Cz B' w g x :=
 { h with gB:=Nat.le_trans hB h.gB,mB:=Nat.le_trans hB h.mB,oB:=Nat.le_trans hB h.oB,p:=h.p.lower hB ht,b:=h.b.lower hB }
structure Lw (w0 w:World) (g:Nat) (x:CT) (t:Tm):Prop where
 bel:Below w0.heap.size w0 w
 cz:Cz w0.heap.size w g x
 tm:x.t=t
 sane:Sane t
section
variable {w0 w:World} {g:Nat} {x:CT} {t:Tm}
theorem Lw.below (h:Lw w0 w g x t) {w':World} (hb:Below w.heap.size w w'):Lw w0 w' g x t:=⟨h.bel.trans (hb.mono h.bel.size),h.cz.below hb,h.tm,h.sane⟩
theorem Lw.step (h:Lw w0 w g x t) {w':World} {t':Tm} {y:CT} (k:CzTo w0.heap.size g x t' w w' y) (hs:Sane t'):Lw w0 w' g y t':=⟨h.bel.trans k.out.bel,k.cz,k.t,hs⟩
theorem Lw.tabs (h:Lw w0 w g x t) (hT:Tabs w0):Tabs w:=hT.below h.bel (Nat.le_refl _)
theorem new_lw (hT:Tabs w0) (hb:Below w0.heap.size w0 w) {c r:Nat} (h1:1≤c) (h2:c≤80) (h3:1≤r) (h4:r≤24):Calls Tryz.prog 30 #[.int .i64 c,.int .i64 r] w fun e w'=>Below w.heap.size w w'∧∃ g x,e=.returned (.tuple #[.pointer (some ⟨g,0,none⟩),.int .i64 0])∧Lw w0 w' g x (tmNew c r)∧∀ q,CB g x q→w.heap.size≤q:=by
 refine (newT_any (hT.below hb (Nat.le_refl _)) c r).mono ?_
 rintro e w' ⟨hb1,h⟩
 rcases h with ⟨_,B,g,x,rfl,hB,hz,ht⟩ | ⟨h,_⟩
 · rw [Int.toNat_natCast,Int.toNat_natCast] at ht
   exact ⟨hb1,g,x,rfl,⟨hb.trans (hb1.mono hb.size),hz.lower (Nat.le_trans hb.size hB) hT.bound,ht,Sane.fresh c r⟩,fun q hq=>Nat.le_trans hB (hz.lo q hq)⟩
 · exfalso
   unfold sizeOk at h
   have:=of_decide_eq_false h
   exact this (by omega)
theorem feed_lw (hT:Tabs w0) (h:Lw w0 w g x t) {A:Option Addr} {n c:Nat} {zs:List Int} (hs:Sb w A n zs) (h8:U8s zs) (hn:n≤1000000) (hoff:∀ ad,A=some ad→0<n→¬ CB g x ad.block):Calls Tryz.prog 15 #[.pointer (some ⟨g,0,none⟩),.slice A n c] w fun e w'=>e=.returned (.tuple #[])∧∃ y,Lw w0 w' g y (t.feed zs)∧CzTo w0.heap.size g x (t.feed zs) w w' y:=by
 have hx:=h.tm
 have hss:=h.sane
 rw [← hx] at hss
 refine (feedT_any (h.tabs hT) h.cz hss hs h8 hn hoff).mono ?_
 rintro e w' ⟨rfl,y,hy⟩
 rw [hx] at hy hss
 exact ⟨rfl,y,h.step hy (Sane.feed zs hss h8),hy⟩
theorem screen_lw (h:Lw w0 w g x t):Calls Tryz.prog 18 #[.pointer (some ⟨g,0,none⟩)] w fun e w'=>Below w.heap.size w w'∧∃ s:ScR,e=.returned (.agg (scrA s))∧ScOwn w.heap.size w' s t.screen:=by
 have hx:=h.tm
 have hss:=h.sane
 rw [← hx] at hss
 have:=screenS_any h.cz hss
 rw [hx] at this
 exact this
end
set_option maxHeartbeats 6400000 in
set_option maxRecDepth 100000 in
theorem fixedE_any {w:World} (hT:Tabs w):Calls Tryz.prog 23 #[] w fun e w'=>e=.returned (.bool true)∧Below w.heap.size w w':=by
 have HT:=Lib.hid hT
 have HN:=Lib.hid (new_lw (c:=4) (r:=2) hT (Below.refl _ _) (by decide) (by decide) (by decide) (by decide))
 have kc:=fun (w:World) (C:Array Value) (n c:Nat)=>Lib.run_convert_bytes_const (P:=Tryz.prog) w 36 5 C n c Tryz.underlying36 Tryz.underlying5
 clear hT
 go_enter Tryz.func23,Tryz.ntmps23
 go_wp2_with fail
 refine HN.out.mono ?_
 rintro e w1 ⟨hb1,g,x,rfl,hL,_⟩
 have L1:=Lib.hid hL
 clear hb1 hL
 obtain ⟨w2,hw2⟩:∃ w2,w2=w1.alloc (.cells #[.int .u8 97,.int .u8 98,.int .u8 99,.int .u8 100] 5 (4,5)):=⟨_,rfl⟩
 obtain ⟨b2,hb2⟩:∃ b2,b2=w1.heap.size:=⟨_,rfl⟩
 have H2:=Lib.hid (show Below w1.heap.size w1 w2∧Sb w2 (some ⟨b2,0,none⟩) 4 [97,98,99,100] from by rw [hw2,hb2];exact ⟨(Below.refl _ _).alloc (Nat.le_refl _) _,lit_u8 w1 _ 4 _ _ rfl rfl⟩)
 have HF:=Lib.hid (feed_lw (c:=4) HT.out (L1.out.below H2.out.1) H2.out.2 fx_u4 (by decide) (fun ad e _ hq=>by injection e with e;rw [← e] at hq;exact Nat.lt_irrefl _ (by rw [hb2] at hq;exact L1.out.cz.hi _ hq)))
 go_wp2_with fail
 rw [← hw2,← hb2]
 clear hw2 hb2
 refine HF.out.mono ?_
 rintro e w3 ⟨rfl,y,hy,_⟩
 have L3:=Lib.hid hy
 clear hy
 go_wp2_with fail
 refine (screen_lw L3.out).mono ?_
 rintro e w4 ⟨hb4,s,rfl,hs4⟩
 obtain ⟨b5,hb5⟩:∃ b5,b5=w4.heap.size:=⟨_,rfl⟩
 obtain ⟨w5,hw5⟩:∃ w5,w5=w4.alloc (.cells (scrA s) 56):=⟨_,rfl⟩
 have HB5:=Lib.hid (show w3.heap.size≤b5 from by rw [hb5];exact hb4.size)
 have hb45:Below w4.heap.size w4 w5:=by rw [hw5];exact (Below.refl _ _).alloc (Nat.le_refl _) _
 have S5:=Lib.hid (show ScC w5 b5 s∧ScOwn w3.heap.size w5 s fxT1.screen∧Lw w w5 g y fxT1 from ⟨by rw [hw5,hb5];exact ScC.new w4 s,hs4.below hb45,(L3.out.below hb4).below hb45⟩)
 clear hb4 hs4 hb45
 unfold scrA at hw5 ⊢
 go_upto_region 6 with fail
 rw [← hw5,← hb5]
 clear hw5 hb5
 obtain ⟨w6,hw6⟩:∃ w6,w6=w5.alloc (.cells #[.int .u8 101] 5 (1,2)):=⟨_,rfl⟩
 obtain ⟨b6,hb6⟩:∃ b6,b6=w5.heap.size:=⟨_,rfl⟩
 have H6:=Lib.hid (show Below w5.heap.size w5 w6∧Sb w6 (some ⟨b6,0,none⟩) 1 [101] from by rw [hw6,hb6];exact ⟨(Below.refl _ _).alloc (Nat.le_refl _) _,lit_u8 w5 _ 1 _ _ rfl rfl⟩)
 have HF2:=Lib.hid (feed_lw (c:=1) HT.out (S5.out.2.2.below H6.out.1) H6.out.2 fx_u1 (by decide) (fun ad e _ hq=>by injection e with e;rw [← e] at hq;exact Nat.lt_irrefl _ (by rw [hb6] at hq;exact S5.out.2.2.cz.hi _ hq)))
 go_wp2_with fail
 rw [← hw6,← hb6]
 clear hw6 hb6
 refine HF2.out.mono ?_
 rintro e w7 ⟨rfl,z,hz,hstep⟩
 have L7:=Lib.hid hz
 -- the first screen stays
 have S7:=Lib.hid (show ScC w7 b5 s∧ScIn w7 s fxT1.screen∧s.n≤1920∧s.m≤16 from by
  obtain ⟨h1,h2,h3⟩:=S5.out
  have hk:∀ q,q<w5.heap.size→¬ CB g y q→w7.heap[q]?=w5.heap[q]?:=fun q hq hS=>(hstep.out.keep q (Nat.lt_of_lt_of_le hq H6.out.1.size) hS).trans (H6.out.1.block q hq)
  have hsz:w5.heap.size≤w7.heap.size:=Nat.le_trans H6.out.1.size hstep.out.bel.size
  have hCB:∀ q,w3.heap.size≤q→¬ CB g y q:=fun q hq hS=>by have:=L3.out.cz.hi q hS;omega
  refine ⟨h1.keep hsz (hk b5 h1.lt (hCB b5 HB5.out)),{ h2.sc with cells:=?_,links:=?_ },h2.n,h2.m⟩
  · refine h2.sc.cells.keep hsz fun p hn hA hp=>World.cell?_of_block (hk _ hp (hCB _ ?_))
    obtain ⟨q,e,hq,_⟩:=h2.cx.own hn
    rw [e] at hA
    injection hA with hA
    rw [← hA]
    exact hq
  · refine h2.sc.links.keep hsz fun p hn hA hp=>World.cell?_of_block (hk _ hp (hCB _ ?_))
    obtain ⟨q,e,hq,_⟩:=h2.tx.blk hn
    rw [e] at hA
    injection hA with hA
    rw [← hA]
    exact hq)
 clear hz hstep
 go_wp2_with fail
 refine (screen_lw L7.out).mono ?_
 rintro e w8 ⟨hb8,s2,rfl,hs8⟩
 obtain ⟨b9,hb9⟩:∃ b9,b9=w8.heap.size:=⟨_,rfl⟩
 obtain ⟨w9,hw9⟩:∃ w9,w9=w8.alloc (.cells (scrA s2) 56):=⟨_,rfl⟩
 have hb89:Below w8.heap.size w8 w9:=by rw [hw9];exact (Below.refl _ _).alloc (Nat.le_refl _) _
 have hb79:Below w7.heap.size w7 w9:=hb8.trans (hb89.mono hb8.size)
 have S9:=Lib.hid (show ScC w9 b9 s2∧ScOwn w7.heap.size w9 s2 fxT2.screen∧Below w.heap.size w w9∧ScC w9 b5 s∧ScIn w9 s fxT1.screen from ⟨by rw [hw9,hb9];exact ScC.new w8 s2,hs8.below hb89,L7.out.bel.trans (hb79.mono L7.out.bel.size),S7.out.1.below hb79,S7.out.2.1.below hb79⟩)
 clear hb8 hs8 hb89 hb79
 unfold scrA at hw9 ⊢
 go_upto_region 8 with fail
 rw [← hw9,← hb9]
 clear hw9 hb9
 have f1:=fx_1
 have f2:=fx_2
 have i1:=S9.out.2.2.2.2
 have i2:=S9.out.2.1.sc
 have q0:s.n=8:=by rw [← i1.cells.len];exact f1.1
 have q1:s.x=3:=by rw [← i1.x];exact f1.2.1
 have q2:s.y=0:=by rw [← i1.y];exact f1.2.2
 have r0:s2.n=8:=by rw [← i2.cells.len];exact f2.1
 have r1:s2.x=1:=by rw [← i2.x];exact f2.2.1
 have r2:s2.y=1:=by rw [← i2.y];exact f2.2.2.1
 obtain ⟨ad,had,_,_⟩:=S9.out.2.1.cx.own (by omega)
 have hv2:=i2.cells
 rw [had] at hv2
 have k3:=(hv2.six (k:=3) (by omega)).c0
 have k4:=(hv2.six (k:=4) (by omega)).c0
 rw [addH,f2.2.2.2.1] at k3
 rw [addH,f2.2.2.2.2] at k4
 have a0:=S9.out.2.2.2.1.c0
 have a1:=S9.out.2.2.2.1.c1
 have a2:=S9.out.2.2.2.1.c2
 have a3:=S9.out.2.2.2.1.c3
 have a4:=S9.out.2.2.2.1.c4
 have a5:=S9.out.2.2.2.1.c5
 have a6:=S9.out.2.2.2.1.c6
 have a7:=S9.out.2.2.2.1.c7
 have a8:=S9.out.2.2.2.1.c8
 have d2:=S9.out.1.c2
 have d3:=S9.out.1.c3
 have d4:=S9.out.1.c4
 rw [q0] at a2
 rw [q1] at a3
 rw [q2] at a4
 rw [r0,had] at d2
 rw [r1] at d3
 rw [r2] at d4
 have HRA:=Lib.hid (rightT_any (s:=s) (HT.out.below S9.out.2.2.1 (Nat.le_refl _)) i1 (by omega) (by have:=S7.out.2.2.2;omega))
 rw [show rightSc fxT1.screen=true from screen_right fx_o1] at HRA
 unfold scrA at HRA
 rw [q0,q1,q2] at HRA
 clear f1 f2 i1 i2 q0 q1 q2 r0 r1 r2 hv2 had
 go_wp2_with fail
 refine HRA.out.mono ?_
 rintro e w10 ⟨rfl,hb10⟩
 have HBX:=Lib.hid (S9.out.2.2.1.trans (hb10.mono S9.out.2.2.1.size))
 clear hb10 a0 a1 a2 a3 a4 a5 a6 a7 a8 d2 d3 d4 k3 k4
 have HRZ:=Lib.hid (rightT_any (s:=scR0) (HT.out.below HBX.out (Nat.le_refl _)) (sc0_in w10) (by decide) (by decide))
 rw [sc0_right] at HRZ
 unfold scrA scR0 at HRZ
 go_wp2_with fail
 refine HRZ.out.mono ?_
 rintro e w11 ⟨rfl,hb11⟩
 have HBY:=Lib.hid (HBX.out.trans (hb11.mono HBX.out.size))
 clear hb11
 go_wp2_with fail
 go_ret
 exact ⟨rfl,HBY.out⟩
end Go.Proofs.YtlcipgdnpilkfaaGreatDoor
