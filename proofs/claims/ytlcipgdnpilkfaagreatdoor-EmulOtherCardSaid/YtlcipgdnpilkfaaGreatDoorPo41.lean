/-
  Part 41 of what the laws of emul want: EmulFeedS, EmulFd, EmulScrS.
-/
import Derived.Test.YtlcipgdnpilkfaaGreatDoorPo14
import Derived.Test.YtlcipgdnpilkfaaGreatDoorPo34
import Derived.Test.YtlcipgdnpilkfaaGreatDoorPo35
import Derived.Test.YtlcipgdnpilkfaaGreatDoorPo40
namespace Go.Proofs.YtlcipgdnpilkfaaGreatDoor
theorem lead_p (t:Tm) (s:ByteArray):(t.lead s).p=t.p:=by
 unfold Tm.lead
 dsimp only
 repeat' split
 all_goals rfl
theorem pIte {c:Prop} [Decidable c] {a b:Tm} {q:PaS} (ha:a.p=q) (hb:b.p=q):(if c then a else b).p=q:=by split;exact ha;exact hb
theorem showO_p (t:Tm) (o:Bool):(t.showO o).p=t.p:=by
 unfold Tm.showO
 exact pIte rfl rfl
theorem mode_p (t:Tm) (n:Int) (on:Bool):(t.mode n on).p=t.p:=by
 unfold Tm.mode
 repeat' with_reducible refine pIte ?_ ?_
 all_goals first | rfl | exact (Stp.home { t with now:={ t.now with org:=on } }).p | exact showO_p _ _ | exact showO_p { t with sav:=t.now } true | exact ((Stp.restored _).p).trans (showO_p _ _)
theorem modes_p (on:Bool):∀ (l:List Int) (t:Tm),(l.foldl (fun t n=>t.mode n on) t).p=t.p
 | [],_=>rfl
 | n :: l,t=>(modes_p on l (t.mode n on)).trans (mode_p t n on)
theorem esc_p (t:Tm) (b:Int):(t.esc b).p=t.p:=by
 by_cases h1:b=55
 · subst h1;rfl
 by_cases h2:b=99
 · subst h2;rfl
 · exact (Stp.esc t h1 h2).p
theorem csi_p (t:Tm) (a:AcS):(t.csi a).p=t.p:=by
 obtain ⟨k,r,m,f,ps,tx⟩:=a
 by_cases h1:m=63
 · unfold Tm.csi
   by_cases h2:m=63∧(f=104∨f=108)
   · rw [if_pos h2];exact modes_p _ _ _
   · rw [if_neg h2,if_neg (fun e=>by have:m=33:=e.1;omega),if_pos (by show m≠0;omega)]
 by_cases h2:m=33
 · unfold Tm.csi
   rw [if_neg (fun e=>h1 e.1)]
   by_cases h3:m=33∧f=112
   · rw [if_pos h3];rfl
   · rw [if_neg h3,if_pos (by show m≠0;omega)]
 by_cases h3:f=115
 · subst h3
   unfold Tm.csi
   rw [if_neg (fun e=>h1 e.1),if_neg (fun e=>h2 e.1)]
   by_cases hm:m=0
   · rw [if_neg (fun e=>e hm)]
     dsimp only
     repeat rw [if_neg (by decide)]
     rw [if_pos rfl]
   · rw [if_pos hm]
 · exact (Stp.csi t h1 h2 h3).p
theorem osc_p (t:Tm) (b:List Int):(t.osc b).p=t.p:=by
 rcases osc_is t b with ⟨s,e⟩ | e
 · rw [e];exact lead_p t s
 · exact e.p
theorem doA_p (t:Tm) (a:AcS):(t.doA a).p=t.p:=by
 unfold Tm.doA
 split
 · rfl
 · split
   · exact (Stp.print t _).p
   · split
     · exact (Stp.c0 _ _).p
     · split
       · split
         · exact esc_p _ _
         · rfl
       · split
         · split
           · exact csi_p _ _
           · exact csi_p _ _
         · split
           · exact osc_p t _
           · rfl
theorem all_p:∀ (l:List AcS) (t:Tm),(l.foldl Tm.doA t).p=t.p
 | [],_=>rfl
 | a :: l,t=>(all_p l (t.doA a)).trans (doA_p t a)
theorem byte_p (t:Tm) (b:Int):(t.byte b).p=(feedP t.p b).2:=all_p _ _
def Tm.setP (t:Tm) (q:PaS):Tm:={ t with p:=q }
theorem setP_p (t:Tm) (q:PaS):(t.setP q).p=q:=rfl
theorem setP_setP (t:Tm) (a b:PaS):(t.setP a).setP b=t.setP b:=rfl
theorem setP_self {t:Tm} {q:PaS} (h:t.p=q):t.setP q=t:=by rw [← h];rfl
theorem byte_none {t:Tm} {b:Int} {s s':PaS} (h:t.p=s) (hs:feedP s b=([],s')):t.byte b=t.setP s':=by
 unfold Tm.byte
 rw [h,hs]
 rfl
theorem byte_one {t:Tm} {b:Int} {s s':PaS} {a:AcS} (h:t.p=s) (hs:feedP s b=([a],s')):t.byte b=(t.setP s').doA a:=by
 unfold Tm.byte
 rw [h,hs]
 rfl
theorem feed_cons (t:Tm) (b:Int) (l:List Int):t.feed (b :: l)=(t.byte b).feed l:=rfl
theorem feed_1049 {t:Tm} (h:t.p=pa0) {f:Int} (hf:f=104∨f=108):t.feed [27,91,63,49,48,52,57,f]=t.doA (acCsi 63 f [1049]):=by
 have h8:feedP ⟨3,63,[1049],[],[]⟩ f=([acCsi 63 f [1049]],pa0):=by rcases hf with rfl | rfl<;>decide
 rw [feed_cons,byte_none h (s':=paIn 1) (by decide)]
 rw [feed_cons,byte_none (setP_p _ _) (s':=paIn 3) (by decide),setP_setP]
 rw [feed_cons,byte_none (setP_p _ _) (s':=⟨3,63,[],[],[]⟩) (by decide),setP_setP]
 rw [feed_cons,byte_none (setP_p _ _) (s':=⟨3,63,[1],[],[]⟩) (by decide),setP_setP]
 rw [feed_cons,byte_none (setP_p _ _) (s':=⟨3,63,[10],[],[]⟩) (by decide),setP_setP]
 rw [feed_cons,byte_none (setP_p _ _) (s':=⟨3,63,[104],[],[]⟩) (by decide),setP_setP]
 rw [feed_cons,byte_none (setP_p _ _) (s':=⟨3,63,[1049],[],[]⟩) (by decide),setP_setP]
 rw [feed_cons,byte_one (setP_p _ _) h8,setP_setP,setP_self h]
 rfl
theorem byte_24 (t:Tm):(t.byte 24).p=pa0:=by rw [byte_p,feed24]
open Go.RowKit
/-! ### What a step of the parser tells -/
theorem prS_tx (l:List Int):∀ a∈prS l,a.ps.length≤16∧U8s a.tx:=fun a ha=>by
 obtain ⟨z,_,rfl⟩:=List.mem_map.1 ha
 exact ⟨by simp [acPrint],fun z hz=>by simp [acPrint] at hz⟩
def TxO (p:List AcS × PaS):Prop:=(∀ a∈p.1,a.ps.length≤16∧U8s a.tx)∧U8s p.2.tx
theorem u8_nil:U8s []:=fun z hz=>by cases hz
theorem txo_none {s:PaS} (h:U8s s.tx):TxO ([],s):=⟨fun a ha=>(by cases ha),h⟩
theorem txo_ite {c:Prop} [Decidable c] {a b:List AcS × PaS} (ha:TxO a) (hb:TxO b):TxO (if c then a else b):=by split;exact ha;exact hb
theorem txo_one {a:AcS} {s:PaS} (h1:a.ps.length≤16∧U8s a.tx) (h:U8s s.tx):TxO ([a],s):=⟨fun x hx=>by rw [List.mem_singleton.1 hx];exact h1,h⟩
theorem txo_app {L M:List AcS} {s:PaS} (h1:∀ a∈L,a.ps.length≤16∧U8s a.tx) (h2:∀ a∈M,a.ps.length≤16∧U8s a.tx) (h:U8s s.tx):TxO (L ++ M,s):=⟨fun a ha=>by
 rcases List.mem_append.1 ha with ha | ha
 · exact h1 a ha
 · exact h2 a ha,h⟩
theorem bare_tx {k r m f:Int}:(⟨k,r,m,f,[],[]⟩:AcS).ps.length≤16∧U8s (⟨k,r,m,f,[],[]⟩:AcS).tx:=⟨by simp,u8_nil⟩
theorem ground_tx (dec:List Int) (b:Int):TxO (groundP dec b):=by
 unfold groundP
 refine txo_ite (txo_app (prS_tx _) (fun a ha=>by rw [List.mem_singleton.1 ha];exact bare_tx) u8_nil) (txo_ite ⟨prS_tx _,u8_nil⟩ ⟨prS_tx _,u8_nil⟩)
theorem esc_tx (s:PaS) (b:Int):TxO (escP s b):=by
 unfold escP
 refine txo_ite (txo_ite (txo_none u8_nil) (txo_none u8_nil)) (txo_ite (txo_none u8_nil) (txo_ite (txo_none u8_nil) (txo_ite (txo_none u8_nil) (txo_one bare_tx u8_nil))))
theorem ctl_tx (s:PaS) (b:Int):TxO (ctlP s b):=by
 unfold ctlP
 have hc:(acCsi s.m b (s.ps.take 16)).ps.length≤16∧U8s (acCsi s.m b (s.ps.take 16)).tx:=⟨by simp [acCsi];omega,u8_nil⟩
 refine txo_ite (txo_one hc u8_nil) (txo_ite (txo_none u8_nil) (txo_ite (txo_ite (txo_none u8_nil) (txo_none u8_nil)) (txo_ite (txo_none u8_nil) (txo_ite (txo_none u8_nil) (txo_ite (txo_none u8_nil) (txo_none u8_nil))))))
theorem feed_tx {s:PaS} {b:Int} (h:U8s s.tx) (hb:0≤b∧b≤255):TxO (feedP s b):=by
 have ho:(acOsc s.tx).ps.length≤16∧U8s (acOsc s.tx).tx:=⟨by simp [acOsc],h⟩
 have hos:∀ a∈(if s.tx.length≤256 then [acOsc s.tx] else []),a.ps.length≤16∧U8s a.tx:=fun a ha=>by
  split at ha
  · rw [List.mem_singleton.1 ha];exact ho
  · cases ha
 have hos2:∀ a∈(if s.st=5∧s.tx.length≤256 then [acOsc s.tx] else []),a.ps.length≤16∧U8s a.tx:=fun a ha=>by
  split at ha
  · rw [List.mem_singleton.1 ha];exact ho
  · cases ha
 have hsn:U8s (s.tx ++ [b]):=fun z hz=>by
  rcases List.mem_append.1 hz with hz | hz
  · exact h z hz
  · rw [List.mem_singleton.1 hz];exact hb
 unfold feedP
 refine txo_ite (ground_tx _ _) (txo_ite (txo_none u8_nil) (txo_ite (txo_app (prS_tx _) hos2 u8_nil) (txo_ite (txo_ite ⟨hos,u8_nil⟩ (txo_ite (txo_none h) (txo_none hsn))) (txo_ite (txo_none h) (txo_ite (txo_one bare_tx h) (txo_ite (txo_none h) (txo_ite (ground_tx _ _) (txo_ite (esc_tx s b) (txo_ite (txo_ite (txo_none u8_nil) (txo_none h)) (txo_ite (txo_ite (txo_none u8_nil) (txo_none h)) (ctl_tx s b)))))))))))
structure Sane (t:Tm):Prop where
 lk:LkOk t
 tx:U8s t.p.tx
namespace Sane
variable {t:Tm}
theorem fresh (c r:Nat):Sane (tmNew c r):=⟨LkOk.fresh c r,u8_nil⟩
theorem doA (h:Sane t) (a:AcS):Sane (t.doA a):=⟨h.lk.doA a,by rw [doA_p];exact h.tx⟩
theorem all:∀ (l:List AcS) {t:Tm},Sane t→Sane (l.foldl Tm.doA t)
 | [],_,h=>h
 | a :: l,_,h=>all l (h.doA a)
theorem with_p (h:Sane t) {q:PaS} (hq:U8s q.tx):Sane { t with p:=q }:=⟨h.lk.with_p q,hq⟩
theorem byte (h:Sane t) {b:Int} (hb:0≤b∧b≤255):Sane (t.byte b):=all _ (h.with_p (feed_tx h.tx hb).2)
theorem feed:∀ (l:List Int) {t:Tm},Sane t→U8s l→Sane (t.feed l)
 | [],_,h,_=>h
 | b :: l,_,h,hl=>feed l (h.byte (hl b (by simp))) fun z hz=>hl z (by simp [hz])
end Sane
theorem feed_snoc (t:Tm) {l:List Int} {k:Nat} (h:k<l.length):t.feed (l.take (k+1))=(t.feed (l.take k)).byte (l.getD k 0):=by
 rw [List.take_add_one,List.getElem?_eq_getElem h,Tm.feed_append,getD_lt h]
 rfl
section
variable {B:Nat} {w:World} {g:Nat} {x:CT}
theorem Cz.parsed (h:Cz B w g x) {w':World} {S':Nat→Prop} {s':PaS} (hp:Pz B w' x.pd s' S') (ho:OutB B x.PS w w') (hS:∀ q,S' q→x.PS q∨w.heap.size≤q):CzTo B g x { x.t with p:=s' } w w' { x with t:={ x.t with p:=s' },PS:=S' }:=by
 have hs:=ho.bel.size
 have hm:¬ x.PS x.mb:=h.p.off h.m.has (by decide) (by decide) (by decide) (by decide)
 have hoo:¬ x.PS x.ob:=h.p.off h.o.has (by decide) (by decide) (by decide) (by decide)
 have ht:∀ q,(Value.slice x.bA x.bN x.bK).ownBlock=some q→¬ x.PS q:=fun q hq=>h.p.off (row_has h.b.own q hq) (by decide) (by decide) (by decide) (by decide)
 refine ⟨rfl,⟨(ho.keep g h.lt h.gp).trans h.blk,h.gB,h.ok.with_p s',h.m.kept (ho.keep _ h.m.lt hm),h.mB,h.mn,h.mkk,h.o.kept (ho.keep _ h.o.lt hoo),h.oB,h.on,h.okk,h.ne,hp,h.b.same fun q hq=>ho.keep q (h.b.own.lt q hq).2 (ht q hq),h.tl,h.bs⟩,⟨ho.bel,fun q hq hn=>ho.keep q hq fun hp=>hn (.inr (.inr (.inr (.inl hp))))⟩,fun q hq=>?_⟩
 rcases hq with hq | hq | hq | hq | hq
 · exact .inl (.inl hq)
 · exact .inl (.inr (.inl hq))
 · exact .inl (.inr (.inr (.inl hq)))
 · rcases hS q hq with h1 | h1
   · exact .inl (.inr (.inr (.inr (.inl h1))))
   · exact .inr h1
 · exact .inl (.inr (.inr (.inr (.inr hq))))
theorem ActIn.on {y:AcR} {t':Tm} {w':World} {z:CT} (h:ActIn w g x y) (ht:∀ ad,y.T=some ad→0<y.nt→¬ CB g x ad.block) (k:CzTo B g x t' w w' z):ActIn w' g z y:=by
 refine ⟨⟨h.rd.p.keep k.out.bel.size fun p hn hA hp=>?_,h.rd.t.keep k.out.bel.size fun p hn hA hp=>?_,h.rd.lp,h.rd.mp,h.rd.lt,h.rd.mt⟩,fun ad e hn hq=>?_,h.u8,h.np⟩
 · cases hP:y.P with
   | none=>rw [hP] at hA;cases hA
   | some ad =>
    rw [hP] at hA
    have hA:ad.block=p.block:=by injection hA
    exact World.cell?_of_block (k.out.keep _ hp (by rw [← hA];exact h.off ad hP hn))
 · cases hP:y.T with
   | none=>rw [hP] at hA;cases hA
   | some ad =>
    rw [hP] at hA
    have hA:ad.block=p.block:=by injection hA
    exact World.cell?_of_block (k.out.keep _ hp (by rw [← hA];exact ht ad hP hn))
 · obtain ⟨ad',e',hb,_⟩:=h.rd.p.at_ hn
   obtain rfl:ad=ad':=by rw [e] at e';injection e'
   rcases k.sub _ hq with h1 | h1
   · exact h.off ad e hn h1
   · omega
structure ActsIn (w:World) (g:Nat) (x:CT) (A:Option Addr) (R:List AcR):Prop where
 row:Vs acV w A R.length R
 offR:∀ ad,A=some ad→0<R.length→¬ CB g x ad.block
 each:∀ y∈R,ActIn w g x y
 offT:∀ y∈R,∀ ad,y.T=some ad→0<y.nt→¬ CB g x ad.block
theorem ActsIn.at_ {A:Option Addr} {R:List AcR} (h:ActsIn w g x A R) {t':Tm} {w':World} {z:CT} (k:CzTo B g x t' w w' z) {j:Nat} (hj:j<R.length):∃ ad y,A=some ad∧R[j]?=some y∧y∈R∧Sxa w' (ad.add (j*6)) y∧ActIn w' g z y:=by
 obtain ⟨ad,rfl⟩:=h.row.addr (by omega)
 have hy:R[j]?=some R[j]:=List.getElem?_eq_getElem hj
 have hv:Vs acV w' (some ad) R.length R:=h.row.keep k.out.bel.size fun p hn hA hp=>World.cell?_of_block (k.out.keep _ hp (by
  have hA:ad.block=p.block:=by injection hA
  rw [← hA]
  exact h.offR ad rfl hn))
 exact ⟨ad,R[j],rfl,hy,List.getElem_mem hj,hv.sxa hy,(h.each _ (List.getElem_mem hj)).on (h.offT _ (List.getElem_mem hj)) k⟩
theorem acts_apart (h:Cz B w g x) {w':World} {S':Nat→Prop} {s':PaS} {A:Option Addr} {R:List AcR} {b:Int} (hb:0≤b∧b≤255) (htx:U8s x.t.p.tx) (hA:Ats w' A R.length R) (hL:acts R=(feedP x.t.p b).1) (hap:∀ y∈R,Ap w' S' y) (hn:FdNew w A R) (hr:∀ ad,A=some ad→0<R.length→¬ S' ad.block):ActsIn w' g { x with t:={ x.t with p:=s' },PS:=S' } A R:=by
 have hold:∀ q,w.heap.size≤q→¬ S' q→¬ CB g { x with t:={ x.t with p:=s' },PS:=S' } q:=fun q hq hS hc=>by
  rcases hc with hc | hc | hc | hc | hc
  · have:=h.lt;omega
  · have:=h.m.lt;simp only at hc;omega
  · have:=h.o.lt;simp only at hc;omega
  · exact hS hc
  · have:=(h.b.own.lt q hc).2;omega
 have hf:=(feed_tx htx hb).1
 rw [← hL] at hf
 have hmem:∀ y∈R,y.a∈acts R:=fun y hy=>List.mem_map.2 ⟨y,hy,rfl⟩
 exact ⟨hA.row,fun ad e hn'=>hold _ (hn.1 ad e hn') (hr ad e hn'),fun y hy=>⟨hA.rd y hy,fun ad e hn'=>hold _ ((hn.2 y hy).1 ad e hn') ((hap y hy).p ad e hn').1,(hf _ (hmem y hy)).2,by rw [← (hA.rd y hy).p.len];have:=(hf _ (hmem y hy)).1;omega⟩,fun y hy ad e hn'=>hold _ ((hn.2 y hy).2 ad e hn') ((hap y hy).t ad e hn').1⟩
theorem acts_snoc {R:List AcR} {j:Nat} {y:AcR} (h:R[j]?=some y) (t:Tm):((acts R).take (j+1)).foldl Tm.doA t=(((acts R).take j).foldl Tm.doA t).doA y.a:=by
 rw [List.take_add_one,acts_get h,List.foldl_append]
 rfl
set_option maxRecDepth 100000 in
set_option maxHeartbeats 6400000 in
theorem feedT_any (hT:Tabs w) (h:Cz B w g x) (hl:Sane x.t) {A:Option Addr} {n c:Nat} {zs:List Int} (hs:Sb w A n zs) (h8:U8s zs) (hn:n≤1000000) (hoff:∀ ad,A=some ad→0<n→¬ CB g x ad.block):Calls Tryz.prog 15 #[.pointer (some ⟨g,0,none⟩),.slice A n c] w (CzP B g x (x.t.feed zs) w):=by
 have HZ:=Lib.hid h
 have HT:=Lib.hid hT
 have HL:=Lib.hid hl
 have HS:=Lib.hid (And.intro hs (And.intro h8 hoff))
 clear h hT hl hs h8 hoff
 go_enter Tryz.func15,Tryz.ntmps15
 go_wp2_with fail
 go_loopw [12] (fun i wr=>∃ (k:Nat) (y:CT),k≤n∧i=.int .i64 k∧CzTo B g x (x.t.feed (zs.take k)) w wr y) (fun i _=>n-(intOf i).toNat)
 case atStart=>exact ⟨0,x,Nat.zero_le _,rfl,by rw [List.take_zero];exact CzTo.refl HZ.out⟩
 case round =>
  obtain ⟨k,y,hk,rfl,hy⟩:=hrel
  have Y:=Lib.hid hy
  clear hy
  by_cases hlt:k<n
  · have hln:=HS.out.1.len
    obtain ⟨ad,rfl,hbk,hcl⟩:=HS.out.1.at_ (by omega)
    have hcell:wr.cell? (ad.add k)=some (.int .u8 (zs.getD k 0)):=by
     rw [World.cell?_of_block (Y.out.out.keep (ad.add k).block (by rw [addBlock];exact hbk) (by rw [addBlock];exact HS.out.2.2 ad rfl (by omega)))]
     exact hcl k hlt
    have hz8:0≤zs.getD k 0∧zs.getD k 0≤255:=by
     rw [getD_lt (by omega)]
     exact HS.out.2.1 _ (List.getElem_mem _)
    have HN:=Lib.hid (feed_snoc x.t (l:=zs) (k:=k) (by omega))
    generalize zs.getD k 0=z at hcell hz8 HN
    have HZ8:=Lib.hid hz8
    have HSN:=Lib.hid (show Sane y.t from by rw [Y.out.t];exact Sane.feed _ HL.out fun z hz=>HS.out.2.1 z (List.mem_of_mem_take hz))
    have kk:(k:Int)<(n:Int):=by omega
    have c0:wr.cell? ⟨g,0,none⟩=some (.pointer (some ⟨y.pd,0,none⟩)):=Y.out.cz.cell rfl
    have HT2:=Lib.hid (HT.out.out HZ.out.tab Y.out.out.bel)
    clear hbk hcl hln hz8
    go_wp2_with fail
    refine (pFeed_any HT2.out Y.out.cz.p Y.out.cz.bB HZ8.out).mono ?_
    rintro e w2 ⟨A2,c2,R,S2,rfl,hA2,hR,hP,ho,hS,hAp,hnew,hrw⟩
    obtain ⟨y1,hy1⟩:∃ y1:CT,y1={ y with t:={ y.t with p:=(feedP y.t.p z).2 },PS:=S2 }:=⟨_,rfl⟩
    have K1:=Lib.hid (show CzTo B g y { y.t with p:=(feedP y.t.p z).2 } wr w2 y1 from by rw [hy1];exact Y.out.cz.parsed hP ho hS)
    have AI:=Lib.hid (show ActsIn w2 g y1 A2 R from by rw [hy1];exact acts_apart Y.out.cz HZ8.out HSN.out.tx hA2 hR hAp hnew hrw)
    have HR:=Lib.hid hR
    have hr2:R.length≤2:=by rw [← acts_len,hR];exact feedP_len _ _
    have HX1:=Lib.hid (show y1.t={ y.t with p:=(feedP y.t.p z).2 } from by rw [hy1])
    have HS1:=Lib.hid (show Sane y1.t from by rw [hy1];exact HSN.out.with_p (feed_tx HSN.out.tx HZ8.out).2)
    have T2:=Lib.hid (HT2.out.out HZ.out.tab K1.out.out.bel)
    clear hA2 hR hP ho hS hAp hnew hrw hy1 hcell c0
    go_wp2_with fail
    go_loopw [23] (fun i w3=>∃ (j:Nat) (v:CT),j≤R.length∧i=.int .i64 j∧CzTo B g y1 (((acts R).take j).foldl Tm.doA y1.t) w2 w3 v) (fun i _=>R.length-(intOf i).toNat)
    case atStart=>exact ⟨0,y1,Nat.zero_le _,rfl,CzTo.refl K1.out.cz⟩
    case round =>
     obtain ⟨j,v,hj,rfl,hv⟩:=hrel
     have V:=Lib.hid hv
     clear hv
     by_cases hjl:j<R.length
     · obtain ⟨ad2,a,rfl,hget,hmem,hsx,hin⟩:=AI.out.at_ V.out hjl
       have HSC:=Lib.hid (acts_snoc hget y1.t)
       have s0:=hsx.c0
       have s1:=hsx.c1
       have s2:=hsx.c2
       have s3:=hsx.c3
       have s4:=hsx.c4
       have s5:=hsx.c5
       obtain ⟨w3,hw3⟩:∃ w3,w3=wr.alloc (.cells (acA a) 62):=⟨_,rfl⟩
       obtain ⟨b3,hb3e⟩:∃ b3,b3=wr.heap.size:=⟨_,rfl⟩
       have HD3:=Lib.hid (show w3.cell? ⟨b3,0,none⟩=some (.int .i64 a.a.k)∧w3.cell? ⟨b3,1,none⟩=some (.int .i32 a.a.r)∧w3.cell? ⟨b3,2,none⟩=some (.int .u8 a.a.m)∧w3.cell? ⟨b3,3,none⟩=some (.int .u8 a.a.fin)∧w3.cell? ⟨b3,4,none⟩=some (.slice a.P a.np a.cp)∧w3.cell? ⟨b3,5,none⟩=some (.slice a.T a.nt a.ct) from by
        rw [hw3,hb3e]
        exact ⟨newCell wr _ _ 0 rfl,newCell wr _ _ 1 rfl,newCell wr _ _ 2 rfl,newCell wr _ _ 3 rfl,newCell wr _ _ 4 rfl,newCell wr _ _ 5 rfl⟩)
       have hb3:Below wr.heap.size wr w3:=by rw [hw3];exact (Below.refl _ _).alloc (Nat.le_refl _) _
       have X3:=Lib.hid (show CzTo B g y1 (((acts R).take j).foldl Tm.doA y1.t) w2 w3 v from V.out.below hb3)
       have IN:=Lib.hid (show ActIn w3 g v a from ⟨hin.rd.below hb3,hin.off,hin.u8,hin.np⟩)
       have LK:=Lib.hid (show LkOk v.t from by rw [V.out.t];exact (Sane.all _ HS1.out).lk)
       have T3:=Lib.hid (T2.out.out HZ.out.tab X3.out.out.bel)
       have jj:(j:Int)<(R.length:Int):=by omega
       unfold acA at hw3
       have HDO:=Lib.hid (doT_any T3.out X3.out.cz LK.out a IN.out)
       unfold acA at HDO
       clear hget hmem hsx hin hb3
       go_upto_region 7 with fail
       rw [← hw3,← hb3e]
       clear hw3 hb3e s0 s1 s2 s3 s4 s5
       obtain ⟨d0,d1,d2,d3,d4,d5⟩:=HD3.out
       go_wp2_with fail
       refine HDO.out.mono ?_
       rintro e w4 ⟨rfl,u,hu⟩
       have X4:=Lib.hid (show CzTo B g y1 (((acts R).take (j+1)).foldl Tm.doA y1.t) w2 w4 u from (X3.out.trans hu).as (by rw [HSC.out,X3.out.t]))
       clear hu d0 d1 d2 d3 d4 d5
       go_wp2_with fail
       go_roundw
       case rel=>exact ⟨j+1,u,by omega,by go_num,X4.out⟩
       case measure=>simp [intOf];omega
     · obtain rfl:j=R.length:=by omega
       have hall:(acts R).take R.length=acts R:=List.take_of_length_le (by rw [acts_len];exact Nat.le_refl _)
       have E:=Lib.hid (show CzTo B g x (x.t.feed (zs.take (k+1))) w wr v from (Y.out.trans (K1.out.trans V.out)).as (by
        rw [hall,HR.out,HX1.out,HN.out,← Y.out.t]
        rfl))
       clear hall
       go_wp2_with fail
       go_roundw
       case rel=>exact ⟨k+1,v,by omega,by go_num,E.out⟩
       case measure=>simp [intOf];omega
  · obtain rfl:k=n:=by omega
    have hall:zs.take k=zs:=List.take_of_length_le (by rw [HS.out.1.len];exact Nat.le_refl _)
    have E:=Lib.hid (show CzTo B g x (x.t.feed zs) w wr y from Y.out.as (by rw [hall]))
    clear hall
    go_wp2_with fail
    go_end0
    exact ⟨rfl,y,E.out⟩
end
open Go.RowKit
theorem numI_rng (l:List ByteArray) (s:ByteArray):0≤numI l s∧numI l s≤l.length:=by
 unfold numI
 have h1:=placeI_ge l s
 have h2:=placeI_lt l s
 split<;>omega
section
variable {B:Nat} {w:World} {g:Nat} {x:CT}
structure ScOwn (base:Nat) (w:World) (s:ScR) (S:Sc):Prop where
 sc:ScIn w s S
 cx:Cx base w s.A s.n s.k S.cells
 tx:Tx base w s.T s.m s.q S.links
 n:s.n≤1920
 m:s.m≤16
theorem ScOwn.below {base:Nat} {w w':World} {s:ScR} {S:Sc} (h:ScOwn base w s S) (hb:Below w.heap.size w w'):ScOwn base w' s S:=⟨h.sc.below hb,h.cx.below hb,h.tx.below hb,h.n,h.m⟩
theorem screenS_any (h:Cz B w g x) (hs:Sane x.t):Calls Tryz.prog 18 #[.pointer (some ⟨g,0,none⟩)] w fun e w'=>Below w.heap.size w w'∧∃ s:ScR,e=.returned (.agg (scrA s))∧ScOwn w.heap.size w' s x.t.screen:=by
 have htb:=h.ok.tbl
 refine (screen_any h fun ce hce=>(prws_flat hs.lk.shown ce hce).rng htb).mono ?_
 rintro e w' ⟨hb,A,c,A',c',rfl,hc,ht⟩
 have hl:=canonL_le x.t.shown.flatten x.t.table
 have hcl:(canonC x.t.shown.flatten x.t.table).length≤1920:=by rw [canonC_len,h.ok.shown.box.flen];exact h.ok.shown.small
 have hml:=h.ok.title
 have htl:x.ttl.size≤64:=by rw [← sL_len,h.tl];exact hml.1
 refine ⟨hb,⟨x.t.c,x.t.r,A,_,c,x.t.now.x,x.t.now.y,x.t.hid,x.t.mouse,x.ttl,A',_,c'⟩,rfl,⟨⟨rfl,rfl,rfl,rfl,rfl,rfl,h.tl.symm,hc.vs,ht.vs,hc.le,by show (canonC _ _).length≤_;omega,ht.le,?_,?_,by show x.ttl.size≤_;omega⟩,hc,ht,hcl,by show (canonL _ _).length≤16;omega⟩⟩
 · intro y hy
   obtain ⟨z,_,rfl⟩:=List.mem_map.1 hy
   have:=numI_rng (canonL x.t.shown.flatten x.t.table) (leadsS x.t.table z.p.lk)
   show 0≤numI _ _∧numI _ _≤65535
   omega
 · intro u hu
   have:=h.bs u (canonL_may hu).2
   omega
structure ScC (w:World) (b:Nat) (s:ScR):Prop where
 c0:w.cell? ⟨b,0,none⟩=some (.int .i64 s.c)
 c1:w.cell? ⟨b,1,none⟩=some (.int .i64 s.r)
 c2:w.cell? ⟨b,2,none⟩=some (.slice s.A s.n s.k)
 c3:w.cell? ⟨b,3,none⟩=some (.int .i64 s.x)
 c4:w.cell? ⟨b,4,none⟩=some (.int .i64 s.y)
 c5:w.cell? ⟨b,5,none⟩=some (.bool s.hid)
 c6:w.cell? ⟨b,6,none⟩=some (.int .u8 s.mouse)
 c7:w.cell? ⟨b,7,none⟩=some (.string s.ttl)
 c8:w.cell? ⟨b,8,none⟩=some (.slice s.T s.m s.q)
 lt:b<w.heap.size
theorem ScC.new (w:World) (s:ScR):ScC (w.alloc (.cells (scrA s) 56)) w.heap.size s :=
 ⟨newCell w _ _ 0 rfl,newCell w _ _ 1 rfl,newCell w _ _ 2 rfl,newCell w _ _ 3 rfl,newCell w _ _ 4 rfl,newCell w _ _ 5 rfl,newCell w _ _ 6 rfl,newCell w _ _ 7 rfl,newCell w _ _ 8 rfl,by simp⟩
theorem ScC.keep {w w':World} {b:Nat} {s:ScR} (h:ScC w b s) (hs:w.heap.size≤w'.heap.size) (hb:w'.heap[b]?=w.heap[b]?):ScC w' b s:=by
 have hc:∀ k,w'.cell? ⟨b,k,none⟩=w.cell? ⟨b,k,none⟩:=fun k=>World.cell?_of_block hb
 exact ⟨(hc 0).trans h.c0,(hc 1).trans h.c1,(hc 2).trans h.c2,(hc 3).trans h.c3,(hc 4).trans h.c4,(hc 5).trans h.c5,(hc 6).trans h.c6,(hc 7).trans h.c7,(hc 8).trans h.c8,Nat.lt_of_lt_of_le h.lt hs⟩
theorem ScC.below {w w':World} {b:Nat} {s:ScR} (h:ScC w b s) (hb:Below w.heap.size w w'):ScC w' b s:=h.keep hb.size (hb.block b h.lt)
end
end Go.Proofs.YtlcipgdnpilkfaaGreatDoor
