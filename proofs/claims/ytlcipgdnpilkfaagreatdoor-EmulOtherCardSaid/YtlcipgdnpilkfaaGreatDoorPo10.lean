/-
  Part 10 of what the laws of emul want: EmulSpec, EmulPure, UtfDec, EmulTitleS, Ints, IntsApp.
-/
import Derived.Lib.TrimUEq
import Derived.Laws.Cover4
import Derived.Laws.AppendOwnNone
import Derived.Test.YtlcipgdnpilkfaaGreatDoorPo01
import Derived.Test.YtlcipgdnpilkfaaGreatDoorPo02
import Derived.Test.YtlcipgdnpilkfaaGreatDoorPo08
import Derived.Test.YtlcipgdnpilkfaaGreatDoorPo09
namespace Go.Proofs.YtlcipgdnpilkfaaGreatDoor
structure Spt where
 x:Int
 y:Int
 pen:Pn
 org:Bool
structure Tm where
 c:Nat
 r:Nat
 main:Rws
 other:Rws
 isO:Bool
 now:Spt
 sav:Spt
 full:Bool
 top:Int
 bot:Int
 nowrap:Bool
 ins:Bool
 hid:Bool
 mouse:Int
 tabs:List Bool
 title:List Int
 table:List ByteArray
 last:Int
 p:PaS
def spt0:Spt:=⟨0,0,pn0,false⟩
def tabs0:List Bool:=(List.range 80).map fun i=>decide (i≠0∧i % 8=0)
def blankR (c r:Nat):Rws:=List.replicate r (blanksS c pn0)
def tmNew (c r:Nat):Tm:=⟨c,r,blankR c r,blankR c r,false,spt0,spt0,false,0,r-1,false,false,false,0,tabs0,[],[],0,pa0⟩
namespace Tm
def shown (t:Tm):Rws:=if t.isO then t.other else t.main
def put (t:Tm) (g:Rws):Tm:=if t.isO then { t with other:=g } else { t with main:=g }
def atX (t:Tm) (x:Int):Tm:={ t with now:={ t.now with x:=x } }
def atY (t:Tm) (y:Int):Tm:={ t with now:={ t.now with y:=y } }
def scrolled (t:Tm) (a b n:Int):Tm:=t.put (scrollS t.c t.shown a b n t.now.pen)
def erased (t:Tm) (a b:Int):Tm:=t.put (clearS t.c t.shown a b t.now.pen)
def down (t:Tm):Tm:=if t.now.y=t.bot then t.scrolled t.top t.bot 1 else if t.now.y≠t.r-1 then t.atY (t.now.y+1) else t
def up (t:Tm):Tm:=if t.now.y=t.top then t.scrolled t.top t.bot (-1) else if t.now.y≠0 then t.atY (t.now.y-1) else t
def home (t:Tm):Tm:=(t.atX 0).atY (if t.now.org then t.top else 0)
def restored (t:Tm):Tm:={ t with now:={ t.sav with x:=min t.sav.x (t.c-1),y:=min t.sav.y (t.r-1) } }
def letter (t:Tm) (r:Int):Tm :=
 let w:=widthS r
 let t:=if t.ins then t.put (inRowS (fun l=>insertS l t.now.x w t.now.pen) t.now.y t.shown) else t
 let t:=t.put (inRowS (fun l=>putS l t.now.x r t.now.pen) t.now.y t.shown)
 if t.now.x+w≥t.c then { t.atX (t.c-1) with last:=r,full:=true } else { t.atX (t.now.x+w) with last:=r,full:=false }
def print (t:Tm) (r:Int):Tm :=
 let w:=widthS r
 if w=0∨w > t.c then t
 else if t.nowrap=false∧(t.full=true∨(w=2∧t.now.x=t.c-1)) then ((t.atX 0).down).letter r
 else if w=2∧t.now.x=t.c-1 then t
 else t.letter r
def hasTab (t:Tm) (i:Nat):Bool:=t.tabs.getD i false
def tab (t:Tm):Tm:=t.atX (match (List.range t.c).find? (fun (i:Nat)=>decide (t.now.x<(i:Int)) && t.hasTab i) with | some i=>i | none=>t.c-1)
def tabBack (t:Tm):Tm:=t.atX (match (List.range t.c).reverse.find? (fun (i:Nat)=>decide (0<i) && decide ((i:Int)<t.now.x) && t.hasTab i) with | some i=>i | none=>0)
def c0 (t:Tm) (b:Int):Tm :=
 if b=8 then t.atX (max 0 (t.now.x-1)) else if b=9 then t.tab else if b=10∨b=11∨b=12 then t.down else if b=13 then t.atX 0 else t
def esc (t:Tm) (b:Int):Tm :=
 if b=55 then { t with sav:=t.now } else if b=56 then t.restored else if b=68 then t.down else if b=69 then (t.atX 0).down else if b=77 then t.up
 else if b=72 then { t with tabs:=t.tabs.set t.now.x.toNat true } else if b=99 then { tmNew t.c t.r with p:=t.p } else t
end Tm
def numP (l:List Int) (i:Nat) (o:Int):Int:=if l.getD i 0=0 then o else l.getD i 0
def setBit (st:Int) (i:Nat):Int:=if st / 2 ^ i % 2=1 then st else st+2 ^ i
def clrBit (st:Int) (i:Nat):Int:=if st / 2 ^ i % 2=1 then st-2 ^ i else st
def bitsS:List Int:=[1,2,3,4,5,7,8,9]
def attrS (st n:Int):Int :=
 if n=22 then clrBit (clrBit st 0) 1
 else match bitsS.idxOf? n with
  | some i=>setBit st i
  | none=>if 22<n then (match bitsS.idxOf? (n-20) with | some i=>clrBit st i | none=>st) else st
def colourS:List Int→Option (Int × List Int)
 | 5 :: n :: l=>if n<256 then some (n+1,l) else none
 | 2 :: a :: b :: c :: l=>if a<256∧b<256∧c<256 then some (16777216+a*65536+b*256+c,l) else none
 | _=>none
def pensF:Nat→Pn→List Int→Pn
 | 0,p,_=>p
 | _+1,p,[]=>p
 | f+1,p,n :: l =>
  if n=0 then pensF f ⟨0,0,0,p.lk⟩ l
  else if n=38∨n=48 then
   match colourS l with
   | none=>p
   | some (c,l')=>pensF f (if n=38 then { p with fg:=c } else { p with bg:=c }) l'
  else pensF f (if n=39 then { p with fg:=0 } else if n=49 then { p with bg:=0 } else if 30≤n∧n≤37 then { p with fg:=n-29 } else if 40≤n∧n≤47 then { p with bg:=n-39 }
   else if 90≤n∧n≤97 then { p with fg:=n-81 } else if 100≤n∧n≤107 then { p with bg:=n-91 } else { p with st:=attrS p.st n }) l
def pensP (p:Pn) (l:List Int):Pn:=if l=[] then pensF 1 p [0] else pensF l.length p l
def iterS {α:Type} (f:α→α):Nat→α→α
 | 0,a=>a
 | n+1,a=>iterS f n (f a)
def mayAct (a:AcS):Bool:=decide (a.ps.length≤16) && decide (a.tx.length≤256) && a.ps.all fun z=>decide (0≤z) && decide (z≤9999)
def titleF:List Int→List Int→List Int
 | acc,[]=>acc
 | acc,r :: l=>if widthS r > 0 then (if acc.length+(encS r).length > 64 then acc else titleF (acc ++ encS r) l) else titleF acc l
def baS (l:List Int):ByteArray:=⟨(l.map fun z=>UInt8.ofNat z.toNat).toArray⟩
namespace Tm
def showO (t:Tm) (o:Bool):Tm:=if o=true∧t.isO=false then { t with other:=blankR t.c t.r,isO:=true } else { t with isO:=o }
def mode (t:Tm) (n:Int) (on:Bool):Tm :=
 if n=6 then { t with now:={ t.now with org:=on } }.home
 else if n=7 then { t with nowrap:=!on }
 else if n=25 then { t with hid:=!on }
 else if n=1000 then { t with mouse:=if on then 1 else 0 }
 else if n=1002∨n=1003 then { t with mouse:=if on then 2 else 0 }
 else if n=47∨n=1047 then t.showO on
 else if n=1049 then (if on then { t with sav:=t.now }.showO true else (t.showO false).restored)
 else t
def reset (t:Tm):Tm:={ t with nowrap:=false,ins:=false,hid:=false,now:={ t.now with org:=false,pen:=pn0 },sav:=spt0,top:=0,bot:=t.r-1 }
def edit (t:Tm) (a:AcS) (n:Int):Tm :=
 let p:=numP a.ps 0 0
 let at_:=t.now.y*t.c+t.now.x
 let row:=t.now.y*t.c
 let all:Int:=t.c*t.r
 if a.fin=64 then t.put (inRowS (fun l=>insertS l t.now.x n t.now.pen) t.now.y t.shown)
 else if a.fin=80 then t.put (inRowS (fun l=>deleteS l t.now.x n t.now.pen) t.now.y t.shown)
 else if a.fin=88 then t.erased at_ (min (at_+n) (row+t.c))
 else if a.fin=74 then (if p=0 then t.erased at_ all else if p=1 then t.erased 0 (at_+1) else if p=2 then t.erased 0 all else t)
 else if a.fin=75 then (if p=0 then t.erased at_ (row+t.c) else if p=1 then t.erased row (at_+1) else if p=2 then t.erased row (row+t.c) else t)
 else if a.fin=76∨a.fin=77 then (if t.top≤t.now.y∧t.now.y≤t.bot then (t.atX 0).scrolled t.now.y t.bot (if a.fin=76 then -n else n) else t)
 else if a.fin=83 then t.scrolled t.top t.bot n
 else if a.fin=84 then t.scrolled t.top t.bot (-n)
 else if a.fin=98 then (if t.last=0 then t else iterS (fun t=>t.print t.last) (min n.toNat (t.c*t.r)) t)
 else if a.fin=103 then (if p=0 then { t with tabs:=t.tabs.set t.now.x.toNat false } else if p=3 then { t with tabs:=List.replicate 80 false } else t)
 else if a.fin=104∨a.fin=108 then (if 4∈a.ps then { t with ins:=decide (a.fin=104) } else t)
 else t
def csi (t:Tm) (a:AcS):Tm :=
 if a.m=63∧(a.fin=104∨a.fin=108) then a.ps.foldl (fun t n=>t.mode n (decide (a.fin=104))) t
 else if a.m=33∧a.fin=112 then t.reset
 else if a.m≠0 then t
 else
  let n:=numP a.ps 0 1
  let upY:=if t.now.y≥t.top then max (t.now.y-n) t.top else max (t.now.y-n) 0
  let dnY:=if t.now.y≤t.bot then min (t.now.y+n) t.bot else min (t.now.y+n) (t.r-1)
  let toY:=if t.now.org then min (t.top+n-1) t.bot else min (n-1) (t.r-1)
  if a.fin=65 then t.atY upY
  else if a.fin=70 then (t.atY upY).atX 0
  else if a.fin=66∨a.fin=101 then t.atY dnY
  else if a.fin=69 then (t.atY dnY).atX 0
  else if a.fin=67∨a.fin=97 then t.atX (min (t.now.x+n) (t.c-1))
  else if a.fin=68 then t.atX (max (t.now.x-n) 0)
  else if a.fin=71∨a.fin=96 then t.atX (min (n-1) (t.c-1))
  else if a.fin=100 then t.atY toY
  else if a.fin=72∨a.fin=102 then (t.atY toY).atX (min (numP a.ps 1 1-1) (t.c-1))
  else if a.fin=73 then iterS tab (min n.toNat 80) t
  else if a.fin=90 then iterS tabBack (min n.toNat 80) t
  else if a.fin=114 then
   let b:=min (numP a.ps 1 t.r) t.r
   if n<b then { t with top:=n-1,bot:=b-1 }.home else t
  else if a.fin=115 then { t with sav:=t.now }
  else if a.fin=117 then t.restored
  else if a.fin=109 then { t with now:={ t.now with pen:=pensP t.now.pen a.ps } }
  else t.edit a n
def lead (t:Tm) (s:ByteArray):Tm :=
 let t:={ t with now:={ t.now with pen:={ t.now.pen with lk:=0 } } }
 if s=eT then t
 else
  let u:=internS t.table s
  let used:=t.sav.pen.lk :: (t.main.flatten.map (·.p.lk) ++ t.other.flatten.map (·.p.lk))
  let u:=if u.2.2=11 then internS (sweepS t.table used) s else u
  if u.2.2=0 then { t with table:=u.1,now:={ t.now with pen:={ t.now.pen with lk:=u.2.1 } } } else t
def osc (t:Tm) (b:List Int):Tm :=
 match b.idxOf? 59 with
 | none=>t
 | some k =>
  let rest:=b.drop (k+1)
  if b.take k=[48]∨b.take k=[50] then { t with title:=titleF [] (foldS [] rest) }
  else if b.take k=[56] then (match rest.idxOf? 59 with | none=>t | some j=>t.lead (baS (rest.drop (j+1))))
  else t
def doA (t:Tm) (a:AcS):Tm :=
 if mayAct a=false then t
 else if a.k=1 then t.print a.r
 else if a.k=2 then { t with full:=false }.c0 a.fin
 else if a.k=3 then (if a.m=0 then { t with full:=false }.esc a.fin else { t with full:=false })
 else if a.k=4 then (if a.m≠0∨(a.fin≠109∧a.fin≠98) then { t with full:=false }.csi a else t.csi a)
 else if a.k=5 then t.osc a.tx
 else t
def byte (t:Tm) (b:Int):Tm:=(feedP t.p b).1.foldl doA { t with p:=(feedP t.p b).2 }
def feed (t:Tm) (l:List Int):Tm:=l.foldl byte t
theorem feed_append (t:Tm) (x y:List Int):t.feed (x ++ y)=(t.feed x).feed y:=List.foldl_append
end Tm
structure Sc where
 c:Int
 r:Int
 cells:List Ce
 x:Int
 y:Int
 hid:Bool
 mouse:Int
 title:List Int
 links:List ByteArray
def Tm.screen (t:Tm):Sc:=⟨t.c,t.r,canonC t.shown.flatten t.table,t.now.x,t.now.y,t.hid,t.mouse,t.title,canonL t.shown.flatten t.table⟩
noncomputable def rightSc (s:Sc):Bool :=
 gridMay s.c s.r s.cells && ordS s.cells s.links && decide (0≤s.x∧s.x<s.c∧0≤s.y∧s.y<s.r) && decide (s.mouse≤2) && decide (s.title.length≤64) && validS s.title && (foldS [] s.title).all fun r=>decide (widthS r≠0)
theorem width_may {r:Int} (h:widthS r≠0):mayS r=true:=by
 unfold widthS at h
 split at h
 · assumption
 · exact absurd rfl h
theorem titleF_is:∀ (l:List Int) (m:List Int),(∀ r∈m,widthS r≠0)→(encAll m).length≤64→∃ m',titleF (encAll m) l=encAll m'∧(∀ r∈m',widthS r≠0)∧(encAll m').length≤64
 | [],m,h,hl=>⟨m,rfl,h,hl⟩
 | r :: l,m,h,hl=>by
  unfold titleF
  split
  · rename_i hw
    split
    · exact ⟨m,rfl,h,hl⟩
    · rename_i hs
      have e:encAll m ++ encS r=encAll (m ++ [r]):=(encAll_snoc r m).symm
      rw [e]
      refine titleF_is l (m ++ [r]) (fun x hx=>?_) (by rw [← e,List.length_append];omega)
      rcases List.mem_append.1 hx with hx | hx
      · exact h x hx
      · rw [List.mem_singleton.1 hx];omega
  · exact titleF_is l m h hl
theorem title_ok (l:List Int):(titleF [] l).length≤64∧validS (titleF [] l)=true∧∀ r∈foldS [] (titleF [] l),widthS r≠0:=by
 obtain ⟨m,e,hm,hl⟩:=titleF_is l [] (fun r hr=>by cases hr) (by simp [encAll])
 have e0:titleF [] l=encAll m:=e
 have hf:m.map fixS=m:=by
  refine (List.map_congr_left fun r hr=>?_).trans (List.map_id m)
  simp [fixS,width_may (hm r hr)]
 have hF:foldS [] (encAll m)=m:=by rw [fold_encAll,hf]
 rw [e0]
 exact ⟨hl,by unfold validS;rw [hF];exact decide_eq_true rfl,by rw [hF];exact hm⟩
theorem col_may (c:Int) (h:0≤c∧c≤256):colMay c=true:=by unfold colMay;exact decide_eq_true (Or.inl h.2)
theorem colour_may {l l':List Int} {c:Int} (h:∀ z∈l,0≤z) (e:colourS l=some (c,l')):(0≤c∧c≤33554431)∧colMay c=true∧∀ z∈l',z∈l:=by
 unfold colourS at e
 split at e
 · rename_i n t
   split at e
   · rename_i hn
     injection e with e
     injection e with e1 e2
     subst e1 e2
     have:=h n (by simp)
     exact ⟨by omega,col_may _ (by omega),fun z hz=>by simp [hz]⟩
   · cases e
 · rename_i x y z t
   split at e
   · rename_i hn
     injection e with e
     injection e with e1 e2
     subst e1 e2
     have h1:=h x (by simp)
     have h2:=h y (by simp)
     have h3:=h z (by simp)
     refine ⟨by omega,?_,fun z hz=>by simp [hz]⟩
     unfold colMay
     exact decide_eq_true (Or.inr (by omega))
   · cases e
 · cases e
theorem setBit_st {st:Int} (i:Nat) (hi:i<8) (h:0≤st∧st≤255):0≤setBit st i∧setBit st i≤255:=by
 unfold setBit
 have:i=0∨i=1∨i=2∨i=3∨i=4∨i=5∨i=6∨i=7:=by omega
 rcases this with rfl | rfl | rfl | rfl | rfl | rfl | rfl | rfl<;>simp<;>split<;>omega
theorem clrBit_st {st:Int} (i:Nat) (hi:i<8) (h:0≤st∧st≤255):0≤clrBit st i∧clrBit st i≤255:=by
 unfold clrBit
 have:i=0∨i=1∨i=2∨i=3∨i=4∨i=5∨i=6∨i=7:=by omega
 rcases this with rfl | rfl | rfl | rfl | rfl | rfl | rfl | rfl<;>simp<;>split<;>omega
theorem bit_lt {n:Int} {i:Nat} (h:bitsS.idxOf? n=some i):i<8:=by
 have:=List.findIdx?_eq_some_iff_getElem.1 h
 obtain ⟨h,_⟩:=this
 exact h
theorem attr_st {st:Int} (n:Int) (h:0≤st∧st≤255):0≤attrS st n∧attrS st n≤255:=by
 unfold attrS
 split
 · exact clrBit_st 1 (by omega) (clrBit_st 0 (by omega) h)
 · split
   · rename_i i hi
     exact setBit_st i (bit_lt hi) h
   · split
     · split
       · rename_i i hi
         exact clrBit_st i (bit_lt hi) h
       · exact h
     · exact h
structure PnOk (p:Pn):Prop where
 fg:colMay p.fg=true
 bg:colMay p.bg=true
 f0:0≤p.fg∧p.fg≤33554431
 b0:0≤p.bg∧p.bg≤33554431
 st:0≤p.st∧p.st≤255
theorem PnOk.may {p:Pn} (h:PnOk p):penMayS p=true:=by unfold penMayS;rw [h.fg,h.bg];rfl
theorem pn0_ok (lk:Int):PnOk ⟨0,0,0,lk⟩:=⟨by show colMay 0=true;decide,by show colMay 0=true;decide,by show (0:Int)≤0∧(0:Int)≤33554431;omega,by show (0:Int)≤0∧(0:Int)≤33554431;omega,by show (0:Int)≤0∧(0:Int)≤255;omega⟩
theorem pensF_ok:∀ (f:Nat) (p:Pn) (l:List Int),PnOk p→(∀ z∈l,0≤z)→PnOk (pensF f p l)∧(pensF f p l).lk=p.lk
 | 0,p,l,h,_=>by unfold pensF;exact ⟨h,rfl⟩
 | f+1,p,[],h,_=>by unfold pensF;exact ⟨h,rfl⟩
 | f+1,p,n :: l,h,hl=>by
  have hl':∀ z∈l,0≤z:=fun z hz=>hl z (by simp [hz])
  have step:∀ (q:Pn) (l':List Int),PnOk q→q.lk=p.lk→(∀ z∈l',0≤z)→PnOk (pensF f q l')∧(pensF f q l').lk=p.lk:=fun q l' hq e hl2=>by
   have:=pensF_ok f q l' hq hl2
   exact ⟨this.1,this.2.trans e⟩
  unfold pensF
  by_cases h0:n=0
  · rw [if_pos h0];exact step _ _ (pn0_ok p.lk) rfl hl'
  rw [if_neg h0]
  by_cases h1:n=38∨n=48
  · rw [if_pos h1]
    cases hc:colourS l with
    | none=>exact ⟨h,rfl⟩
    | some u =>
     obtain ⟨c,l'⟩:=u
     obtain ⟨c1,c2,c3⟩:=colour_may hl' hc
     refine step _ _ ?_ (by split<;>rfl) (fun z hz=>hl' z (c3 z hz))
     split
     · exact ⟨c2,h.bg,c1,h.b0,h.st⟩
     · exact ⟨h.fg,c2,h.f0,c1,h.st⟩
  rw [if_neg h1]
  refine step _ _ ?_ ?_ hl'
  · have a1:=attr_st n h.st
    repeat' split
    all_goals refine ⟨?_,?_,?_,?_,?_⟩<;>dsimp only<;>first | exact h.fg | exact h.bg | exact h.f0 | exact h.b0 | exact h.st | exact a1 | exact col_may _ (by omega) | omega
  · repeat' split
    all_goals rfl
theorem pens_ok {p:Pn} {l:List Int} (h:PnOk p) (hl:∀ z∈l,0≤z):PnOk (pensP p l)∧(pensP p l).lk=p.lk:=by
 unfold pensP
 split
 · exact pensF_ok 1 p [0] h (by simp)
 · exact pensF_ok _ p l h hl
open Go.RowKit
def decS (L:List Int):Int × Nat:=match headS L with
 | some (r,n)=>(r,n)
 | none=>(65533,1)
theorem headN {L:List Int} (hne:L≠[]):headS L=if szF (L.getD 0 0)=1 then some (L.getD 0 0,1)
  else if szF (L.getD 0 0)=2∧2≤L.length∧okF (L.getD 0 0) (L.getD 1 0)=true then some (v2 (L.getD 0 0) (L.getD 1 0),2)
  else if szF (L.getD 0 0)=3∧3≤L.length∧okF (L.getD 0 0) (L.getD 1 0)=true∧ctF (L.getD 2 0)=true then some (v3 (L.getD 0 0) (L.getD 1 0) (L.getD 2 0),3)
  else if szF (L.getD 0 0)=4∧4≤L.length∧okF (L.getD 0 0) (L.getD 1 0)=true∧ctF (L.getD 2 0)=true∧ctF (L.getD 3 0)=true then some (v4 (L.getD 0 0) (L.getD 1 0) (L.getD 2 0) (L.getD 3 0),4)
  else none:=by
 rcases L with _ | ⟨a,_ | ⟨b,_ | ⟨c,_ | ⟨d,t⟩⟩⟩⟩
 · exact absurd rfl hne
 all_goals simp [headS]
set_option maxHeartbeats 1600000 in
theorem dec_nat (n x0 x1 x2 x3:Nat) (h0:x0<256) (h1:x1<256) (h2:x2<256) (h3:x3<256) (hn:1≤n) {L:List Int} (hl:L.length=n) (e0:L.getD 0 0=x0) (e1:L.getD 1 0=x1) (e2:L.getD 2 0=x2) (e3:L.getD 3 0=x3) :
  ((Lib.decodeN n x0 x1 x2 x3).1:Int)=(decS L).1∧(Lib.decodeN n x0 x1 x2 x3).2=(decS L).2:=by
 have hne:L≠[]:=fun e=>by subst e;simp at hl;omega
 unfold decS
 rw [headN hne,e0,e1,e2,e3,hl]
 rcases first_sz x0 h0 with ⟨hX,hsz⟩ | ⟨hX,hsz⟩ | ⟨X,hX,hX2,hX240,hm,hs2,hs4,hlo,hhi,h5⟩
 · rw [Lib.ascii_eq _ _ _ _ _ hX,if_pos hsz]
   exact ⟨rfl,rfl⟩
 · rw [Lib.bad_eq _ _ _ _ _ h0 hX,hsz]
   simp
 · have hs:=Lib.slow_eq n x0 x1 x2 x3 hn h1 h2 h3 (by rw [hX];exact hX240)
   rw [hX,hm] at hs
   rw [← hs]
   have hok:okF x0 x1=decide (loF x0≤x1∧x1≤hiF x0):=rfl
   rw [hok,← hlo,← hhi]
   clear hs hlo hhi hm hok
   generalize Lib.accLo (X / 16)=lo
   generalize Lib.accHi (X / 16)=hi
   unfold Lib.slowN ctF v2 v3 v4
   have hs:szF x0=2∨szF x0=3∨szF x0=4:=by omega
   rcases hs with hs | hs | hs<;>rw [hs]<;>simp only [Nat.reduceEqDiff,if_false,false_and,true_and,decide_eq_true_eq,Nat.reduceLeDiff,if_true,Nat.le_refl]
   · split
     · rw [if_neg (by omega)];exact ⟨rfl,rfl⟩
     · split
       · rw [if_neg (by omega)];exact ⟨rfl,rfl⟩
       · rw [if_pos (by omega)];simp
   · split
     · rw [if_neg (by omega)];exact ⟨rfl,rfl⟩
     · split
       · rw [if_neg (by omega)];exact ⟨rfl,rfl⟩
       · split
         · rw [if_neg (by omega)];exact ⟨rfl,rfl⟩
         · rw [if_pos (by omega)];simp
   · split
     · rw [if_neg (by omega)];exact ⟨rfl,rfl⟩
     · split
       · rw [if_neg (by omega)];exact ⟨rfl,rfl⟩
       · split
         · rw [if_neg (by omega)];exact ⟨rfl,rfl⟩
         · split
           · rw [if_neg (by omega)];exact ⟨rfl,rfl⟩
           · rw [if_pos (by omega)];simp
theorem sL_getD (s:ByteArray) (k:Nat):((s.data.toList.getD k 0).toNat:Int)=(sL s).getD k 0:=by
 unfold sL
 rw [List.getD,List.getD,List.getElem?_map]
 cases s.data.toList[k]?<;>rfl
theorem dec_at (s:ByteArray) (pos:Nat) (h:pos<s.size):((Utf8.decode s pos).1:Int)=(decS ((sL s).drop pos)).1∧(Utf8.decode s pos).2=(decS ((sL s).drop pos)).2:=by
 rw [Lib.decode_N]
 have hg:∀ k,((sL s).drop pos).getD k 0=(sL s).getD (pos+k) 0:=fun k=>by simp [List.getD]
 refine dec_nat _ _ _ _ _ (UInt8.toNat_lt _) (UInt8.toNat_lt _) (UInt8.toNat_lt _) (UInt8.toNat_lt _) ?_ ?_ ?_ ?_ ?_ ?_
 · have:s.data.toList.length=s.size:=rfl
   omega
 · rw [List.length_drop,sL_len];rfl
 · rw [hg,sL_getD];rfl
 · rw [hg,sL_getD]
 · rw [hg,sL_getD]
 · rw [hg,sL_getD]
theorem dec_any {w:World} (s:ByteArray) (hT:Tabs w) (h0:0<s.size) :
  Calls Tryz.prog 213 #[.string s] w fun e w'=>e=.returned (.tuple #[.int .i32 (decS (sL s)).1,.int .i64 (decS (sL s)).2])∧Below w.heap.size w w':=by
 have h:=Tryz.utf8_DecodeRuneInString s w hT.u8
 have e:Lib.decodeGo s=Utf8.decode s 0:=by simp only [Lib.decodeGo];rw [if_neg (by omega)]
 obtain ⟨e1,e2⟩:=dec_at s 0 h0
 rw [e,e1,e2,List.drop_zero] at h
 exact h
theorem decS_len {L:List Int} (hne:L≠[]):1≤(decS L).2∧(decS L).2≤L.length:=by
 unfold decS
 split
 · rename_i h;have:=head_len h;omega
 · have:L.length≠0:=fun h=>hne (List.eq_nil_of_length_eq_zero h)
   simp;omega
theorem valid_is {r:Int}:Utf8.valid r=mayS r:=by
 unfold Utf8.valid mayS
 rw [Bool.eq_iff_iff]
 simp
 omega
theorem byte_nat {n:Nat} (h:n<256):((UInt8.ofNat n).toNat:Int)=n:=by
 rw [UInt8.toNat_ofNat',Nat.mod_eq_of_lt h]
theorem enc_utf (r:Int):sL (Utf8.encode r)=encS r:=by
 unfold Utf8.encode
 rw [valid_is]
 cases hm:mayS r
 · rw [enc_bad hm];simp only [Bool.false_eq_true,if_false];decide +kernel
 · have h:=mayS_iff.1 hm
   obtain ⟨c,rfl⟩:∃ c:Nat,r=(c:Int):=⟨r.toNat,by omega⟩
   simp only [if_true,Int.toNat_natCast]
   rcases may_cases hm with h1 | h1 | h1 | h1
   · rw [enc1 h1.1 h1.2,if_pos (show c<128 by omega)]
     simp only [sL,List.map_cons,List.map_nil]
     rw [byte_nat (by omega)]
   · rw [enc2 h1.1 h1.2,if_neg (show ¬ c<128 by omega),if_pos (show c<2048 by omega)]
     simp only [sL,List.map_cons,List.map_nil]
     rw [byte_nat (by omega),byte_nat (by omega)]
     congr 1
   · rw [enc3 (by omega),if_neg (show ¬ c<128 by omega),if_neg (show ¬ c<2048 by omega),if_pos (show c<65536 by omega)]
     simp only [sL,List.map_cons,List.map_nil]
     rw [byte_nat (by omega),byte_nat (by omega),byte_nat (by omega)]
     congr 1
   · rw [enc4 h1,if_neg (show ¬ c<128 by omega),if_neg (show ¬ c<2048 by omega),if_neg (show ¬ c<65536 by omega)]
     simp only [sL,List.map_cons,List.map_nil]
     rw [byte_nat (by omega),byte_nat (by omega),byte_nat (by omega),byte_nat (by omega)]
     congr 1
theorem sL_app (s u:ByteArray):sL (s ++ u)=sL s ++ sL u:=by simp [sL,ByteArray.data_append]
theorem foldl_utf:∀ (l:List Int) (s:ByteArray),sL (l.foldl (fun r n=>r ++ Utf8.encode n) s)=sL s ++ encAll l
 | [],s=>by simp [encAll]
 | a :: l,s=>by rw [List.foldl_cons,foldl_utf l,sL_app,enc_utf,encAll_cons,List.append_assoc]
theorem runes_utf (l:List Int):sL (runesBytes l)=encAll l:=by
 unfold runesBytes
 rw [foldl_utf]
 rfl
theorem title_filter:∀ (l acc:List Int),titleF acc l=titleF acc (l.filter fun r=>decide (widthS r > 0))
 | [],_=>rfl
 | a :: l,acc=>by
  by_cases h:widthS a > 0
  · rw [List.filter_cons_of_pos (by simpa using h)]
    unfold titleF
    rw [if_pos h,if_pos h,title_filter l]
  · rw [List.filter_cons_of_neg (by simpa using h)]
    rw [← title_filter l acc]
    show (if widthS a > 0 then _ else titleF acc l)=_
    rw [if_neg h]
theorem filter_snoc {l:List Int} {k:Nat} (h:k<l.length) (p:Int→Bool):(l.take (k+1)).filter p=(l.take k).filter p ++ (if p (l.getD k 0)=true then [l.getD k 0] else []):=by
 rw [List.take_add_one,List.getElem?_eq_getElem h,List.filter_append]
 congr 1
 simp [List.getD,List.getElem?_eq_getElem h,List.filter_cons]
structure TlSt (ls:List Int) (k pos:Nat):Prop where
 le:k≤ls.length
 at_:pos=(encAll (ls.take k)).length
 fit:pos≤64
 rest:titleF [] ls=titleF (encAll (ls.take k)) (ls.drop k)
theorem TlSt.start (ls:List Int):TlSt ls 0 0:=⟨Nat.zero_le _,rfl,by omega,rfl⟩
theorem encAll_split (ls:List Int) (k:Nat):encAll ls=encAll (ls.take k) ++ encAll (ls.drop k):=by
 unfold encAll
 rw [List.map_take,List.map_drop,← List.flatten_append,List.take_append_drop]
theorem TlSt.drop {ls:List Int} {k pos:Nat} (h:TlSt ls k pos):(encAll ls).drop pos=encAll (ls.drop k)∧(encAll ls).take pos=encAll (ls.take k):=by
 rw [encAll_split ls k,h.at_]
 exact ⟨List.drop_left,List.take_left⟩
theorem TlSt.next {ls:List Int} {k pos:Nat} (h:TlSt ls k pos) (hw:∀ r∈ls,widthS r > 0) (hk:k<ls.length) :
  decS ((encAll ls).drop pos)=(ls.getD k 0,(encS (ls.getD k 0)).length)∧(64<pos+(encS (ls.getD k 0)).length→titleF [] ls=encAll (ls.take k))∧(pos+(encS (ls.getD k 0)).length≤64→TlSt ls (k+1) (pos+(encS (ls.getD k 0)).length)):=by
 have hm:ls.getD k 0∈ls:=by rw [getD_lt hk];exact List.getElem_mem hk
 have hww:=hw _ hm
 have hmay:=width_may (r:=ls.getD k 0) (by omega)
 have hd:ls.drop k=ls.getD k 0 :: ls.drop (k+1):=by rw [getD_lt hk];exact List.drop_eq_getElem_cons hk
 have ht:ls.take (k+1)=ls.take k ++ [ls.getD k 0]:=by rw [List.take_add_one,List.getElem?_eq_getElem hk,getD_lt hk];rfl
 have hr:=h.rest
 rw [hd] at hr
 have hr2:titleF (encAll (ls.take k)) (ls.getD k 0 :: ls.drop (k+1))=if (encAll (ls.take k)).length+(encS (ls.getD k 0)).length > 64 then encAll (ls.take k) else titleF (encAll (ls.take k) ++ encS (ls.getD k 0)) (ls.drop (k+1)):=by
  conv=>lhs;unfold titleF
  rw [if_pos hww]
 rw [hr2,← h.at_] at hr
 refine ⟨?_,fun hgt=>by rw [hr,if_pos hgt],fun hle=>⟨hk,?_,hle,?_⟩⟩
 · rw [h.drop.1,hd,encAll_cons]
   unfold decS
   rw [head_enc hmay]
 · rw [ht,encAll_snoc,List.length_append,h.at_]
 · rw [hr,if_neg (by omega),ht,encAll_snoc]
theorem TlSt.done {ls:List Int} {k pos:Nat} (h:TlSt ls k pos) (hk:¬ k<ls.length):titleF [] ls=encAll ls:=by
 have e:k=ls.length:=by have:=h.le;omega
 rw [h.rest,e,List.take_length,List.drop_length]
 rfl
theorem TlSt.more {ls:List Int} {k pos:Nat} (h:TlSt ls k pos):pos<(encAll ls).length↔k<ls.length:=by
 rw [encAll_split ls k,List.length_append,← h.at_]
 constructor
 · intro h1
   refine Classical.byContradiction fun h2=>?_
   rw [List.drop_eq_nil_of_le (by omega)] at h1
   simp [encAll] at h1
 · intro h1
   rw [List.drop_eq_getElem_cons h1,encAll_cons,List.length_append]
   have:=(encS_len ls[k]).1
   omega
open Go.ChangeShapes Go.WideShapes Go.ChangeAt Go.RowKit
structure Ik (q:IntKind) (w:World) (A:Option Addr) (n:Nat) (zs:List Int):Prop where
 len:zs.length=n
 at_:0<n→∃ ad,A=some ad∧ad.block<w.heap.size∧∀ k,k<n→w.cell? (ad.add k)=some (.int q (zs.getD k 0))
section
variable {q:IntKind} {w w':World} {A:Option Addr} {n:Nat} {zs:List Int}
theorem Ik.nil (q:IntKind) (w:World) (A:Option Addr):Ik q w A 0 []:=⟨rfl,fun h=>absurd h (by omega)⟩
theorem Ik.keep (h:Ik q w A n zs) (hs:w.heap.size≤w'.heap.size) (hk:∀ p:Addr,0<n→A.map (·.block)=some p.block→p.block<w.heap.size→w'.cell? p=w.cell? p):Ik q w' A n zs :=
 ⟨h.len,fun hn=>by
  obtain ⟨ad,rfl,hb,hc⟩:=h.at_ hn
  exact ⟨ad,rfl,by omega,fun k hkn=>(hk (ad.add k) hn (by simp [addBlock]) (by rw [addBlock];exact hb)).trans (hc k hkn)⟩⟩
theorem Ik.below (h:Ik q w A n zs) (hb:Below w.heap.size w w'):Ik q w' A n zs:=h.keep hb.size fun _ _ _ hp=>hb.cell hp
theorem Ik.grown (h:Ik q w A n zs) {row:Option Nat} (hg:w.grownBy w' row) (hne:∀ ad,A=some ad→0<n→row≠some ad.block):Ik q w' A n zs :=
 h.keep hg.size fun p hn hA hp=>World.cell?_of_block (hg.block p.block hp (fun e=>by
  cases A with
  | none=>simp at hA
  | some ad=>simp at hA;exact hne ad rfl hn (by rw [← e,hA])))
end
open Go.RowKit
theorem Ik.own {q:IntKind} {w:World} {A:Option Addr} {n:Nat} {zs:List Int} {base:Nat} {e:TypeId} {c:Nat} (h:w.ownsRow base e 1 (.slice A n c) n (zs.map (Value.int q))):Ik q w A n zs:=by
 have hl:zs.length=n:=by have:=h.1;simpa using this
 refine ⟨hl,fun hn=>?_⟩
 obtain ⟨_,h2⟩:=h
 rcases h2 with ⟨h3,h4⟩ | ⟨g,cap,cur,hv,hb,hg,hle,hm,hs,ht⟩
 · omega
 · injection hv with hA _ hc
   subst hA
   refine ⟨_,rfl,(Array.getElem?_eq_some_iff.1 hg).1,fun k hk=>?_⟩
   rw [addHead,cell_of_row w g k cur e (0,0) hg]
   have h5:(zs.map (Value.int q))[k]?=some (Value.int q (zs.getD k 0)):=by
    rw [List.getElem?_map,List.getElem?_eq_getElem (by omega),getD_lt (by omega)];rfl
   rw [← ht,List.getElem?_take,if_pos (by omega)] at h5
   simpa using h5
theorem Ik.cell {q:IntKind} {w:World} {n:Nat} {zs:List Int} {ad:Addr} (h:Ik q w (some ad) n zs) {k:Nat} (hk:k<n):w.cell? (ad.add k)=some (.int q (zs.getD k 0)):=by
 obtain ⟨ad',e,_,hc⟩:=h.at_ (by omega)
 injection e with e
 subst e
 exact hc k hk
theorem Ik.news {q:IntKind} {w:World} {ad:Addr} {n:Nat} {zs:List Int} (h:Ik q w (some ad) n zs):∀ (j:Nat) (u:Value),(zs.map (Value.int q))[j]?=some u→w.cell? (ad.add j)=some u:=by
 intro j u hu
 have hj:j<zs.length:=by
  rcases Nat.lt_or_ge j zs.length with hlt | hge
  · exact hlt
  · rw [List.getElem?_eq_none (by simpa using hge)] at hu;cases hu
 have hl:=h.len
 rw [h.cell (k:=j) (by omega),getD_lt hj]
 rw [List.getElem?_map,List.getElem?_eq_getElem hj] at hu
 simpa using hu
theorem oneCellsI (q:IntKind) (zs:List Int):∀ u∈zs.map (Value.int q),u.oneCell'=true:=by
 intro u hu
 obtain ⟨z,_,rfl⟩:=List.mem_map.1 hu
 rfl
theorem Ik.one (q:IntKind) (w:World) (e:TypeId) (z:Int):Ik q (w.alloc (.cells #[.int q z] e)) (some ⟨w.heap.size,0,none⟩) 1 [z]:=by
 refine ⟨rfl,fun _=>⟨_,rfl,by simp,fun k hk=>?_⟩⟩
 obtain rfl:k=0:=by omega
 rw [addHead,cell_of_row _ _ 0 _ _ _ (heap_alloc_new w (.cells #[.int q z] e))]
 rfl
theorem wpList_appI {P:Program} (w:World) {ops:Array Oper} {rest:List Oper} {o:Oper} {a:Act} {Q:Exit→Act→World→Prop} (hgd:o.guard=none) (s x:Operand) (t:TypeId)
  (ho:o.op=.call { callee:=.builtin .append,args:=#[s,x],argTypes:=#[t,t] })
  (base:Nat) (e:TypeId) (q:IntKind) (b8:Nat) (hb8:b8≤8) (ht:P.underlying t=some (.slice e)) (hi:(P.info? e).map (fun i=>(i.zero,i.size,i.bytes))=some (some (.int q 0),1,b8))
  (v:Value) (n:Nat) (xs:List Value) (hs:a.eval s=v) (hown:w.ownsRow base e 1 v n xs)
  (A:Option Addr) (m c k:Nat) (hk:n+m=k) (news:List Int) (hx:a.eval x=.slice A m c) (hr:Ik q w A m news) (h63:k≤1000000) (hbase:base≤w.heap.size)
  (h:∀ A' c' w',w'.ownsRow base e 1 (.slice A' k c') k (xs ++ news.map (Value.int q))→w.grownBy w' v.ownBlock→wpList P ops Q rest (a.put o.dst (.slice A' k c')) w'):wpList P ops Q (o :: rest) a w:=by
 subst hk
 obtain ⟨i0,hi,hz0,hz1,hz2⟩:=info_parts hi
 have hk:∀ v' w',w'.ownsRow base e 1 v' (n+m) (xs ++ news.map (Value.int q))→w.grownBy w' v.ownBlock→wpList P ops Q rest (a.put o.dst v') w':=by
  intro v' w' h1 h2
  obtain ⟨A',c',rfl,_⟩:=own_shape h1
  exact h A' c' w' h1 h2
 have h8:(n+m)*b8≤1000000*8:=Nat.mul_le_mul h63 hb8
 cases A with
 | none =>
  have hm:m=0:=by
   rcases Nat.eq_zero_or_pos m with h0 | h0
   · exact h0
   · obtain ⟨ad,e1,_⟩:=hr.at_ h0
     cases e1
  subst hm
  have hn:news=[]:=List.eq_nil_of_length_eq_zero hr.len
  subst hn
  refine wpList_plain hgd fun K hK=>?_
  have hrun:=run_app_nil (P:=P) w base t o.type e i0 1 ht hi v n xs hown c
  unfold Oper.wp
  simp [execOp,ho,resolve,invoke,builtin,hs,hx,hrun,Result.andThen]
  exact hK _ _ (hk v w (by simpa using hown) (World.grownBy.refl w _))
 | some ad =>
  exact wpList_append_own w hgd s x t ho base e i0 (.int q 0) 1 b8 ht hi hz0 hz1 hz2 rfl (by decide) v n xs hs hown ad m c (news.map (Value.int q)) hx (by simp [hr.len]) hr.news (oneCellsI q _)
   (by unfold maxLen;omega) (by omega) hbase fun v' w' h1 h2 _=>hk v' w' h1 h2
end Go.Proofs.YtlcipgdnpilkfaaGreatDoor
