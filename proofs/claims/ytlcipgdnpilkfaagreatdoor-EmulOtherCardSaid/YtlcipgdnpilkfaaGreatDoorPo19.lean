/-
  Part 19 of what the laws of emul want: EmulCt, EmulDeedS.
-/
import Derived.Laws.Rows
import Derived.Test.YtlcipgdnpilkfaaGreatDoorPo14
import Derived.Test.YtlcipgdnpilkfaaGreatDoorPo16
import Derived.Test.YtlcipgdnpilkfaaGreatDoorPo17
import Derived.Test.YtlcipgdnpilkfaaGreatDoorPo18
namespace Go.Proofs.YtlcipgdnpilkfaaGreatDoor
open Go.RowKit
structure CT where
 t:Tm
 pd:Nat
 PS:Nat→Prop
 mb:Nat
 mN:Nat
 mK:Nat
 ob:Nat
 oN:Nat
 oK:Nat
 ttl:ByteArray
 bA:Option Addr
 bN:Nat
 bK:Nat
def spC (s:Spt):List Value:=[.int .i64 s.x,.int .i64 s.y,.int .u32 s.pen.fg,.int .u32 s.pen.bg,.int .u8 s.pen.st,.int .u16 s.pen.lk,.bool s.org]
def ctT (x:CT):List Value:=[.string x.ttl,.slice x.bA x.bN x.bK,.int .i32 x.t.last]
def ctV (x:CT):List Value :=
 .pointer (some ⟨x.pd,0,none⟩) :: (spC x.t.now ++ (spC x.t.sav ++ (.int .i64 x.t.c :: .int .i64 x.t.r :: .slice (some ⟨x.mb,0,none⟩) x.mN x.mK :: .int .i64 x.t.c :: .int .i64 x.t.r :: .slice (some ⟨x.ob,0,none⟩) x.oN x.oK ::
  .bool x.t.isO :: .bool x.t.full :: .int .i64 x.t.top :: .int .i64 x.t.bot :: .bool (!x.t.nowrap) :: .bool x.t.ins :: .bool x.t.hid :: .int .u8 x.t.mouse :: (x.t.tabs.map Value.bool ++ ctT x))))
theorem ctV_len {x:CT} (h:x.t.tabs.length=80):(ctV x).length=112:=by simp [ctV,spC,ctT,h]
theorem one_ct (x:CT):∀ v∈ctV x,v.oneCell'=true:=by
 intro v hv
 simp only [ctV,spC,ctT,List.mem_cons,List.mem_append,List.mem_map,List.not_mem_nil,or_false] at hv
 rcases hv with rfl | (rfl | rfl | rfl | rfl | rfl | rfl | rfl) | (rfl | rfl | rfl | rfl | rfl | rfl | rfl) | rfl | rfl | rfl | rfl | rfl | rfl | rfl | rfl | rfl | rfl | rfl | rfl | rfl | rfl | ⟨_,_,rfl⟩ | rfl | rfl | rfl<;>rfl
def ctH (x:CT):List Value :=
 .pointer (some ⟨x.pd,0,none⟩) :: (spC x.t.now ++ (spC x.t.sav ++ [.int .i64 x.t.c,.int .i64 x.t.r,.slice (some ⟨x.mb,0,none⟩) x.mN x.mK,.int .i64 x.t.c,.int .i64 x.t.r,.slice (some ⟨x.ob,0,none⟩) x.oN x.oK,
  .bool x.t.isO,.bool x.t.full,.int .i64 x.t.top,.int .i64 x.t.bot,.bool (!x.t.nowrap),.bool x.t.ins,.bool x.t.hid,.int .u8 x.t.mouse]))
theorem ctV_is (x:CT):ctV x=ctH x ++ (x.t.tabs.map Value.bool ++ ctT x):=rfl
theorem ctV_tab {x:CT} {i:Nat} (h:i<x.t.tabs.length):(ctV x)[29+i]?=some (.bool (x.t.tabs.getD i false)):=by
 rw [ctV_is,List.getElem?_append_right (by show 29≤29+i;omega),show 29+i-(ctH x).length=i from by show 29+i-29=i;omega,List.getElem?_append_left (by simpa using h),List.getElem?_map,List.getElem?_eq_getElem h]
 simp [List.getD,List.getElem?_eq_getElem h]
theorem ctV_setTab (x:CT) {i:Nat} (b:Bool) (h:i<x.t.tabs.length):(ctV x).set (29+i) (.bool b)=ctV { x with t:={ x.t with tabs:=x.t.tabs.set i b } }:=by
 rw [ctV_is,ctV_is,List.set_append_right _ _ (by show 29≤29+i;omega),show 29+i-(ctH x).length=i from by show 29+i-29=i;omega,List.set_append_left _ _ (by simpa using h),← List.map_set]
 rfl
theorem ctV_setTl {x y:CT} (h:x.t.tabs.length=80) (j:Nat) (v:Value) (hh:ctH x=ctH y) (ht:x.t.tabs=y.t.tabs) (hl:(ctT x).set j v=ctT y):(ctV x).set (109+j) v=ctV y:=by
 rw [ctV_is,ctV_is,List.set_append_right _ _ (by show 29≤109+j;omega),List.set_append_right _ _ (by rw [List.length_map,h];show 80≤109+j-29;omega),List.length_map,h,show 109+j-(ctH x).length-80=j from by show 109+j-29-80=j;omega,hl,hh,ht]
def CB (g:Nat) (x:CT) (q:Nat):Prop:=q=g∨q=x.mb∨q=x.ob∨x.PS q∨(Value.slice x.bA x.bN x.bK).ownBlock=some q
structure Cz (B:Nat) (w:World) (g:Nat) (x:CT):Prop where
 blk:w.heap[g]?=some (.cells (ctV x).toArray 93 (0,0))
 gB:B≤g
 ok:TmOk x.t
 m:Rw ceV 66 w x.mb x.t.main.flatten
 mB:B≤x.mb
 mn:x.mN=x.t.r*x.t.c
 mkk:x.mN≤x.mK∧x.mK≤maxLen
 o:Rw ceV 66 w x.ob x.t.other.flatten
 oB:B≤x.ob
 on:x.oN=x.t.r*x.t.c
 okk:x.oN≤x.oK∧x.oK≤maxLen
 ne:x.mb≠x.ob
 p:Pz B w x.pd x.t.p x.PS
 b:Tx B w x.bA x.bN x.bK x.t.table
 tl:sL x.ttl=x.t.title
 bs:∀ s∈x.t.table,s.size≤100000
theorem Rw.has {α:Type} {f:α→List Value} {t:TypeId} {w:World} {g:Nat} {L:List α} (h:Rw f t w g L):HasT w g t:=by obtain ⟨r,h⟩:=h;exact ⟨_,_,h⟩
theorem HasT.lt {w:World} {q:Nat} {t:TypeId} (h:HasT w q t):q<w.heap.size:=by obtain ⟨cs,fr,h⟩:=h;exact (Array.getElem?_eq_some_iff.1 h).1
theorem Pz.types {B:Nat} {w:World} {g:Nat} {s:PaS} {S:Nat→Prop} (h:Pz B w g s S) {q:Nat} (hq:S q):HasT w q 137∨HasT w q 198∨HasT w q 3∨HasT w q 5:=by
 obtain ⟨_,r,h,_,rfl⟩:=h
 rcases hq with rfl | rfl | hq | hq
 · exact .inl h.hg
 · exact .inr (.inl h.hd)
 · exact .inr (.inr (.inl (row_has h.num q hq)))
 · exact .inr (.inr (.inr (row_has h.txt q hq)))
theorem Pz.off {B:Nat} {w:World} {g:Nat} {s:PaS} {S:Nat→Prop} (h:Pz B w g s S) {q:Nat} {t:TypeId} (hq:HasT w q t) (h1:137≠t) (h2:198≠t) (h3:3≠t) (h4:5≠t):¬ S q:=fun hS=>by
 rcases h.types hS with k | k | k | k
 · exact k.ne hq h1 rfl
 · exact k.ne hq h2 rfl
 · exact k.ne hq h3 rfl
 · exact k.ne hq h4 rfl
section
variable {B:Nat} {w w':World} {g:Nat} {x y:CT}
theorem Cz.hg (h:Cz B w g x):HasT w g 93:=⟨_,_,h.blk⟩
theorem Cz.lt (h:Cz B w g x):g<w.heap.size:=h.hg.lt
theorem Cz.bB (h:Cz B w g x):B≤w.heap.size:=Nat.le_of_lt (Nat.lt_of_le_of_lt h.gB h.lt)
theorem Cz.lo (h:Cz B w g x):∀ q,CB g x q→B≤q:=by
 rintro q (rfl | rfl | rfl | hq | hq)
 · exact h.gB
 · exact h.mB
 · exact h.oB
 · exact h.p.lo q hq
 · exact (h.b.own.lt q hq).1
theorem Cz.hi (h:Cz B w g x):∀ q,CB g x q→q<w.heap.size:=by
 rintro q (rfl | rfl | rfl | hq | hq)
 · exact h.lt
 · exact h.m.lt
 · exact h.o.lt
 · exact h.p.hi q hq
 · exact (h.b.own.lt q hq).2
theorem Cz.gm (h:Cz B w g x):g≠x.mb:=h.hg.ne h.m.has (by decide)
theorem Cz.go (h:Cz B w g x):g≠x.ob:=h.hg.ne h.o.has (by decide)
theorem Cz.gp (h:Cz B w g x):¬ x.PS g:=h.p.off h.hg (by decide) (by decide) (by decide) (by decide)
theorem Cz.gb (h:Cz B w g x):(Value.slice x.bA x.bN x.bK).ownBlock≠some g:=row_off h.b.own h.hg (by decide)
theorem Tx.same {w w':World} {base:Nat} {A:Option Addr} {n c:Nat} {L:List ByteArray} (h:Tx base w A n c L) (hs:∀ q,(Value.slice A n c).ownBlock=some q→w'.heap[q]?=w.heap[q]?):Tx base w' A n c L:=⟨h.len,h.le,h.max,row_same h.own hs⟩
theorem Cz.kept (h:Cz B w g x) (hz:w.heap.size≤w'.heap.size) (hs:∀ q,CB g x q→w'.heap[q]?=w.heap[q]?):Cz B w' g x :=
 ⟨(hs g (.inl rfl)).trans h.blk,h.gB,h.ok,h.m.kept (hs _ (.inr (.inl rfl))),h.mB,h.mn,h.mkk,h.o.kept (hs _ (.inr (.inr (.inl rfl)))),h.oB,h.on,h.okk,h.ne,h.p.kept hz fun q hq=>hs q (.inr (.inr (.inr (.inl hq)))),h.b.same fun q hq=>hs q (.inr (.inr (.inr (.inr hq)))),h.tl,h.bs⟩
theorem Cz.below (h:Cz B w g x) (hb:Below w.heap.size w w'):Cz B w' g x:=h.kept hb.size fun q hq=>hb.block q (h.hi q hq)
theorem Cz.cell (h:Cz B w g x) {k:Nat} {v:Value} (hv:(ctV x)[k]?=some v):w.cell? ⟨g,k,none⟩=some v:=by
 rw [cell_of_row _ _ k _ _ _ h.blk]
 simpa using hv
theorem Cz.fr (h:Cz B w g x) (k:Nat):w.frozen? ⟨g,k,none⟩=false:=frozen_of_row _ _ k _ _ h.blk
structure SameP (x y:CT):Prop where
 c:y.t.c=x.t.c
 r:y.t.r=x.t.r
 main:y.t.main=x.t.main
 other:y.t.other=x.t.other
 p:y.t.p=x.t.p
 table:y.t.table=x.t.table
 pd:y.pd=x.pd
 PS:y.PS=x.PS
 mb:y.mb=x.mb
 mN:y.mN=x.mN
 mK:y.mK=x.mK
 ob:y.ob=x.ob
 oN:y.oN=x.oN
 oK:y.oK=x.oK
 bA:y.bA=x.bA
 bN:y.bN=x.bN
 bK:y.bK=x.bK
 tl:sL y.ttl=y.t.title
structure CzTo (B g:Nat) (x:CT) (t':Tm) (w w':World) (y:CT):Prop where
 t:y.t=t'
 cz:Cz B w' g y
 out:OutB B (CB g x) w w'
 sub:∀ q,CB g y q→CB g x q∨w.heap.size≤q
def CzP (B g:Nat) (x:CT) (t':Tm) (w:World) (e:Ending) (w':World):Prop:=e=.returned (.tuple #[])∧∃ y,CzTo B g x t' w w' y
theorem CzTo.refl (h:Cz B w g x):CzTo B g x x.t w w x:=⟨rfl,h,OutB.refl,fun _ hq=>.inl hq⟩
theorem CzTo.trans {w2:World} {t t2:Tm} {z:CT} (h:CzTo B g x t w w' y) (k:CzTo B g y t2 w' w2 z):CzTo B g x t2 w w2 z:=by
 have hs:=h.out.bel.size
 refine ⟨k.t,k.cz,⟨h.out.bel.trans k.out.bel,fun q hq hS=>?_⟩,fun q hq=>?_⟩
 · rw [k.out.keep q (by omega) (fun hy=>by rcases h.sub q hy with h1 | h1;exact hS h1;omega)]
   exact h.out.keep q hq hS
 · rcases k.sub q hq with h1 | h1
   · exact h.sub q h1
   · exact .inr (by omega)
theorem CzTo.below {w2:World} {t:Tm} (h:CzTo B g x t w w' y) (hb:Below w'.heap.size w' w2):CzTo B g x t w w2 y:=by
 have hs:=h.out.bel.size
 exact ⟨h.t,h.cz.below hb,⟨h.out.bel.trans (hb.mono h.cz.bB),fun q hq hS=>(hb.block q (by omega)).trans (h.out.keep q hq hS)⟩,h.sub⟩
structure RwG (w0:World) (g:Nat) (L:List Value) (w:World):Prop where
 blk:w.heap[g]?=some (.cells L.toArray 93 (0,0))
 gr:w0.grownBy w (some g)
variable {w0:World} {L:List Value}
theorem Cz.raw (h:Cz B w g x):RwG w g (ctV x) w:=⟨h.blk,rfl,rfl,rfl,Nat.le_refl _,fun _ _ _=>rfl⟩
theorem RwG.set (h:RwG w0 g L w) (k:Nat) (v:Value):RwG w0 g (L.set k v) (w.setCell ⟨g,k,none⟩ v) :=
 ⟨by rw [heap_setCell_same w g k _ _ v h.blk];simp,h.gr.os,h.gr.tape,h.gr.output,by have:=h.gr.size;simpa using this,fun q hq hne=>(heap_setCell_other w _ q v (by show q≠g;exact fun e=>hne (by rw [e]))).trans (h.gr.block q hq hne)⟩
theorem RwG.sets (h:RwG w0 g L w) (o:Nat) (vs:List Value) (hl:o+vs.length≤L.length):RwG w0 g (L.take o ++ (vs ++ L.drop (o+vs.length))) (w.setCells g o vs):=by
 obtain ⟨e1,e2,e3,e4,e5,e6⟩:=setCells_row g 93 vs o L w h.blk hl
 exact ⟨e1,e4.trans h.gr.os,e5.trans h.gr.tape,e6.trans h.gr.output,by rw [e3];exact h.gr.size,fun q hq hne=>(e2 q (fun e=>hne (by rw [e]))).trans (h.gr.block q hq hne)⟩
theorem RwG.below (h:RwG w0 g L w) (hb:Below w.heap.size w w'):RwG w0 g L w':=by
 have hg:g<w.heap.size:=(Array.getElem?_eq_some_iff.1 h.blk).1
 have:=h.gr.size
 exact ⟨(hb.block g hg).trans h.blk,hb.os.trans h.gr.os,hb.tape.trans h.gr.tape,hb.output.trans h.gr.output,Nat.le_trans this hb.size,fun q hq hne=>(hb.block q (by omega)).trans (h.gr.block q hq hne)⟩
theorem RwG.cell (h:RwG w0 g L w) {k:Nat} {v:Value} (hv:L[k]?=some v):w.cell? ⟨g,k,none⟩=some v:=by
 rw [cell_of_row _ _ k _ _ _ h.blk]
 simpa using hv
theorem RwG.fr (h:RwG w0 g L w) (k:Nat):w.frozen? ⟨g,k,none⟩=false:=frozen_of_row _ _ k _ _ h.blk
theorem RwG.fin (hz:Cz B w0 g x) (h:RwG w0 g L w) (he:L=ctV y) (hs:SameP x y) (ok:TmOk y.t):CzTo B g x y.t w0 w y:=by
 have hB:=hz.bB
 have hk:∀ q,q<w0.heap.size→q≠g→w.heap[q]?=w0.heap[q]?:=fun q hq hne=>h.gr.block q hq (fun e=>hne (by injection e))
 refine ⟨rfl,⟨by rw [← he];exact h.blk,hz.gB,ok,?_,?_,?_,?_,?_,?_,?_,?_,?_,?_,?_,hs.tl,?_⟩,⟨⟨h.gr.os,h.gr.tape,h.gr.output,h.gr.size,fun q hq=>hk q (by omega) (fun e=>by have:=hz.gB;omega)⟩,fun q hq hS=>hk q hq (fun e=>hS (.inl e))⟩,fun q hq=>.inl ?_⟩
 · rw [hs.mb,hs.main];exact hz.m.kept (hk _ hz.m.lt hz.gm.symm)
 · rw [hs.mb];exact hz.mB
 · rw [hs.mN,hs.r,hs.c];exact hz.mn
 · rw [hs.mN,hs.mK];exact hz.mkk
 · rw [hs.ob,hs.other];exact hz.o.kept (hk _ hz.o.lt hz.go.symm)
 · rw [hs.ob];exact hz.oB
 · rw [hs.oN,hs.r,hs.c];exact hz.on
 · rw [hs.oN,hs.oK];exact hz.okk
 · rw [hs.mb,hs.ob];exact hz.ne
 · rw [hs.pd,hs.PS,hs.p];exact hz.p.kept h.gr.size fun q hq=>hk q (hz.p.hi q hq) (fun e=>hz.gp (e ▸ hq))
 · rw [hs.bA,hs.bN,hs.bK,hs.table];exact hz.b.same fun q hq=>hk q (hz.b.own.lt q hq).2 (fun e=>hz.gb (e ▸ hq))
 · rw [hs.table];exact hz.bs
 · unfold CB at hq ⊢
   rw [hs.mb,hs.ob,hs.PS,hs.bA,hs.bN,hs.bK] at hq
   exact hq
end
theorem Tabs.out {B:Nat} {w w':World} (h:Tabs w) (hB:TabB B) (hb:Below B w w'):Tabs w':=by
 obtain ⟨t,fr,hs⟩:=h.st
 exact ⟨⟨fun c hc=>(hb.cell (by exact hB.1)).trans (h.u8.1 c hc),fun i hi=>⟨(hb.cell (by exact hB.2.1)).trans (h.u8.2 i hi).1,(hb.cell (by exact hB.2.1)).trans (h.u8.2 i hi).2⟩⟩,t,fr,(hb.block _ hB.2.2).trans hs⟩
theorem Cz.tab {B:Nat} {w:World} {g:Nat} {x:CT} (h:Cz B w g x):TabB B:=h.p.1
inductive Dd
 | left
 | tabAhead
 | lineDown
 | lineStart
 | save
 | restore
 | nextLine
 | lineUp
 | setTab
 | reset
 | up
 | down
 | right
 | startsDown
 | startsUp
 | toColumn
 | toRow
 | toPlace
 | tabBack
 | takeTabs
 | setMargins
 | insert
 | takeOut
 | eraseSome
 | eraseScreen
 | eraseRow
 | insertRows
 | takeOutRows
 | scrollUp
 | scrollDown
 | again
 | setPlain
 | unsetPlain
 | look
 | setPrivate
 | unsetPrivate
 | softReset
def Dd.run (d:Dd) (ps:List Int) (t:Tm):Tm :=
 let n:=numP ps 0 1
 let p:=numP ps 0 0
 let upY:=if t.now.y≥t.top then max (t.now.y-n) t.top else max (t.now.y-n) 0
 let dnY:=if t.now.y≤t.bot then min (t.now.y+n) t.bot else min (t.now.y+n) (t.r-1)
 let toY:=if t.now.org then min (t.top+n-1) t.bot else min (n-1) (t.r-1)
 let row (f:List Ce→List Ce):Tm:=t.put (inRowS f t.now.y t.shown)
 match d with
 | .left=>t.atX (max (t.now.x-n) 0)
 | .tabAhead=>iterS Tm.tab n.toNat t
 | .lineDown=>t.down
 | .lineStart=>t.atX 0
 | .save=>{ t with sav:=t.now }
 | .restore=>t.restored
 | .nextLine=>(t.atX 0).down
 | .lineUp=>t.up
 | .setTab=>{ t with tabs:=t.tabs.set t.now.x.toNat true }
 | .reset=>{ tmNew t.c t.r with p:=t.p }
 | .softReset=>t.reset
 | .up=>t.atY upY
 | .down=>t.atY dnY
 | .right=>t.atX (min (t.now.x+n) (t.c-1))
 | .startsDown=>(t.atY dnY).atX 0
 | .startsUp=>(t.atY upY).atX 0
 | .toColumn=>t.atX (min (n-1) (t.c-1))
 | .toRow=>t.atY toY
 | .toPlace=>(t.atY toY).atX (min (numP ps 1 1-1) (t.c-1))
 | .tabBack=>iterS Tm.tabBack n.toNat t
 | .takeTabs=>if p=0 then { t with tabs:=t.tabs.set t.now.x.toNat false } else if p=3 then { t with tabs:=List.replicate 80 false } else t
 | .setMargins=>let b:=min (numP ps 1 t.r) t.r;if n<b then { t with top:=n-1,bot:=b-1 }.home else t
 | .insert=>row fun l=>insertS l t.now.x n t.now.pen
 | .takeOut=>row fun l=>deleteS l t.now.x n t.now.pen
 | .eraseSome=>row fun l=>eraseS l t.now.x (t.now.x+n) t.now.pen
 | .eraseRow=>if p=0 then row (fun l=>eraseS l t.now.x t.c t.now.pen) else if p=1 then row (fun l=>eraseS l 0 (t.now.x+1) t.now.pen) else if p=2 then row (fun l=>eraseS l 0 t.c t.now.pen) else row (fun l=>eraseS l 0 0 t.now.pen)
 | .eraseScreen=>if p=0 then t.erased (t.now.y*t.c+t.now.x) (t.r*t.c:Nat) else if p=1 then t.erased 0 (t.now.y*t.c+t.now.x+1) else if p=2 then t.erased 0 (t.r*t.c:Nat) else t.erased 0 0
 | .insertRows=>if t.top≤t.now.y∧t.now.y≤t.bot then (t.scrolled t.now.y t.bot (-n)).atX 0 else t
 | .takeOutRows=>if t.top≤t.now.y∧t.now.y≤t.bot then (t.scrolled t.now.y t.bot n).atX 0 else t
 | .scrollUp=>t.scrolled t.top t.bot n
 | .scrollDown=>t.scrolled t.top t.bot (-n)
 | .again=>iterS (fun t=>t.print t.last) (min n.toNat (t.r*t.c)) t
 | .setPlain=>if 4∈ps then { t with ins:=true } else t
 | .unsetPlain=>if 4∈ps then { t with ins:=false } else t
 | .look=>{ t with now:={ t.now with pen:=pensP t.now.pen ps } }
 | .setPrivate=>ps.foldl (fun t n=>t.mode n true) t
 | .unsetPrivate=>ps.foldl (fun t n=>t.mode n false) t
def c0D (f:Int):Option Dd :=
 if f=8 then some .left else if f=9 then some .tabAhead else if f=10 then some .lineDown else if f=11 then some .lineDown else if f=12 then some .lineDown else if f=13 then some .lineStart else none
def escD (f:Int):Option Dd :=
 if f=55 then some .save else if f=56 then some .restore else if f=68 then some .lineDown else if f=69 then some .nextLine else if f=77 then some .lineUp else if f=72 then some .setTab else if f=99 then some .reset else none
def movD (f:Int):Option Dd :=
 if f=65 then some .up else if f=66 then some .down else if f=101 then some .down else if f=67 then some .right else if f=97 then some .right else if f=68 then some .left else if f=69 then some .startsDown else if f=70 then some .startsUp else if f=71 then some .toColumn else if f=96 then some .toColumn else if f=100 then some .toRow else if f=72 then some .toPlace else if f=102 then some .toPlace else if f=73 then some .tabAhead else if f=90 then some .tabBack else if f=103 then some .takeTabs else if f=114 then some .setMargins else if f=115 then some .save else if f=117 then some .restore else none
def wrtD (f:Int):Option Dd :=
 if f=64 then some .insert else if f=80 then some .takeOut else if f=88 then some .eraseSome else if f=74 then some .eraseScreen else if f=75 then some .eraseRow else if f=76 then some .insertRows else if f=77 then some .takeOutRows else if f=83 then some .scrollUp else if f=84 then some .scrollDown else if f=98 then some .again else if f=104 then some .setPlain else if f=108 then some .unsetPlain else if f=109 then some .look else none
def prvD (f:Int):Option Dd :=
 if f=104 then some .setPrivate else if f=108 then some .unsetPrivate else none
def seqD (m f:Int):Option Dd:=if m=0 then (movD f).or (wrtD f) else if m=63 then prvD f else if m=33 then (if f=112 then some .softReset else none) else none
def runD (d:Option Dd) (ps:List Int) (t:Tm):Tm:=match d with | none=>t | some d=>d.run ps t
/-! ### The same as the chapter's -/
theorem put_shown (t:Tm):t.put t.shown=t:=by
 unfold Tm.put Tm.shown
 by_cases h:t.isO=true
 · rw [if_pos h,if_pos h]
 · rw [if_neg h,if_neg h]
theorem erase_none (L:List Ce) {a b:Int} (p:Pn) (h:min b L.length≤max a 0):eraseS L a b p=L:=by
 unfold eraseS
 dsimp only
 rw [if_neg (by omega)]
theorem erase_cut (L:List Ce) {a b a' b':Int} (p:Pn) (ha:max a 0=max a' 0) (hb:min b L.length=min b' L.length):eraseS L a b p=eraseS L a' b' p:=by
 unfold eraseS
 dsimp only
 rw [ha,hb]
theorem clear_row {c r:Nat} {LL:Rws} (h:Box c r LL) {y:Nat} (hy:y<r) {x z:Int} (p:Pn) (hx:0≤x) (hz:z≤c):clearS c LL ((y:Int)*c+x) ((y:Int)*c+z) p=inRowS (fun l=>eraseS l x z p) (y:Int) LL:=by
 have hl:LL.length=r:=h.len
 have e1:inRowS (fun l=>eraseS l x z p) (y:Int) LL=LL.set y (eraseS (lAt LL y) x z p):=by
  unfold inRowS
  rw [if_pos (by omega),Int.toNat_natCast]
 rw [e1]
 refine rws_ext (by simp [clearS]) fun i hi=>?_
 have hi : i < r := by have : (clearS c LL ((y : Int) * c + x) ((y : Int) * c + z) p).length = LL.length := by simp [clearS]
                       omega
 unfold clearS
 rw [lAt_map,if_pos (by omega),lAt_set]
 have hc:=h.row i hi
 by_cases e:i=y
 · subst e
   rw [if_pos ⟨rfl,by omega⟩]
   refine erase_cut _ p ?_ ?_
   · rw [Int.natCast_mul];omega
   · rw [Int.natCast_mul];omega
 · rw [if_neg (fun h=>e h.1)]
   refine erase_none _ p ?_
   rw [hc]
   rcases Nat.lt_or_ge i y with h1 | h1
   · have h2:(i+1)*c≤y*c:=Nat.mul_le_mul_right c h1
     rw [Nat.succ_mul] at h2
     have h3:((i*c:Nat):Int)+c≤(y:Int)*c:=by rw [← Int.natCast_mul];omega
     omega
   · have h2:(y+1)*c≤i*c:=Nat.mul_le_mul_right c (show y+1≤i by omega)
     rw [Nat.succ_mul] at h2
     have h3:(y:Int)*c+c≤((i*c:Nat):Int):=by rw [← Int.natCast_mul];omega
     omega
theorem clear_none {c:Nat} (LL:Rws) (p:Pn):clearS c LL 0 0 p=LL:=by
 refine rws_ext (by simp [clearS]) fun i hi=>?_
 unfold clearS at hi ⊢
 rw [lAt_map,if_pos (by simpa using hi)]
 exact erase_none _ p (by omega)
namespace TmOk
variable {t:Tm}
theorem rowAt (h:TmOk t):∃ y:Nat,t.now.y=(y:Int)∧y<t.r:=⟨t.now.y.toNat,by have:=h.y0;omega,by have:=h.y1;have:=h.y0;omega⟩
theorem erasedRow (h:TmOk t) {x z:Int} (hx:0≤x) (hz:z≤t.c):t.erased (t.now.y*t.c+x) (t.now.y*t.c+z)=t.put (inRowS (fun l=>eraseS l x z t.now.pen) t.now.y t.shown):=by
 obtain ⟨y,hy,hl⟩:=h.rowAt
 unfold Tm.erased
 rw [hy,clear_row h.shown.box hl _ hx hz]
theorem erased0 (_:TmOk t):t.erased 0 0=t:=by unfold Tm.erased;rw [clear_none,put_shown]
theorem row0 (h:TmOk t):t.put (inRowS (fun l=>eraseS l 0 0 t.now.pen) t.now.y t.shown)=t:=by
 obtain ⟨y,hy,hl⟩:=h.rowAt
 have e:(fun l:List Ce=>eraseS l 0 0 t.now.pen)=id:=by
  funext l
  exact erase_none l _ (by omega)
 rw [e,hy]
 unfold inRowS
 have hb:=h.shown.box.len
 rw [if_pos (by omega),Int.toNat_natCast,id,lAt_lt (by omega),List.set_getElem_self,put_shown]
theorem someRow (h:TmOk t) (n:Int):t.erased (t.now.y*t.c+t.now.x) (min (t.now.y*t.c+t.now.x+n) (t.now.y*t.c+t.c))=t.put (inRowS (fun l=>eraseS l t.now.x (t.now.x+n) t.now.pen) t.now.y t.shown):=by
 have h1:=h.x0;have h2:=h.x1
 have e:min (t.now.y*t.c+t.now.x+n) (t.now.y*t.c+t.c)=t.now.y*t.c+min (t.now.x+n) t.c:=by omega
 rw [e,h.erasedRow h1 (by omega)]
 obtain ⟨y,hy,hl⟩:=h.rowAt
 have hb:=h.shown.box
 rw [hy]
 unfold inRowS
 rw [if_pos (by have:=hb.len;omega),if_pos (by have:=hb.len;omega),Int.toNat_natCast]
 congr 2
 refine erase_cut _ _ rfl ?_
 rw [hb.row y hl]
 omega
end TmOk
theorem atX_self {t:Tm} {x:Int} (h:t.now.x=x):t.atX x=t:=by rw [← h];rfl
theorem tab_ge (t:Tm):t.tab.now.x=t.c-1∨t.now.x<t.tab.now.x:=by
 unfold Tm.tab
 split
 · rename_i i hi
   have:=List.find?_some hi
   simp only [Bool.and_eq_true,decide_eq_true_eq] at this
   exact .inr this.1
 · exact .inl rfl
theorem tab_end {t:Tm} (h:t.now.x=t.c-1):t.tab=t:=by
 unfold Tm.tab
 split
 · rename_i i hi
   have h1:=List.find?_some hi
   have h2:=List.mem_range.1 (List.mem_of_find?_eq_some hi)
   simp only [Bool.and_eq_true,decide_eq_true_eq] at h1
   omega
 · exact atX_self h
theorem tab_c (t:Tm):t.tab.c=t.c:=by unfold Tm.tab;split<;>rfl
theorem iter_stay {α:Type} {f:α→α} {a:α} (h:f a=a):∀ n,iterS f n a=a
 | 0=>rfl
 | n+1=>by unfold iterS;rw [h];exact iter_stay h n
theorem iter_add {α:Type} (f:α→α) (m:Nat):∀ (n:Nat) (a:α),iterS f (n+m) a=iterS f m (iterS f n a)
 | 0,a=>by rw [Nat.zero_add];rfl
 | n+1,a=>by rw [Nat.succ_add];exact iter_add f m n (f a)
theorem iter_succ {α:Type} (f:α→α) (n:Nat) (a:α):iterS f (n+1) a=f (iterS f n a):=by
 rw [iter_add f 1 n a];rfl
theorem tabs_far:∀ (n:Nat) (t:Tm),(iterS Tm.tab n t).c=t.c∧((iterS Tm.tab n t).now.x=t.c-1∨t.now.x+n≤(iterS Tm.tab n t).now.x)
 | 0,t=>⟨rfl,.inr (by show t.now.x+((0:Nat):Int)≤t.now.x;omega)⟩
 | n+1,t=>by
  obtain ⟨h1,h2⟩:=tabs_far n t
  rw [iter_succ]
  generalize iterS Tm.tab n t=u at h1 h2 ⊢
  refine ⟨(tab_c u).trans h1,?_⟩
  rcases h2 with h2 | h2
  · rw [tab_end (by omega)];exact .inl h2
  · rcases tab_ge u with h3 | h3
    · exact .inl (by omega)
    · exact .inr (by omega)
theorem tabs_all {t:Tm} (h:TmOk t) (n:Nat):iterS Tm.tab n t=iterS Tm.tab (min n 80) t:=by
 by_cases hn:n≤80
 · rw [Nat.min_eq_left hn]
 · rw [Nat.min_eq_right (by omega),show n=80+(n-80) by omega,iter_add]
   obtain ⟨h1,h2⟩:=tabs_far 80 t
   have h3:=(TmOk.iter (fun t ht=>ht.tab) 80 h).x1
   have h4:=h.x0;have h5:=h.c1
   exact iter_stay (tab_end (by omega)) _
theorem back_le (t:Tm):t.tabBack.now.x=0∨t.tabBack.now.x<t.now.x∧0≤t.tabBack.now.x:=by
 unfold Tm.tabBack
 split
 · rename_i i hi
   have:=List.find?_some hi
   simp only [Bool.and_eq_true,decide_eq_true_eq] at this
   exact .inr ⟨this.1.2,by show (0:Int)≤(i:Int);omega⟩
 · exact .inl rfl
theorem back_end {t:Tm} (h:t.now.x=0):t.tabBack=t:=by
 unfold Tm.tabBack
 split
 · rename_i i hi
   have h1:=List.find?_some hi
   simp only [Bool.and_eq_true,decide_eq_true_eq] at h1
   omega
 · exact atX_self h
theorem backs_far:∀ (n:Nat) {t:Tm},0≤t.now.x→0≤(iterS Tm.tabBack n t).now.x∧((iterS Tm.tabBack n t).now.x=0∨(iterS Tm.tabBack n t).now.x+n≤t.now.x)
 | 0,t,h=>⟨h,.inr (by show t.now.x+((0:Nat):Int)≤t.now.x;omega)⟩
 | n+1,t,h=>by
  obtain ⟨h1,h2⟩:=backs_far n h
  rw [iter_succ]
  generalize iterS Tm.tabBack n t=u at h1 h2 ⊢
  rcases h2 with h2 | h2
  · rw [back_end h2];exact ⟨h1,.inl h2⟩
  · rcases back_le u with h3 | h3
    · exact ⟨by omega,.inl h3⟩
    · exact ⟨by omega,.inr (by omega)⟩
theorem backs_all {t:Tm} (h:TmOk t) (n:Nat):iterS Tm.tabBack n t=iterS Tm.tabBack (min n 80) t:=by
 by_cases hn:n≤80
 · rw [Nat.min_eq_left hn]
 · rw [Nat.min_eq_right (by omega),show n=80+(n-80) by omega,iter_add]
   obtain ⟨h1,h2⟩:=backs_far 80 h.x0
   have h4:=h.x1;have h5:=h.c1
   exact iter_stay (back_end (by omega)) _
theorem width_zero:widthS 0=0:=by decide
theorem print_zero (t:Tm):t.print 0=t:=by
 unfold Tm.print
 dsimp only
 rw [if_pos (.inl width_zero)]
theorem atX_scrolled (t:Tm) (x a b n:Int):(t.atX x).scrolled a b n=(t.scrolled a b n).atX x:=by
 unfold Tm.scrolled Tm.put
 by_cases h:t.isO=true
 · rw [if_pos h,if_pos (show (t.atX x).isO=true from h)];rfl
 · rw [if_neg h,if_neg (show ¬ (t.atX x).isO=true from h)];rfl
/-! ### Which deed an act is -/
theorem c0_deed (t:Tm) (b:Int):t.c0 b=runD (c0D b) [] t:=by
 unfold Tm.c0
 by_cases h8:b=8
 · subst h8;show t.atX (max 0 (t.now.x-1))=t.atX (max (t.now.x-1) 0);rw [Int.max_comm]
 by_cases h9:b=9
 · subst h9;rfl
 by_cases h10:b=10
 · subst h10;rfl
 by_cases h11:b=11
 · subst h11;rfl
 by_cases h12:b=12
 · subst h12;rfl
 by_cases h13:b=13
 · subst h13;rfl
 rw [if_neg h8,if_neg h9,if_neg (by omega),if_neg h13]
 unfold c0D
 rw [if_neg h8,if_neg h9,if_neg h10,if_neg h11,if_neg h12,if_neg h13]
 rfl
theorem esc_deed (t:Tm) (b:Int):t.esc b=runD (escD b) [] t:=by
 unfold Tm.esc
 by_cases h55:b=55
 · subst h55;rfl
 by_cases h56:b=56
 · subst h56;rfl
 by_cases h68:b=68
 · subst h68;rfl
 by_cases h69:b=69
 · subst h69;rfl
 by_cases h77:b=77
 · subst h77;rfl
 by_cases h72:b=72
 · subst h72;rfl
 by_cases h99:b=99
 · subst h99;rfl
 rw [if_neg h55,if_neg h56,if_neg h68,if_neg h69,if_neg h77,if_neg h72,if_neg h99]
 unfold escD
 rw [if_neg h55,if_neg h56,if_neg h68,if_neg h69,if_neg h77,if_neg h72,if_neg h99]
 rfl
theorem csi_deed {t:Tm} (h:TmOk t) {a:AcS} (hl:∀ z∈a.ps,0≤z∧z≤9999):t.csi a=runD (seqD a.m a.fin) a.ps t:=by
 obtain ⟨k,r,m,f,ps,tx⟩:=a
 have n1:=TmOk.numP_ge hl 0 (o:=1) (by omega)
 dsimp only at n1 hl ⊢
 by_cases hm63:m=63
 · subst hm63
   by_cases h104:f=104
   · subst h104;rfl
   by_cases h108:f=108
   · subst h108;rfl
   have e:seqD 63 f=none:=by
    show prvD f=none
    unfold prvD
    rw [if_neg h104,if_neg h108]
   rw [e]
   unfold Tm.csi
   dsimp only
   rw [if_neg (by omega),if_neg (by omega),if_pos (by decide)]
   rfl
 by_cases hm33:m=33
 · subst hm33
   by_cases h112:f=112
   · subst h112;rfl
   have e:seqD 33 f=none:=by
    show (if f=112 then some Dd.softReset else none)=none
    rw [if_neg h112]
   rw [e]
   unfold Tm.csi
   dsimp only
   rw [if_neg (by omega),if_neg (by omega),if_pos (by decide)]
   rfl
 by_cases hm0:¬ m=0
 · have e:seqD m f=none:=by
    unfold seqD
    rw [if_neg hm0,if_neg hm63,if_neg hm33]
   rw [e]
   unfold Tm.csi
   dsimp only
   rw [if_neg (by omega),if_neg (by omega),if_pos hm0]
   rfl
 have hm0:m=0:=Classical.not_not.1 hm0
 subst hm0
 by_cases h65:f=65
 · subst h65
   rfl
 by_cases h66:f=66
 · subst h66
   rfl
 by_cases h101:f=101
 · subst h101
   rfl
 by_cases h67:f=67
 · subst h67
   rfl
 by_cases h97:f=97
 · subst h97
   rfl
 by_cases h68:f=68
 · subst h68
   rfl
 by_cases h69:f=69
 · subst h69
   rfl
 by_cases h70:f=70
 · subst h70
   rfl
 by_cases h71:f=71
 · subst h71
   rfl
 by_cases h96:f=96
 · subst h96
   rfl
 by_cases h100:f=100
 · subst h100
   rfl
 by_cases h72:f=72
 · subst h72
   rfl
 by_cases h102:f=102
 · subst h102
   rfl
 by_cases h73:f=73
 · subst h73
   show iterS Tm.tab (min (numP ps 0 1).toNat 80) t=iterS Tm.tab (numP ps 0 1).toNat t
   exact (tabs_all h _).symm
 by_cases h90:f=90
 · subst h90
   show iterS Tm.tabBack (min (numP ps 0 1).toNat 80) t=iterS Tm.tabBack (numP ps 0 1).toNat t
   exact (backs_all h _).symm
 by_cases h103:f=103
 · subst h103
   rfl
 by_cases h114:f=114
 · subst h114
   rfl
 by_cases h115:f=115
 · subst h115
   rfl
 by_cases h117:f=117
 · subst h117
   rfl
 by_cases h64:f=64
 · subst h64
   rfl
 by_cases h80:f=80
 · subst h80
   rfl
 by_cases h88:f=88
 · subst h88
   exact h.someRow _
 by_cases h74:f=74
 · subst h74
   show (if numP ps 0 0=0 then t.erased (t.now.y*t.c+t.now.x) ((t.c:Int)*t.r) else if numP ps 0 0=1 then t.erased 0 (t.now.y*t.c+t.now.x+1) else if numP ps 0 0=2 then t.erased 0 ((t.c:Int)*t.r) else t) =
    (if numP ps 0 0=0 then t.erased (t.now.y*t.c+t.now.x) ((t.r*t.c:Nat):Int) else if numP ps 0 0=1 then t.erased 0 (t.now.y*t.c+t.now.x+1) else if numP ps 0 0=2 then t.erased 0 ((t.r*t.c:Nat):Int) else t.erased 0 0)
   rw [h.erased0,show ((t.r*t.c:Nat):Int)=(t.c:Int)*t.r by rw [Int.natCast_mul,Int.mul_comm]]
 by_cases h75:f=75
 · subst h75
   show (if numP ps 0 0=0 then t.erased (t.now.y*t.c+t.now.x) (t.now.y*t.c+t.c) else if numP ps 0 0=1 then t.erased (t.now.y*t.c) (t.now.y*t.c+t.now.x+1) else if numP ps 0 0=2 then t.erased (t.now.y*t.c) (t.now.y*t.c+t.c) else t) =
    (if numP ps 0 0=0 then t.put (inRowS (fun l=>eraseS l t.now.x t.c t.now.pen) t.now.y t.shown) else if numP ps 0 0=1 then t.put (inRowS (fun l=>eraseS l 0 (t.now.x+1) t.now.pen) t.now.y t.shown) else if numP ps 0 0=2 then t.put (inRowS (fun l=>eraseS l 0 t.c t.now.pen) t.now.y t.shown) else t.put (inRowS (fun l=>eraseS l 0 0 t.now.pen) t.now.y t.shown))
   have e1:=h.erasedRow (x:=0) (z:=t.now.x+1) (by omega) (by have:=h.x1;omega)
   have e2:=h.erasedRow (x:=0) (z:=t.c) (by omega) (by omega)
   rw [Int.add_zero] at e1 e2
   rw [h.row0,← e1,← e2,h.erasedRow h.x0 (Int.le_refl _),Int.add_assoc]
 by_cases h76:f=76
 · subst h76
   show (if t.top≤t.now.y∧t.now.y≤t.bot then (t.atX 0).scrolled t.now.y t.bot (if (76:Int)=76 then -numP ps 0 1 else numP ps 0 1) else t)=(if t.top≤t.now.y∧t.now.y≤t.bot then (t.scrolled t.now.y t.bot (-numP ps 0 1)).atX 0 else t)
   rw [if_pos (rfl:(76:Int)=76),atX_scrolled]
 by_cases h77:f=77
 · subst h77
   show (if t.top≤t.now.y∧t.now.y≤t.bot then (t.atX 0).scrolled t.now.y t.bot (if (77:Int)=76 then -numP ps 0 1 else numP ps 0 1) else t)=(if t.top≤t.now.y∧t.now.y≤t.bot then (t.scrolled t.now.y t.bot (numP ps 0 1)).atX 0 else t)
   rw [if_neg (by decide:¬ (77:Int)=76),atX_scrolled]
 by_cases h83:f=83
 · subst h83
   rfl
 by_cases h84:f=84
 · subst h84
   rfl
 by_cases h98:f=98
 · subst h98
   show (if t.last=0 then t else iterS (fun t=>t.print t.last) (min (numP ps 0 1).toNat (t.c*t.r)) t)=iterS (fun t=>t.print t.last) (min (numP ps 0 1).toNat (t.r*t.c)) t
   rw [Nat.mul_comm t.c t.r]
   split
   · rename_i h0
     rw [iter_stay (f:=fun t:Tm=>t.print t.last) (a:=t) (by show t.print t.last=t;rw [h0];exact print_zero t)]
   · rfl
 by_cases h104:f=104
 · subst h104
   rfl
 by_cases h108:f=108
 · subst h108
   rfl
 by_cases h109:f=109
 · subst h109
   rfl
 have e1:movD f=none:=by
  unfold movD
  rw [if_neg h65,if_neg h66,if_neg h101,if_neg h67,if_neg h97,if_neg h68,if_neg h69,if_neg h70,if_neg h71,if_neg h96,if_neg h100,if_neg h72,if_neg h102,if_neg h73,if_neg h90,if_neg h103,if_neg h114,if_neg h115,if_neg h117]
 have e2:wrtD f=none:=by
  unfold wrtD
  rw [if_neg h64,if_neg h80,if_neg h88,if_neg h74,if_neg h75,if_neg h76,if_neg h77,if_neg h83,if_neg h84,if_neg h98,if_neg h104,if_neg h108,if_neg h109]
 have e:seqD 0 f=none:=by
  show (movD f).or (wrtD f)=none
  rw [e1,e2];rfl
 rw [e]
 unfold Tm.csi Tm.edit
 dsimp only
 rw [if_neg (by omega),if_neg (by omega),if_neg (by decide)]
 rw [if_neg h65,if_neg h70,if_neg (by omega),if_neg h69,if_neg (by omega),if_neg h68,if_neg (by omega),if_neg h100,if_neg (by omega),if_neg h73,if_neg h90,if_neg h114,if_neg h115,if_neg h117,if_neg h109]
 rw [if_neg h64,if_neg h80,if_neg h88,if_neg h74,if_neg h75,if_neg (by omega),if_neg h83,if_neg h84,if_neg h98,if_neg h103,if_neg (by omega)]
 rfl
end Go.Proofs.YtlcipgdnpilkfaaGreatDoor
