/-
  Part 21 of what the laws of emul want: EmulCt.
-/
import Derived.Laws.Rows
import Derived.Test.YtlcipgdnpilkfaaGreatDoorPt16
import Derived.Test.YtlcipgdnpilkfaaGreatDoorPt18
import Derived.Test.YtlcipgdnpilkfaaGreatDoorPt19
import Derived.Test.YtlcipgdnpilkfaaGreatDoorPt20
namespace Go.Proofs.YtlcipgdnpilkfaaGreatDoor
open Go.RowKit
structure CT where
 t:Tm
 pd:Nat
 PS:Nat→Prop
 mb:Nat
 mN:Nat
 mK:Nat
 ob:Nat
 oN:Nat
 oK:Nat
 ttl:ByteArray
 bA:Option Addr
 bN:Nat
 bK:Nat
def spC (s:Spt):List Value:=[.int .i64 s.x,.int .i64 s.y,.int .u32 s.pen.fg,.int .u32 s.pen.bg,.int .u8 s.pen.st,.int .u16 s.pen.lk,.bool s.org]
def ctT (x:CT):List Value:=[.string x.ttl,.slice x.bA x.bN x.bK,.int .i32 x.t.last]
def ctV (x:CT):List Value :=
 .pointer (some ⟨x.pd,0,none⟩) :: (spC x.t.now ++ (spC x.t.sav ++ (.int .i64 x.t.c :: .int .i64 x.t.r :: .slice (some ⟨x.mb,0,none⟩) x.mN x.mK :: .int .i64 x.t.c :: .int .i64 x.t.r :: .slice (some ⟨x.ob,0,none⟩) x.oN x.oK ::
  .bool x.t.isO :: .bool x.t.full :: .int .i64 x.t.top :: .int .i64 x.t.bot :: .bool (!x.t.nowrap) :: .bool x.t.ins :: .bool x.t.hid :: .int .u8 x.t.mouse :: (x.t.tabs.map Value.bool ++ ctT x))))
theorem ctV_len {x:CT} (h:x.t.tabs.length=80):(ctV x).length=112:=by simp [ctV,spC,ctT,h]
theorem one_ct (x:CT):∀ v∈ctV x,v.oneCell'=true:=by
 intro v hv
 simp only [ctV,spC,ctT,List.mem_cons,List.mem_append,List.mem_map,List.not_mem_nil,or_false] at hv
 rcases hv with rfl | (rfl | rfl | rfl | rfl | rfl | rfl | rfl) | (rfl | rfl | rfl | rfl | rfl | rfl | rfl) | rfl | rfl | rfl | rfl | rfl | rfl | rfl | rfl | rfl | rfl | rfl | rfl | rfl | rfl | ⟨_,_,rfl⟩ | rfl | rfl | rfl<;>rfl
def ctH (x:CT):List Value :=
 .pointer (some ⟨x.pd,0,none⟩) :: (spC x.t.now ++ (spC x.t.sav ++ [.int .i64 x.t.c,.int .i64 x.t.r,.slice (some ⟨x.mb,0,none⟩) x.mN x.mK,.int .i64 x.t.c,.int .i64 x.t.r,.slice (some ⟨x.ob,0,none⟩) x.oN x.oK,
  .bool x.t.isO,.bool x.t.full,.int .i64 x.t.top,.int .i64 x.t.bot,.bool (!x.t.nowrap),.bool x.t.ins,.bool x.t.hid,.int .u8 x.t.mouse]))
theorem ctV_is (x:CT):ctV x=ctH x ++ (x.t.tabs.map Value.bool ++ ctT x):=rfl
theorem ctV_tab {x:CT} {i:Nat} (h:i<x.t.tabs.length):(ctV x)[29+i]?=some (.bool (x.t.tabs.getD i false)):=by
 rw [ctV_is,List.getElem?_append_right (by show 29≤29+i;omega),show 29+i-(ctH x).length=i from by show 29+i-29=i;omega,List.getElem?_append_left (by simpa using h),List.getElem?_map,List.getElem?_eq_getElem h]
 simp [List.getD,List.getElem?_eq_getElem h]
theorem ctV_setTab (x:CT) {i:Nat} (b:Bool) (h:i<x.t.tabs.length):(ctV x).set (29+i) (.bool b)=ctV { x with t:={ x.t with tabs:=x.t.tabs.set i b } }:=by
 rw [ctV_is,ctV_is,List.set_append_right _ _ (by show 29≤29+i;omega),show 29+i-(ctH x).length=i from by show 29+i-29=i;omega,List.set_append_left _ _ (by simpa using h),← List.map_set]
 rfl
theorem ctV_setTl {x y:CT} (h:x.t.tabs.length=80) (j:Nat) (v:Value) (hh:ctH x=ctH y) (ht:x.t.tabs=y.t.tabs) (hl:(ctT x).set j v=ctT y):(ctV x).set (109+j) v=ctV y:=by
 rw [ctV_is,ctV_is,List.set_append_right _ _ (by show 29≤109+j;omega),List.set_append_right _ _ (by rw [List.length_map,h];show 80≤109+j-29;omega),List.length_map,h,show 109+j-(ctH x).length-80=j from by show 109+j-29-80=j;omega,hl,hh,ht]
def CB (g:Nat) (x:CT) (q:Nat):Prop:=q=g∨q=x.mb∨q=x.ob∨x.PS q∨(Value.slice x.bA x.bN x.bK).ownBlock=some q
structure Cz (B:Nat) (w:World) (g:Nat) (x:CT):Prop where
 blk:w.heap[g]?=some (.cells (ctV x).toArray 93 (0,0))
 gB:B≤g
 ok:TmOk x.t
 m:Rw ceV 66 w x.mb x.t.main.flatten
 mB:B≤x.mb
 mn:x.mN=x.t.r*x.t.c
 mkk:x.mN≤x.mK∧x.mK≤maxLen
 o:Rw ceV 66 w x.ob x.t.other.flatten
 oB:B≤x.ob
 on:x.oN=x.t.r*x.t.c
 okk:x.oN≤x.oK∧x.oK≤maxLen
 ne:x.mb≠x.ob
 p:Pz B w x.pd x.t.p x.PS
 b:Tx B w x.bA x.bN x.bK x.t.table
 tl:sL x.ttl=x.t.title
 bs:∀ s∈x.t.table,s.size≤100000
theorem Rw.has {α:Type} {f:α→List Value} {t:TypeId} {w:World} {g:Nat} {L:List α} (h:Rw f t w g L):HasT w g t:=by obtain ⟨r,h⟩:=h;exact ⟨_,_,h⟩
theorem HasT.lt {w:World} {q:Nat} {t:TypeId} (h:HasT w q t):q<w.heap.size:=by obtain ⟨cs,fr,h⟩:=h;exact (Array.getElem?_eq_some_iff.1 h).1
theorem Pz.types {B:Nat} {w:World} {g:Nat} {s:PaS} {S:Nat→Prop} (h:Pz B w g s S) {q:Nat} (hq:S q):HasT w q 137∨HasT w q 198∨HasT w q 3∨HasT w q 5:=by
 obtain ⟨_,r,h,_,rfl⟩:=h
 rcases hq with rfl | rfl | hq | hq
 · exact .inl h.hg
 · exact .inr (.inl h.hd)
 · exact .inr (.inr (.inl (row_has h.num q hq)))
 · exact .inr (.inr (.inr (row_has h.txt q hq)))
theorem Pz.off {B:Nat} {w:World} {g:Nat} {s:PaS} {S:Nat→Prop} (h:Pz B w g s S) {q:Nat} {t:TypeId} (hq:HasT w q t) (h1:137≠t) (h2:198≠t) (h3:3≠t) (h4:5≠t):¬ S q:=fun hS=>by
 rcases h.types hS with k | k | k | k
 · exact k.ne hq h1 rfl
 · exact k.ne hq h2 rfl
 · exact k.ne hq h3 rfl
 · exact k.ne hq h4 rfl
section
variable {B:Nat} {w w':World} {g:Nat} {x y:CT}
theorem Cz.hg (h:Cz B w g x):HasT w g 93:=⟨_,_,h.blk⟩
theorem Cz.lt (h:Cz B w g x):g<w.heap.size:=h.hg.lt
theorem Cz.bB (h:Cz B w g x):B≤w.heap.size:=Nat.le_of_lt (Nat.lt_of_le_of_lt h.gB h.lt)
theorem Cz.lo (h:Cz B w g x):∀ q,CB g x q→B≤q:=by
 rintro q (rfl | rfl | rfl | hq | hq)
 · exact h.gB
 · exact h.mB
 · exact h.oB
 · exact h.p.lo q hq
 · exact (h.b.own.lt q hq).1
theorem Cz.hi (h:Cz B w g x):∀ q,CB g x q→q<w.heap.size:=by
 rintro q (rfl | rfl | rfl | hq | hq)
 · exact h.lt
 · exact h.m.lt
 · exact h.o.lt
 · exact h.p.hi q hq
 · exact (h.b.own.lt q hq).2
theorem Cz.gm (h:Cz B w g x):g≠x.mb:=h.hg.ne h.m.has (by decide)
theorem Cz.go (h:Cz B w g x):g≠x.ob:=h.hg.ne h.o.has (by decide)
theorem Cz.gp (h:Cz B w g x):¬ x.PS g:=h.p.off h.hg (by decide) (by decide) (by decide) (by decide)
theorem Cz.gb (h:Cz B w g x):(Value.slice x.bA x.bN x.bK).ownBlock≠some g:=row_off h.b.own h.hg (by decide)
theorem Tx.same {w w':World} {base:Nat} {A:Option Addr} {n c:Nat} {L:List ByteArray} (h:Tx base w A n c L) (hs:∀ q,(Value.slice A n c).ownBlock=some q→w'.heap[q]?=w.heap[q]?):Tx base w' A n c L:=⟨h.len,h.le,h.max,row_same h.own hs⟩
theorem Cz.kept (h:Cz B w g x) (hz:w.heap.size≤w'.heap.size) (hs:∀ q,CB g x q→w'.heap[q]?=w.heap[q]?):Cz B w' g x :=
 ⟨(hs g (.inl rfl)).trans h.blk,h.gB,h.ok,h.m.kept (hs _ (.inr (.inl rfl))),h.mB,h.mn,h.mkk,h.o.kept (hs _ (.inr (.inr (.inl rfl)))),h.oB,h.on,h.okk,h.ne,h.p.kept hz fun q hq=>hs q (.inr (.inr (.inr (.inl hq)))),h.b.same fun q hq=>hs q (.inr (.inr (.inr (.inr hq)))),h.tl,h.bs⟩
theorem Cz.below (h:Cz B w g x) (hb:Below w.heap.size w w'):Cz B w' g x:=h.kept hb.size fun q hq=>hb.block q (h.hi q hq)
theorem Cz.cell (h:Cz B w g x) {k:Nat} {v:Value} (hv:(ctV x)[k]?=some v):w.cell? ⟨g,k,none⟩=some v:=by
 rw [cell_of_row _ _ k _ _ _ h.blk]
 simpa using hv
theorem Cz.fr (h:Cz B w g x) (k:Nat):w.frozen? ⟨g,k,none⟩=false:=frozen_of_row _ _ k _ _ h.blk
structure SameP (x y:CT):Prop where
 c:y.t.c=x.t.c
 r:y.t.r=x.t.r
 main:y.t.main=x.t.main
 other:y.t.other=x.t.other
 p:y.t.p=x.t.p
 table:y.t.table=x.t.table
 pd:y.pd=x.pd
 PS:y.PS=x.PS
 mb:y.mb=x.mb
 mN:y.mN=x.mN
 mK:y.mK=x.mK
 ob:y.ob=x.ob
 oN:y.oN=x.oN
 oK:y.oK=x.oK
 bA:y.bA=x.bA
 bN:y.bN=x.bN
 bK:y.bK=x.bK
 tl:sL y.ttl=y.t.title
structure CzTo (B g:Nat) (x:CT) (t':Tm) (w w':World) (y:CT):Prop where
 t:y.t=t'
 cz:Cz B w' g y
 out:OutB B (CB g x) w w'
 sub:∀ q,CB g y q→CB g x q∨w.heap.size≤q
def CzP (B g:Nat) (x:CT) (t':Tm) (w:World) (e:Ending) (w':World):Prop:=e=.returned (.tuple #[])∧∃ y,CzTo B g x t' w w' y
theorem CzTo.refl (h:Cz B w g x):CzTo B g x x.t w w x:=⟨rfl,h,OutB.refl,fun _ hq=>.inl hq⟩
theorem CzTo.trans {w2:World} {t t2:Tm} {z:CT} (h:CzTo B g x t w w' y) (k:CzTo B g y t2 w' w2 z):CzTo B g x t2 w w2 z:=by
 have hs:=h.out.bel.size
 refine ⟨k.t,k.cz,⟨h.out.bel.trans k.out.bel,fun q hq hS=>?_⟩,fun q hq=>?_⟩
 · rw [k.out.keep q (by omega) (fun hy=>by rcases h.sub q hy with h1 | h1;exact hS h1;omega)]
   exact h.out.keep q hq hS
 · rcases k.sub q hq with h1 | h1
   · exact h.sub q h1
   · exact .inr (by omega)
theorem CzTo.below {w2:World} {t:Tm} (h:CzTo B g x t w w' y) (hb:Below w'.heap.size w' w2):CzTo B g x t w w2 y:=by
 have hs:=h.out.bel.size
 exact ⟨h.t,h.cz.below hb,⟨h.out.bel.trans (hb.mono h.cz.bB),fun q hq hS=>(hb.block q (by omega)).trans (h.out.keep q hq hS)⟩,h.sub⟩
structure RwG (w0:World) (g:Nat) (L:List Value) (w:World):Prop where
 blk:w.heap[g]?=some (.cells L.toArray 93 (0,0))
 gr:w0.grownBy w (some g)
variable {w0:World} {L:List Value}
theorem Cz.raw (h:Cz B w g x):RwG w g (ctV x) w:=⟨h.blk,rfl,rfl,rfl,Nat.le_refl _,fun _ _ _=>rfl⟩
theorem RwG.set (h:RwG w0 g L w) (k:Nat) (v:Value):RwG w0 g (L.set k v) (w.setCell ⟨g,k,none⟩ v) :=
 ⟨by rw [heap_setCell_same w g k _ _ v h.blk];simp,h.gr.os,h.gr.tape,h.gr.output,by have:=h.gr.size;simpa using this,fun q hq hne=>(heap_setCell_other w _ q v (by show q≠g;exact fun e=>hne (by rw [e]))).trans (h.gr.block q hq hne)⟩
theorem RwG.sets (h:RwG w0 g L w) (o:Nat) (vs:List Value) (hl:o+vs.length≤L.length):RwG w0 g (L.take o ++ (vs ++ L.drop (o+vs.length))) (w.setCells g o vs):=by
 obtain ⟨e1,e2,e3,e4,e5,e6⟩:=setCells_row g 93 vs o L w h.blk hl
 exact ⟨e1,e4.trans h.gr.os,e5.trans h.gr.tape,e6.trans h.gr.output,by rw [e3];exact h.gr.size,fun q hq hne=>(e2 q (fun e=>hne (by rw [e]))).trans (h.gr.block q hq hne)⟩
theorem RwG.below (h:RwG w0 g L w) (hb:Below w.heap.size w w'):RwG w0 g L w':=by
 have hg:g<w.heap.size:=(Array.getElem?_eq_some_iff.1 h.blk).1
 have:=h.gr.size
 exact ⟨(hb.block g hg).trans h.blk,hb.os.trans h.gr.os,hb.tape.trans h.gr.tape,hb.output.trans h.gr.output,Nat.le_trans this hb.size,fun q hq hne=>(hb.block q (by omega)).trans (h.gr.block q hq hne)⟩
theorem RwG.cell (h:RwG w0 g L w) {k:Nat} {v:Value} (hv:L[k]?=some v):w.cell? ⟨g,k,none⟩=some v:=by
 rw [cell_of_row _ _ k _ _ _ h.blk]
 simpa using hv
theorem RwG.fr (h:RwG w0 g L w) (k:Nat):w.frozen? ⟨g,k,none⟩=false:=frozen_of_row _ _ k _ _ h.blk
theorem RwG.fin (hz:Cz B w0 g x) (h:RwG w0 g L w) (he:L=ctV y) (hs:SameP x y) (ok:TmOk y.t):CzTo B g x y.t w0 w y:=by
 have hB:=hz.bB
 have hk:∀ q,q<w0.heap.size→q≠g→w.heap[q]?=w0.heap[q]?:=fun q hq hne=>h.gr.block q hq (fun e=>hne (by injection e))
 refine ⟨rfl,⟨by rw [← he];exact h.blk,hz.gB,ok,?_,?_,?_,?_,?_,?_,?_,?_,?_,?_,?_,hs.tl,?_⟩,⟨⟨h.gr.os,h.gr.tape,h.gr.output,h.gr.size,fun q hq=>hk q (by omega) (fun e=>by have:=hz.gB;omega)⟩,fun q hq hS=>hk q hq (fun e=>hS (.inl e))⟩,fun q hq=>.inl ?_⟩
 · rw [hs.mb,hs.main];exact hz.m.kept (hk _ hz.m.lt hz.gm.symm)
 · rw [hs.mb];exact hz.mB
 · rw [hs.mN,hs.r,hs.c];exact hz.mn
 · rw [hs.mN,hs.mK];exact hz.mkk
 · rw [hs.ob,hs.other];exact hz.o.kept (hk _ hz.o.lt hz.go.symm)
 · rw [hs.ob];exact hz.oB
 · rw [hs.oN,hs.r,hs.c];exact hz.on
 · rw [hs.oN,hs.oK];exact hz.okk
 · rw [hs.mb,hs.ob];exact hz.ne
 · rw [hs.pd,hs.PS,hs.p];exact hz.p.kept h.gr.size fun q hq=>hk q (hz.p.hi q hq) (fun e=>hz.gp (e ▸ hq))
 · rw [hs.bA,hs.bN,hs.bK,hs.table];exact hz.b.same fun q hq=>hk q (hz.b.own.lt q hq).2 (fun e=>hz.gb (e ▸ hq))
 · rw [hs.table];exact hz.bs
 · unfold CB at hq ⊢
   rw [hs.mb,hs.ob,hs.PS,hs.bA,hs.bN,hs.bK] at hq
   exact hq
end
theorem Tabs.out {B:Nat} {w w':World} (h:Tabs w) (hB:TabB B) (hb:Below B w w'):Tabs w':=by
 obtain ⟨t,fr,hs⟩:=h.st
 exact ⟨⟨fun c hc=>(hb.cell (by exact hB.1)).trans (h.u8.1 c hc),fun i hi=>⟨(hb.cell (by exact hB.2.1)).trans (h.u8.2 i hi).1,(hb.cell (by exact hB.2.1)).trans (h.u8.2 i hi).2⟩⟩,t,fr,(hb.block _ hB.2.2).trans hs⟩
theorem Cz.tab {B:Nat} {w:World} {g:Nat} {x:CT} (h:Cz B w g x):TabB B:=h.p.1
end Go.Proofs.YtlcipgdnpilkfaaGreatDoor
