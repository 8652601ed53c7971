/-
  Part 18 of what the laws of emul want: ParseRun.
-/
import Derived.Deep.AppendLies
import Derived.LoopTactic
import Derived.RegionTactic
import Derived.Deep.RegionHeld3
import Derived.Lib.SmallJoins
import Derived.Laws.OwnMore
import Derived.Deep.CutBlock
import Derived.Test.YtlcipgdnpilkfaaGreatDoorPo04
import Derived.Test.YtlcipgdnpilkfaaGreatDoorPo17
namespace Go.Proofs.YtlcipgdnpilkfaaGreatDoor
open Go.RowKit
abbrev Known:=Tabs
structure PaR where
 d:Nat
 st:Int
 m:Int
 P:Option Addr
 np:Nat
 cp:Nat
 N:List Int
 T:Option Addr
 nt:Nat
 ct:Nat
 X:List Int
 o:List Int
def paA (r:PaR):Array Value:=#[.pointer (some ⟨r.d,0,none⟩),.int .i64 r.st,.int .u8 r.m,.slice r.P r.np r.cp,.slice r.T r.nt r.ct]
structure Pm (B:Nat) (w:World) (g:Nat) (r:PaR):Prop where
 blk:w.heap[g]?=some (.cells (paA r) 137 (0,0))
 gB:B≤g
 dc:Dc w r.d r.o
 dB:B≤r.d
 num:w.ownsRow B 3 1 (.slice r.P r.np r.cp) r.np (r.N.map (Value.int .i64))
 txt:w.ownsRow B 5 1 (.slice r.T r.nt r.ct) r.nt (r.X.map (Value.int .u8))
def Blk (g:Nat) (r:PaR) (q:Nat):Prop:=q=g∨q=r.d∨(Value.slice r.P r.np r.cp).ownBlock=some q∨(Value.slice r.T r.nt r.ct).ownBlock=some q
def HasT (w:World) (q:Nat) (t:TypeId):Prop:=∃ cs fr,w.heap[q]?=some (.cells cs t fr)
theorem HasT.ne {w:World} {q q':Nat} {t t':TypeId} (h:HasT w q t) (h':HasT w q' t') (hne:t≠t'):q≠q':=by
 rintro rfl
 obtain ⟨cs,fr,h⟩:=h
 obtain ⟨cs',fr',h'⟩:=h'
 rw [h] at h'
 injection h' with h'
 injection h' with _ h'
 exact hne h'
theorem HasT.noA {w:World} {q:Nat} {t:TypeId} (h:HasT w q t) (hne:t≠62):NoA w q:=fun cs fr hh=>by
 obtain ⟨cs',fr',h⟩:=h
 rw [h] at hh
 injection hh with hh
 injection hh with _ hh
 exact hne hh
theorem row_has {w:World} {base:Nat} {e:TypeId} {size:Nat} {v:Value} {n:Nat} {xs:List Value} (h:w.ownsRow base e size v n xs):∀ q,v.ownBlock=some q→HasT w q e:=by
 intro q hq
 rcases h.2 with ⟨h1,_⟩ | ⟨g',cap,cur,hv,hb,hg',hr⟩
 · rw [h1] at hq;cases hq
 · rw [hv] at hq
   injection hq with hq
   exact ⟨_,_,by rw [← hq];exact hg'⟩
theorem row_off {w:World} {base:Nat} {e:TypeId} {size:Nat} {v:Value} {n:Nat} {xs:List Value} (h:w.ownsRow base e size v n xs) {q:Nat} {t:TypeId} (hq:HasT w q t) (hne:t≠e):v.ownBlock≠some q:=fun e1=>hq.ne (row_has h q e1) hne rfl
section
variable {B:Nat} {w w':World} {g:Nat} {r:PaR}
theorem Pm.hg (h:Pm B w g r):HasT w g 137:=⟨_,_,h.blk⟩
theorem Pm.hd (h:Pm B w g r):HasT w r.d 198:=by obtain ⟨s,hs,_⟩:=h.dc;exact ⟨_,_,hs⟩
theorem Pm.lo (h:Pm B w g r):∀ q,Blk g r q→B≤q:=by
 rintro q (rfl | rfl | hq | hq)
 · exact h.gB
 · exact h.dB
 · exact (h.num.lt q hq).1
 · exact (h.txt.lt q hq).1
theorem Pm.lt (h:Pm B w g r):g<w.heap.size:=(Array.getElem?_eq_some_iff.1 h.blk).1
theorem Pm.hi (h:Pm B w g r):∀ q,Blk g r q→q<w.heap.size:=by
 rintro q (rfl | rfl | hq | hq)
 · exact h.lt
 · exact h.dc.lt
 · exact (h.num.lt q hq).2
 · exact (h.txt.lt q hq).2
theorem Pm.na (h:Pm B w g r):∀ q,Blk g r q→NoA w q:=by
 rintro q (rfl | rfl | hq | hq)
 · exact h.hg.noA (by decide)
 · exact h.hd.noA (by decide)
 · exact (row_has h.num q hq).noA (by decide)
 · exact (row_has h.txt q hq).noA (by decide)
theorem Pm.gd (h:Pm B w g r):g≠r.d:=h.hg.ne h.hd (by decide)
theorem Dc.kept {d:Nat} {o:List Int} (h:Dc w d o) (hs:w'.heap[d]?=w.heap[d]?):Dc w' d o:=by obtain ⟨s,h1,h2⟩:=h;exact ⟨s,hs.trans h1,h2⟩
theorem Pm.kept (h:Pm B w g r) (hs:∀ q,Blk g r q→w'.heap[q]?=w.heap[q]?):Pm B w' g r :=
 ⟨(hs g (.inl rfl)).trans h.blk,h.gB,h.dc.kept (hs r.d (.inr (.inl rfl))),h.dB,row_same h.num fun q hq=>hs q (.inr (.inr (.inl hq))),row_same h.txt fun q hq=>hs q (.inr (.inr (.inr hq)))⟩
theorem Pm.below (h:Pm B w g r) (hb:Below w.heap.size w w'):Pm B w' g r:=h.kept fun q hq=>hb.block q (h.hi q hq)
theorem Pm.cell (h:Pm B w g r) (j:Nat) {v:Value} (hv:(paA r)[j]?=some v):w.cell? ⟨g,j,none⟩=some v:=by rw [cell_of_row _ _ j _ _ _ h.blk];exact hv
theorem Pm.c0 (h:Pm B w g r):w.cell? ⟨g,0,none⟩=some (.pointer (some ⟨r.d,0,none⟩)):=h.cell 0 rfl
theorem Pm.c1 (h:Pm B w g r):w.cell? ⟨g,1,none⟩=some (.int .i64 r.st):=h.cell 1 rfl
theorem Pm.c2 (h:Pm B w g r):w.cell? ⟨g,2,none⟩=some (.int .u8 r.m):=h.cell 2 rfl
theorem Pm.c3 (h:Pm B w g r):w.cell? ⟨g,3,none⟩=some (.slice r.P r.np r.cp):=h.cell 3 rfl
theorem Pm.c4 (h:Pm B w g r):w.cell? ⟨g,4,none⟩=some (.slice r.T r.nt r.ct):=h.cell 4 rfl
theorem Pm.fr (h:Pm B w g r) (j:Nat):w.frozen? ⟨g,j,none⟩=false:=frozen_of_row _ _ j _ _ h.blk
theorem Pm.off (h:Pm B w g r) (j:Nat) (v:Value):(∀ q,q≠g→(w.setCell ⟨g,j,none⟩ v).heap[q]?=w.heap[q]?)∧(w.setCell ⟨g,j,none⟩ v).heap[g]?=some (.cells ((paA r).setIfInBounds j v) 137 (0,0)) :=
 ⟨fun q hq=>heap_setCell_other w _ q v hq,heap_setCell_same w g j _ _ v h.blk⟩
theorem Pm.nums_off (h:Pm B w g r):(Value.slice r.P r.np r.cp).ownBlock≠some g:=row_off h.num h.hg (by decide)
theorem Pm.text_off (h:Pm B w g r):(Value.slice r.T r.nt r.ct).ownBlock≠some g:=row_off h.txt h.hg (by decide)
theorem Pm.set1 (h:Pm B w g r) (x:Int):Pm B (w.setCell ⟨g,1,none⟩ (.int .i64 x)) g { r with st:=x }:=by
 obtain ⟨h1,h2⟩:=h.off 1 (.int .i64 x)
 exact ⟨h2.trans rfl,h.gB,h.dc.kept (h1 _ h.gd.symm),h.dB,row_same h.num fun q hq=>h1 q (fun e=>h.nums_off (e ▸ hq)),row_same h.txt fun q hq=>h1 q (fun e=>h.text_off (e ▸ hq))⟩
theorem Pm.set2 (h:Pm B w g r) (x:Int):Pm B (w.setCell ⟨g,2,none⟩ (.int .u8 x)) g { r with m:=x }:=by
 obtain ⟨h1,h2⟩:=h.off 2 (.int .u8 x)
 exact ⟨h2.trans rfl,h.gB,h.dc.kept (h1 _ h.gd.symm),h.dB,row_same h.num fun q hq=>h1 q (fun e=>h.nums_off (e ▸ hq)),row_same h.txt fun q hq=>h1 q (fun e=>h.text_off (e ▸ hq))⟩
theorem Pm.set3 (h:Pm B w g r) {P:Option Addr} {np cp:Nat} {N:List Int} (hn:w.ownsRow B 3 1 (.slice P np cp) np (N.map (Value.int .i64))):Pm B (w.setCell ⟨g,3,none⟩ (.slice P np cp)) g { r with P:=P,np:=np,cp:=cp,N:=N }:=by
 obtain ⟨h1,h2⟩:=h.off 3 (.slice P np cp)
 exact ⟨h2.trans rfl,h.gB,h.dc.kept (h1 _ h.gd.symm),h.dB,row_same hn fun q hq=>h1 q (fun e=>row_off hn h.hg (by decide) (e ▸ hq)),row_same h.txt fun q hq=>h1 q (fun e=>h.text_off (e ▸ hq))⟩
theorem Pm.set4 (h:Pm B w g r) {T:Option Addr} {nt ct:Nat} {X:List Int} (hn:w.ownsRow B 5 1 (.slice T nt ct) nt (X.map (Value.int .u8))):Pm B (w.setCell ⟨g,4,none⟩ (.slice T nt ct)) g { r with T:=T,nt:=nt,ct:=ct,X:=X }:=by
 obtain ⟨h1,h2⟩:=h.off 4 (.slice T nt ct)
 exact ⟨h2.trans rfl,h.gB,h.dc.kept (h1 _ h.gd.symm),h.dB,row_same h.num fun q hq=>h1 q (fun e=>h.nums_off (e ▸ hq)),row_same hn fun q hq=>h1 q (fun e=>row_off hn h.hg (by decide) (e ▸ hq))⟩
theorem Pm.zero3 (h:Pm B w g r):Pm B (w.setCell ⟨g,3,none⟩ (.slice none 0 0)) g { r with P:=none,np:=0,cp:=0,N:=[] }:=h.set3 (N:=[]) (World.ownsRow_nil _ _ _ _)
theorem Pm.zero4 (h:Pm B w g r):Pm B (w.setCell ⟨g,4,none⟩ (.slice none 0 0)) g { r with T:=none,nt:=0,ct:=0,X:=[] }:=h.set4 (X:=[]) (World.ownsRow_nil _ _ _ _)
theorem Pm.dec (h:Pm B w g r) {o:List Int} (hg:w.grownBy w' (some r.d)) (hD:Dc w' r.d o):Pm B w' g { r with o:=o }:=by
 have h1:∀ q,q≠r.d→q<w.heap.size→w'.heap[q]?=w.heap[q]?:=fun q hq hl=>hg.block q hl (fun e=>hq (by injection e))
 exact ⟨(h1 g h.gd h.lt).trans h.blk,h.gB,hD,h.dB,row_same h.num fun q hq=>h1 q (fun e=>row_off h.num h.hd (by decide) (e ▸ hq)) (h.num.lt q hq).2,row_same h.txt fun q hq=>h1 q (fun e=>row_off h.txt h.hd (by decide) (e ▸ hq)) (h.txt.lt q hq).2⟩
theorem Pm.apn (h:Pm B w g r) {P:Option Addr} {np cp:Nat} {N:List Int} (hg:w.grownBy w' (Value.slice r.P r.np r.cp).ownBlock) (hn:w'.ownsRow B 3 1 (.slice P np cp) np (N.map (Value.int .i64))) :
  Pm B (w'.setCell ⟨g,3,none⟩ (.slice P np cp)) g { r with P:=P,np:=np,cp:=cp,N:=N }:=by
 have hb:w'.heap[g]?=some (.cells (paA r) 137 (0,0)):=(hg.block g h.lt (fun e=>h.nums_off e.symm)).trans h.blk
 have h2:(w'.setCell ⟨g,3,none⟩ (.slice P np cp)).heap[g]?=_:=heap_setCell_same w' g 3 _ _ _ hb
 have h1:∀ q,q≠g→(w'.setCell ⟨g,3,none⟩ (.slice P np cp)).heap[q]?=w'.heap[q]?:=fun q hq=>heap_setCell_other w' _ q _ hq
 have hgt:HasT w' g 137:=⟨_,_,hb⟩
 refine ⟨h2.trans rfl,h.gB,h.dc.kept ((h1 _ h.gd.symm).trans (hg.block _ h.dc.lt (fun e=>row_off h.num h.hd (by decide) e.symm))),h.dB,row_same hn fun q hq=>h1 q (fun e=>row_off hn hgt (by decide) (e ▸ hq)),row_same h.txt fun q hq=>(h1 q (fun e=>h.text_off (e ▸ hq))).trans (hg.block q (h.txt.lt q hq).2 (fun e=>row_off h.num (row_has h.txt q hq) (by decide) e.symm))⟩
theorem Pm.apt (h:Pm B w g r) {T:Option Addr} {nt ct:Nat} {X:List Int} (hg:w.grownBy w' (Value.slice r.T r.nt r.ct).ownBlock) (hn:w'.ownsRow B 5 1 (.slice T nt ct) nt (X.map (Value.int .u8))) :
  Pm B (w'.setCell ⟨g,4,none⟩ (.slice T nt ct)) g { r with T:=T,nt:=nt,ct:=ct,X:=X }:=by
 have hb:w'.heap[g]?=some (.cells (paA r) 137 (0,0)):=(hg.block g h.lt (fun e=>h.text_off e.symm)).trans h.blk
 have h2:(w'.setCell ⟨g,4,none⟩ (.slice T nt ct)).heap[g]?=_:=heap_setCell_same w' g 4 _ _ _ hb
 have h1:∀ q,q≠g→(w'.setCell ⟨g,4,none⟩ (.slice T nt ct)).heap[q]?=w'.heap[q]?:=fun q hq=>heap_setCell_other w' _ q _ hq
 have hgt:HasT w' g 137:=⟨_,_,hb⟩
 refine ⟨h2.trans rfl,h.gB,h.dc.kept ((h1 _ h.gd.symm).trans (hg.block _ h.dc.lt (fun e=>row_off h.txt h.hd (by decide) e.symm))),h.dB,row_same h.num fun q hq=>(h1 q (fun e=>h.nums_off (e ▸ hq))).trans (hg.block q (h.num.lt q hq).2 (fun e=>row_off h.txt (row_has h.num q hq) (by decide) e.symm)),row_same hn fun q hq=>h1 q (fun e=>row_off hn hgt (by decide) (e ▸ hq))⟩
theorem Pm.dig (h:Pm B w g r) {b j:Nat} (hP:r.P=some ⟨b,0,none⟩) (hj:j<r.np) (x:Int):Pm B (w.setCell ⟨b,j,none⟩ (.int .i64 x)) g { r with N:=r.N.set j x }:=by
 have hl:r.N.length=r.np:=by have:=h.num.1;simpa using this
 have hob:(Value.slice r.P r.np r.cp).ownBlock=some b:=by rw [hP];rfl
 have hbt:=row_has h.num b hob
 have h1:∀ q,q≠b→(w.setCell ⟨b,j,none⟩ (.int .i64 x)).heap[q]?=w.heap[q]?:=fun q hq=>heap_setCell_other w _ q _ hq
 refine ⟨(h1 g (h.hg.ne hbt (by decide))).trans h.blk,h.gB,h.dc.kept (h1 _ (h.hd.ne hbt (by decide))),h.dB,?_,row_same h.txt fun q hq=>h1 q ((row_has h.txt q hq).ne hbt (by decide))⟩
 show (w.setCell ⟨b,j,none⟩ (.int .i64 x)).ownsRow B 3 1 (.slice r.P r.np r.cp) r.np ((r.N.set j x).map (Value.int .i64))
 rcases h.num.2 with ⟨h3,h4⟩ | ⟨g',cap,cur,hv,hb,hg,hle,hm,hs,ht⟩
 · omega
 · rw [hP] at hv
   injection hv with hA hn hc
   injection hA with hA
   injection hA with hA
   subst hA
   rw [hP]
   refine ⟨by simp [hl],.inr ⟨b,cap,cur.setIfInBounds j (.int .i64 x),by rw [hc],hb,?_,hle,hm,by simpa using hs,?_⟩⟩
   · exact heap_setCell_same w b j _ _ _ hg
   · rw [Array.toList_setIfInBounds,List.take_set,ht,List.map_set]
end
structure Rel (r:PaR) (s:PaS):Prop where
 st:r.st=(s.st:Int)
 m:s.st=1∨s.st=3→r.m=s.m
 n1:s.st=1→r.N=[]
 x1:s.st=1→r.X=[]
 n3:s.st=3→r.N.length=min s.ps.length 17∧r.N.take 16=s.ps.take 16∧psOk r.N
 x5:s.st=5→r.X=s.tx.take 257
 o:r.o=s.dec
 op:Op s.dec
 od:s.st≠0→s.dec=[]
 le:s.st≤6
def Pz (B:Nat) (w:World) (g:Nat) (s:PaS) (S:Nat→Prop):Prop:=(2<B∧3<B∧0<B)∧∃ r,Pm B w g r∧Rel r s∧S=Blk g r
section
variable {B:Nat} {w w':World} {g:Nat} {s:PaS} {S:Nat→Prop}
theorem Pz.lo (h:Pz B w g s S):∀ q,S q→B≤q:=by obtain ⟨_,r,h,_,rfl⟩:=h;exact h.lo
theorem Pz.hi (h:Pz B w g s S):∀ q,S q→q<w.heap.size:=by obtain ⟨_,r,h,_,rfl⟩:=h;exact h.hi
theorem Pz.na (h:Pz B w g s S):∀ q,S q→NoA w q:=by obtain ⟨_,r,h,_,rfl⟩:=h;exact h.na
theorem Pz.kept (h:Pz B w g s S) (_:w.heap.size≤w'.heap.size) (hs:∀ q,S q→w'.heap[q]?=w.heap[q]?):Pz B w' g s S:=by
 obtain ⟨ht,r,h,hr,rfl⟩:=h
 exact ⟨ht,r,h.kept hs,hr,rfl⟩
end
/-! ### What a step leaves -/
structure Mid (B:Nat) (g:Nat) (S:Nat→Prop) (w w':World) (r':PaR):Prop where
 pm:Pm B w' g r'
 out:OutB B S w w'
 sub:∀ q,Blk g r' q→S q∨w.heap.size≤q
section
variable {B:Nat} {g:Nat} {S:Nat→Prop} {w w' w2:World} {r r':PaR}
theorem OutB.refl:OutB B S w w:=⟨Below.refl _ _,fun _ _ _=>rfl⟩
theorem Mid.refl (h:Pm B w g r):Mid B g (Blk g r) w w r:=⟨h,OutB.refl,fun _ hq=>.inl hq⟩
theorem Mid.on (h:Mid B g S w w' r) (hB:B≤w.heap.size) (hp:Pm B w2 g r') (ho:w'.os=w2.os∧w'.tape=w2.tape∧w'.output=w2.output) (hs:w'.heap.size≤w2.heap.size) (hk:∀ q,q<w'.heap.size→¬ Blk g r q→w2.heap[q]?=w'.heap[q]?)
  (hsub:∀ q,Blk g r' q→Blk g r q∨w'.heap.size≤q):Mid B g S w w2 r':=by
 have hsz:=h.out.bel.size
 have key:∀ q,Blk g r q→S q∨w.heap.size≤q:=h.sub
 refine ⟨hp,⟨⟨?_,?_,?_,by omega,fun k hk'=>?_⟩,fun q hq hS=>?_⟩,fun q hq=>?_⟩
 · exact ho.1.symm.trans h.out.bel.os
 · exact ho.2.1.symm.trans h.out.bel.tape
 · exact ho.2.2.symm.trans h.out.bel.output
 · rw [hk k (by omega) (fun hb=>by have:=h.pm.lo k hb;omega)];exact h.out.bel.block k hk'
 · rw [hk q (by omega) (fun hb=>by rcases key q hb with h1 | h1;exact hS h1;omega)];exact h.out.keep q hq hS
 · rcases hsub q hq with h1 | h1
   · exact key q h1
   · exact .inr (by omega)
theorem Mid.set1 (h:Mid B g S w w' r) (hB:B≤w.heap.size) (x:Int):Mid B g S w (w'.setCell ⟨g,1,none⟩ (.int .i64 x)) { r with st:=x } :=
 h.on hB (h.pm.set1 x) ⟨rfl,rfl,rfl⟩ (by simp) (fun q _ hq=>heap_setCell_other w' _ q _ (fun e=>hq (.inl e))) (fun _ hq=>.inl hq)
theorem Mid.set2 (h:Mid B g S w w' r) (hB:B≤w.heap.size) (x:Int):Mid B g S w (w'.setCell ⟨g,2,none⟩ (.int .u8 x)) { r with m:=x } :=
 h.on hB (h.pm.set2 x) ⟨rfl,rfl,rfl⟩ (by simp) (fun q _ hq=>heap_setCell_other w' _ q _ (fun e=>hq (.inl e))) (fun _ hq=>.inl hq)
theorem Mid.zero3 (h:Mid B g S w w' r) (hB:B≤w.heap.size):Mid B g S w (w'.setCell ⟨g,3,none⟩ (.slice none 0 0)) { r with P:=none,np:=0,cp:=0,N:=[] } :=
 h.on hB h.pm.zero3 ⟨rfl,rfl,rfl⟩ (by simp) (fun q _ hq=>heap_setCell_other w' _ q _ (fun e=>hq (.inl e))) (fun q hq=>by
  rcases hq with hq | hq | hq | hq
  · exact .inl (.inl hq)
  · exact .inl (.inr (.inl hq))
  · cases hq
  · exact .inl (.inr (.inr (.inr hq))))
theorem Mid.zero4 (h:Mid B g S w w' r) (hB:B≤w.heap.size):Mid B g S w (w'.setCell ⟨g,4,none⟩ (.slice none 0 0)) { r with T:=none,nt:=0,ct:=0,X:=[] } :=
 h.on hB h.pm.zero4 ⟨rfl,rfl,rfl⟩ (by simp) (fun q _ hq=>heap_setCell_other w' _ q _ (fun e=>hq (.inl e))) (fun q hq=>by
  rcases hq with hq | hq | hq | hq
  · exact .inl (.inl hq)
  · exact .inl (.inr (.inl hq))
  · exact .inl (.inr (.inr (.inl hq)))
  · cases hq)
theorem Mid.below (h:Mid B g S w w' r) (hB:B≤w.heap.size) (hb:Below w'.heap.size w' w2):Mid B g S w w2 r :=
 h.on hB (h.pm.below hb) ⟨hb.os.symm,hb.tape.symm,hb.output.symm⟩ hb.size (fun q hq _=>hb.block q hq) (fun _ hq=>.inl hq)
theorem Mid.dec (h:Mid B g S w w' r) (hB:B≤w.heap.size) {o:List Int} (hg:w'.grownBy w2 (some r.d)) (hD:Dc w2 r.d o):Mid B g S w w2 { r with o:=o } :=
 h.on hB (h.pm.dec hg hD) ⟨hg.os.symm,hg.tape.symm,hg.output.symm⟩ hg.size (fun q hq hn=>hg.block q hq (fun e=>hn (.inr (.inl (by injection e))))) (fun _ hq=>.inl hq)
theorem Mid.dig (h:Mid B g S w w' r) (hB:B≤w.heap.size) {b j:Nat} (hP:r.P=some ⟨b,0,none⟩) (hj:j<r.np) (x:Int):Mid B g S w (w'.setCell ⟨b,j,none⟩ (.int .i64 x)) { r with N:=r.N.set j x } :=
 h.on hB (h.pm.dig hP hj x) ⟨rfl,rfl,rfl⟩ (by simp) (fun q _ hq=>heap_setCell_other w' _ q _ (fun e=>hq (.inr (.inr (.inl (by rw [hP,e];rfl)))))) (fun _ hq=>.inl hq)
theorem Mid.apn (h:Mid B g S w w' r) (hB:B≤w.heap.size) {b np cp:Nat} {N:List Int} (hg:w'.grownBy w2 (Value.slice r.P r.np r.cp).ownBlock) (hn:w2.ownsRow B 3 1 (.slice (some ⟨b,0,none⟩) np cp) np (N.map (Value.int .i64)))
  (hl:(Value.slice r.P r.np r.cp).ownBlock=some b∨w'.heap.size≤b):Mid B g S w (w2.setCell ⟨g,3,none⟩ (.slice (some ⟨b,0,none⟩) np cp)) { r with P:=some ⟨b,0,none⟩,np:=np,cp:=cp,N:=N } :=
 h.on hB (h.pm.apn hg hn) ⟨hg.os.symm,hg.tape.symm,hg.output.symm⟩ (by have:=hg.size;simpa using this)
  (fun q hq hn=>(heap_setCell_other w2 _ q _ (fun e=>hn (.inl e))).trans (hg.block q hq (fun e=>hn (.inr (.inr (.inl e.symm))))))
  (fun q hq=>by
   rcases hq with hq | hq | hq | hq
   · exact .inl (.inl hq)
   · exact .inl (.inr (.inl hq))
   · have e:b=q:=by injection hq
     rcases hl with hl | hl
     · exact .inl (.inr (.inr (.inl (by rw [hl,e]))))
     · exact .inr (by omega)
   · exact .inl (.inr (.inr (.inr hq))))
theorem Mid.apt (h:Mid B g S w w' r) (hB:B≤w.heap.size) {b nt ct:Nat} {X:List Int} (hg:w'.grownBy w2 (Value.slice r.T r.nt r.ct).ownBlock) (hn:w2.ownsRow B 5 1 (.slice (some ⟨b,0,none⟩) nt ct) nt (X.map (Value.int .u8)))
  (hl:(Value.slice r.T r.nt r.ct).ownBlock=some b∨w'.heap.size≤b):Mid B g S w (w2.setCell ⟨g,4,none⟩ (.slice (some ⟨b,0,none⟩) nt ct)) { r with T:=some ⟨b,0,none⟩,nt:=nt,ct:=ct,X:=X } :=
 h.on hB (h.pm.apt hg hn) ⟨hg.os.symm,hg.tape.symm,hg.output.symm⟩ (by have:=hg.size;simpa using this)
  (fun q hq hn=>(heap_setCell_other w2 _ q _ (fun e=>hn (.inl e))).trans (hg.block q hq (fun e=>hn (.inr (.inr (.inr e.symm))))))
  (fun q hq=>by
   rcases hq with hq | hq | hq | hq
   · exact .inl (.inl hq)
   · exact .inl (.inr (.inl hq))
   · exact .inl (.inr (.inr (.inl hq)))
   · have e:b=q:=by injection hq
     rcases hl with hl | hl
     · exact .inl (.inr (.inr (.inr (by rw [hl,e]))))
     · exact .inr (by omega))
theorem Mid.grow (h:Mid B g S w w' r) (hB:B≤w.heap.size) {base:Nat} {v:Value} {n:Nat} {xs:List Value} (hv:w'.ownsRow base 62 6 v n xs) (hb:w.heap.size≤base) (hg:w'.grownBy w2 v.ownBlock):Mid B g S w w2 r:=by
 have hlo:∀ q,v.ownBlock=some q→w.heap.size≤q:=fun q hq=>Nat.le_trans hb (hv.lt q hq).1
 refine ⟨h.pm.kept fun q hq=>hg.block q (h.pm.hi q hq) (fun e=>(row_act hv q e.symm).2 (h.pm.na q hq)),⟨h.out.bel.grown hg (by have:=h.out.bel.size;omega) (fun q hq=>by have:=hlo q hq;omega),fun q hq hS=>?_⟩,h.sub⟩
 rw [hg.block q (by have:=h.out.bel.size;omega) (fun e=>by have:=hlo q e.symm;omega)]
 exact h.out.keep q hq hS
end
def FdNew (w:World) (A:Option Addr) (R:List AcR):Prop :=
 (∀ ad,A=some ad→0<R.length→w.heap.size≤ad.block)∧∀ x∈R,(∀ ad,x.P=some ad→0<x.np→w.heap.size≤ad.block)∧(∀ ad,x.T=some ad→0<x.nt→w.heap.size≤ad.block)
def FdPost (B g:Nat) (S:Nat→Prop) (L:List AcS) (s':PaS) (w:World) (e:Ending) (w':World):Prop :=
 ∃ A c R S',e=.returned (.slice A R.length c)∧Ats w' A R.length R∧acts R=L∧Pz B w' g s' S'∧OutB B S w w'∧(∀ q,S' q→S q∨w.heap.size≤q)∧(∀ x∈R,Ap w' S' x)∧FdNew w A R∧(∀ ad,A=some ad→0<R.length→¬ S' ad.block)
section
variable {B g:Nat} {S:Nat→Prop} {w w':World} {r:PaR} {s:PaS}
def Bare (R:List AcR):Prop:=∀ x∈R,(x.np=0∧x.a.ps=[])∧(x.nt=0∧x.a.tx=[])∧x.np≤x.cp∧x.cp≤maxLen∧x.nt≤x.ct∧x.ct≤maxLen
theorem Bare.rd {R:List AcR} (h:Bare R) (w:World):∀ x∈R,RdA w x:=fun x hx=>by
 obtain ⟨⟨h1,h2⟩,⟨h3,h4⟩,h5,h6,h7,h8⟩:=h x hx
 exact ⟨by rw [h1,h2];exact Ik.nil _ _ _,by rw [h3,h4];exact Sb.nil _ _,h5,h6,h7,h8⟩
theorem Bare.ap {R:List AcR} (h:Bare R) (w:World) (S:Nat→Prop):∀ x∈R,Ap w S x:=fun x hx=>by
 obtain ⟨⟨h1,_⟩,⟨h3,_⟩,_⟩:=h x hx
 exact ⟨fun _ _ h0=>by omega,fun _ _ h0=>by omega⟩
theorem FdPost.none (ht:2<B∧3<B∧0<B) (h:Mid B g S w w' r) (hr:Rel r s):FdPost B g S [] s w (.returned (.slice none 0 0)) w' :=
 ⟨Option.none,0,[],Blk g r,rfl,⟨Vs.nil _ _,fun x hx=>by cases hx⟩,rfl,⟨ht,r,h.pm,hr,rfl⟩,h.out,h.sub,(fun x hx=>by cases hx),⟨(fun ad e=>by cases e),fun x hx=>by cases hx⟩,fun ad e=>by cases e⟩
theorem FdPost.bare (ht:2<B∧3<B∧0<B) (h:Mid B g S w w' r) (hr:Rel r s) {A:Option Addr} {n c:Nat} {R:List AcR} (hv:Vs acV w' A n R) (hR:Bare R) (ha:∀ ad,A=some ad→w.heap.size≤ad.block) (hx:∀ ad,A=some ad→¬ Blk g r ad.block):FdPost B g S (acts R) s w (.returned (.slice A n c)) w':=by
 obtain rfl:=hv.len
 exact ⟨A,c,R,Blk g r,rfl,⟨hv,hR.rd w'⟩,rfl,⟨ht,r,h.pm,hr,rfl⟩,h.out,h.sub,hR.ap _ _,⟨(fun ad e _=>ha ad e),fun x hx=>⟨(fun ad e hn=>by have:=(hR x hx).1.1;omega),fun ad e hn=>by have:=(hR x hx).2.1.1;omega⟩⟩,fun ad e _=>hx ad e⟩
end
open Go.RowKit
/-! ### Acts in new memory -/
structure FrA (H:Nat) (w:World) (A:Option Addr) (R:List AcR):Prop where
 ats:Ats w A R.length R
 a:∀ ad,A=some ad→0<R.length→H≤ad.block
 p:∀ x∈R,∀ ad,x.P=some ad→0<x.np→H≤ad.block∧NoA w ad.block
 t:∀ x∈R,∀ ad,x.T=some ad→0<x.nt→H≤ad.block∧NoA w ad.block
section
variable {H:Nat} {w w':World} {A:Option Addr} {R:List AcR}
theorem FrA.nil (H:Nat) (w:World):FrA H w none []:=⟨⟨Vs.nil _ _,fun x hx=>by cases hx⟩,(fun _ e=>by cases e),(fun x hx=>by cases hx),(fun x hx=>by cases hx)⟩
theorem FrA.grown (h:FrA H w A R) {g:Nat} (hg:w.grownBy w' (some g)) (hH:g<H):FrA H w' A R:=by
 have one:∀ ad:Addr,H≤ad.block→ad.block<w.heap.size→w'.heap[ad.block]?=w.heap[ad.block]?:=fun ad h1 h2=>hg.block _ h2 (fun e=>by injection e;omega)
 refine ⟨⟨h.ats.row.grown hg fun ad e hn e2=>by have:=h.a ad e hn;injection e2;omega,fun x hx=>?_⟩,h.a,fun x hx ad e hn=>?_,fun x hx ad e hn=>?_⟩
 · have hr:=h.ats.rd x hx
   exact ⟨hr.p.grown hg fun ad e hn e2=>by have:=(h.p x hx ad e hn).1;injection e2;omega,hr.t.keep hg.size fun p hn hA hp=>by
    cases hT:x.T with
    | none=>rw [hT] at hA;cases hA
    | some ad =>
     rw [hT] at hA
     have hA:ad.block=p.block:=by injection hA
     exact World.cell?_of_block (hg.block p.block hp (fun e2=>by have:=(h.t x hx ad hT hn).1;injection e2;omega)),hr.lp,hr.mp,hr.lt,hr.mt⟩
 · obtain ⟨ad',e',hb,_⟩:=(h.ats.rd x hx).p.at_ hn
   obtain rfl:ad=ad':=by rw [e] at e';injection e'
   exact ⟨(h.p x hx ad e hn).1,(h.p x hx ad e hn).2.same (one ad (h.p x hx ad e hn).1 hb)⟩
 · obtain ⟨ad',e',hb,_⟩:=(h.ats.rd x hx).t.at_ hn
   obtain rfl:ad=ad':=by rw [e] at e';injection e'
   exact ⟨(h.t x hx ad e hn).1,(h.t x hx ad e hn).2.same (one ad (h.t x hx ad e hn).1 hb)⟩
theorem FrA.ap (h:FrA H w A R) {S:Nat→Prop} (hS:∀ q,S q→q<H):∀ x∈R,Ap w S x:=fun x hx =>
 ⟨fun ad e hn=>⟨fun hq=>by have:=hS _ hq;have:=(h.p x hx ad e hn).1;omega,(h.p x hx ad e hn).2⟩,fun ad e hn=>⟨fun hq=>by have:=hS _ hq;have:=(h.t x hx ad e hn).1;omega,(h.t x hx ad e hn).2⟩⟩
theorem FrA.bare (hv:Vs acV w A R.length R) (hR:Bare R) (ha:∀ ad,A=some ad→0<R.length→H≤ad.block):FrA H w A R :=
 ⟨⟨hv,hR.rd w⟩,ha,fun x hx ad e hn=>by have:=(hR x hx).1.1;omega,fun x hx ad e hn=>by have:=(hR x hx).2.1.1;omega⟩
theorem FdPost.of {B g:Nat} {S:Nat→Prop} {w0:World} {r:PaR} {s:PaS} (ht:2<B∧3<B∧0<B) (h:Mid B g S w0 w r) (hr:Rel r s) (hf:FrA H w A R) (hH:w0.heap.size≤H) (hS:∀ q,Blk g r q→q<H) {c:Nat}:FdPost B g S (acts R) s w0 (.returned (.slice A R.length c)) w :=
 ⟨A,c,R,Blk g r,rfl,hf.ats,rfl,⟨ht,r,h.pm,hr,rfl⟩,h.out,h.sub,hf.ap hS,⟨(fun ad e hn=>Nat.le_trans hH (hf.a ad e hn)),fun x hx=>⟨fun ad e hn=>Nat.le_trans hH (hf.p x hx ad e hn).1,fun ad e hn=>Nat.le_trans hH (hf.t x hx ad e hn).1⟩⟩,fun ad e hn hq=>by have:=hS _ hq;have:=hf.a ad e hn;omega⟩
theorem FdPost.ofn {B g:Nat} {S:Nat→Prop} {w0:World} {r:PaR} {s:PaS} (ht:2<B∧3<B∧0<B) (h:Mid B g S w0 w r) (hr:Rel r s) (hf:FrA H w A R) (hH:w0.heap.size≤H) (hS:∀ q,Blk g r q→q<H) {n c:Nat} (hn:R.length=n):FdPost B g S (acts R) s w0 (.returned (.slice A n c)) w:=by
 subst hn
 exact FdPost.of ht h hr hf hH hS
end
def prR (zs:List Int):List AcR:=zs.map fun z=>⟨acPrint z,none,0,0,none,0,0⟩
theorem acts_prR (zs:List Int):acts (prR zs)=prS zs:=by simp [acts,prR,prS]
theorem prR_len (zs:List Int):(prR zs).length=zs.length:=by simp [prR]
theorem prR_bare (zs:List Int):Bare (prR zs):=fun x hx=>by
 obtain ⟨z,_,rfl⟩:=List.mem_map.1 hx
 exact ⟨⟨rfl,rfl⟩,⟨rfl,rfl⟩,Nat.le_refl _,by simp only;unfold maxLen;omega,Nat.le_refl _,by simp only;unfold maxLen;omega⟩
theorem lit_ac (w:World) (R:List AcR):Vs acV (w.alloc (.cells (rowV acV R).toArray 62)) (some ⟨w.heap.size,0,none⟩) R.length R:=(made_rw (f:=acV) w 62 R).vs
/-! ### Marks and openers -/
theorem isBetween_any (b:Int) (w:World):Calls Tryz.prog 217 #[.int .u8 b] w fun e w'=>e=.returned (.bool (decide (32≤b∧b<48)))∧w=w':=by
 by_cases h1:32≤b
 · by_cases h2:b<48
   · rw [decide_eq_true ⟨h1,h2⟩]
     go_enter Tryz.func217,Tryz.ntmps217
     go_wp2_with fail
     go_ret
     exact ⟨rfl,rfl⟩
   · rw [decide_eq_false (fun h=>h2 h.2)]
     go_enter Tryz.func217,Tryz.ntmps217
     go_wp2_with fail
     go_ret
     exact ⟨rfl,rfl⟩
 · rw [decide_eq_false (fun h=>h1 h.1)]
   go_enter Tryz.func217,Tryz.ntmps217
   go_wp2_with fail
   go_ret
   exact ⟨rfl,rfl⟩
def openS (b:Int):Int:=if b=91 then 3 else if b=93 then 5 else if b=80∨b=88∨b=94∨b=95 then 6 else 0
set_option maxHeartbeats 1600000 in
theorem opened_any (b:Int) (w:World):Calls Tryz.prog 214 #[.int .u8 b] w fun e w'=>e=.returned (.int .i64 (openS b))∧w=w':=by
 obtain ⟨K,hK⟩:∃ K,openS b=K:=⟨_,rfl⟩
 rw [hK]
 have HK:=Lib.hid hK
 clear hK
 by_cases h1:b=91
 · subst h1
   obtain rfl:(3:Int)=K:=HK.out
   go_enter Tryz.func214,Tryz.ntmps214
   go_wp2_with fail
   go_ret
   exact ⟨rfl,rfl⟩
 by_cases h2:b=93
 · subst h2
   obtain rfl:(5:Int)=K:=HK.out
   go_enter Tryz.func214,Tryz.ntmps214
   go_wp2_with fail
   go_ret
   exact ⟨rfl,rfl⟩
 by_cases h3:b=80
 · subst h3
   obtain rfl:(6:Int)=K:=HK.out
   go_enter Tryz.func214,Tryz.ntmps214
   go_wp2_with fail
   go_ret
   exact ⟨rfl,rfl⟩
 by_cases h4:b=88
 · subst h4
   obtain rfl:(6:Int)=K:=HK.out
   go_enter Tryz.func214,Tryz.ntmps214
   go_wp2_with fail
   go_ret
   exact ⟨rfl,rfl⟩
 by_cases h5:b=94
 · subst h5
   obtain rfl:(6:Int)=K:=HK.out
   go_enter Tryz.func214,Tryz.ntmps214
   go_wp2_with fail
   go_ret
   exact ⟨rfl,rfl⟩
 by_cases h6:b=95
 · subst h6
   obtain rfl:(6:Int)=K:=HK.out
   go_enter Tryz.func214,Tryz.ntmps214
   go_wp2_with fail
   go_ret
   exact ⟨rfl,rfl⟩
 have hk:K=0:=by rw [← HK.out];simp [openS,h1,h2,h3,h4,h5,h6]
 subst hk
 go_enter Tryz.func214,Tryz.ntmps214
 go_wp2_with fail
 go_ret
 exact ⟨rfl,rfl⟩
theorem cloneB_any {w:World} {A:Option Addr} {n c:Nat} {zs:List Int} (h:Sb w A n zs) (hn:n≤140737488355328) :
  Calls Tryz.prog 211 #[.slice A n c] w fun e w'=>∃ A' c',e=.returned (.slice A' n c')∧w'.ownsRow w.heap.size 5 1 (.slice A' n c') n (zs.map (Value.int .u8))∧Below w.heap.size w w':=by
 have hrun:=fun (w:World)=>Lib.run_eql_slice_nil (P:=Tryz.prog) w 36 5 A n c 0 0 Tryz.underlying36
 cases A with
 | none =>
  have hz:n=0:=by
   rcases Nat.eq_zero_or_pos n with h0 | h0
   · exact h0
   · obtain ⟨ad,h1⟩:=h.addr h0
     cases h1
  subst hz
  obtain rfl:zs=[]:=List.eq_nil_of_length_eq_zero h.len
  clear h
  go_enter Tryz.func211,Tryz.ntmps211
  go_wp2_with fail
  go_ret
  exact ⟨none,0,rfl,World.ownsRow_nil _ _ _ _,Below.refl _ _⟩
 | some ad =>
  have H:=Lib.hid (h.alloc (.cells #[] 5))
  clear h
  go_enter Tryz.func211,Tryz.ntmps211
  go_wp2_with (at_builtin;refine wpList_app _ rfl _ _ 36 rfl w.heap.size 5 Tryz.underlying36 info8 (.slice (some ⟨w.heap.size,0,none⟩) 0 0) 0 [] rfl (World.ownsRow_lit w #[] 0 (Nat.le_refl _) (by unfold maxLen;omega) rfl) (some ad) n c zs rfl H.out (by omega) (by simp) ?_;intro A' c' w1 hown hg;simp only [Nat.zero_add,List.nil_append] at hown)
  have X:=Lib.hid (And.intro hown (((Below.refl _ _).alloc (Nat.le_refl _) _).grown hg (by simp) (by intro k hk;have:w.heap.size=k:=(by simpa [Value.ownBlock] using hk);omega)))
  clear hown hg
  go_ret
  exact ⟨A',c',rfl,X.out.1,X.out.2⟩
theorem cloneI_any {w:World} {A:Option Addr} {n c:Nat} {zs:List Int} (h:Ik .i64 w A n zs) (hn:n≤1000000) :
  Calls Tryz.prog 250 #[.slice A n c] w fun e w'=>∃ A' c',e=.returned (.slice A' n c')∧w'.ownsRow w.heap.size 3 1 (.slice A' n c') n (zs.map (Value.int .i64))∧Below w.heap.size w w':=by
 have hrun:=fun (w:World)=>Lib.run_eql_slice_nil (P:=Tryz.prog) w 60 3 A n c 0 0 Tryz.underlying60
 cases A with
 | none =>
  have hz:n=0:=by
   rcases Nat.eq_zero_or_pos n with h0 | h0
   · exact h0
   · obtain ⟨ad,h1,_⟩:=h.at_ h0
     cases h1
  subst hz
  obtain rfl:zs=[]:=List.eq_nil_of_length_eq_zero h.len
  clear h
  go_enter Tryz.func250,Tryz.ntmps250
  go_wp2_with fail
  go_ret
  exact ⟨none,0,rfl,World.ownsRow_nil _ _ _ _,Below.refl _ _⟩
 | some ad =>
  have H:=Lib.hid (h.below ((Below.refl _ _).alloc (Nat.le_refl _) (.cells #[] 3)))
  clear h
  go_enter Tryz.func250,Tryz.ntmps250
  go_wp2_with (at_builtin;refine wpList_appI _ rfl _ _ 60 rfl w.heap.size 3 .i64 8 (by omega) Tryz.underlying60 infoInt3 (.slice (some ⟨w.heap.size,0,none⟩) 0 0) 0 [] rfl (World.ownsRow_lit w #[] 0 (Nat.le_refl _) (by unfold maxLen;omega) rfl) (some ad) n c n (by omega) zs rfl H.out hn (by simp) ?_;intro A' c' w1 hown hg;simp only [List.nil_append] at hown)
  have X:=Lib.hid (And.intro hown (((Below.refl _ _).alloc (Nat.le_refl _) _).grown hg (by simp) (by intro k hk;have:w.heap.size=k:=(by simpa [Value.ownBlock] using hk);omega)))
  clear hown hg
  go_ret
  exact ⟨A',c',rfl,X.out.1,X.out.2⟩
/-! ### The acts that print runes -/
set_option maxHeartbeats 1600000 in
theorem prints_any {w:World} {A:Option Addr} {n c:Nat} {zs:List Int} (h:Ik .i32 w A n zs) (hn:n≤1000) :
  Calls Tryz.prog 147 #[.slice A n c] w fun e w'=>∃ A' c',e=.returned (.slice A' n c')∧w'.ownsRow w.heap.size 62 6 (.slice A' n c') n (rowV acV (prR zs))∧Below w.heap.size w w':=by
 have H:=Lib.hid h
 clear h
 go_enter Tryz.func147,Tryz.ntmps147
 go_wp2_with fail
 go_loopw [3,8] (fun v i wr=>∃ (k:Nat),k≤n∧i=.int .i64 k∧wr.ownsRow w.heap.size 62 6 v k (rowV acV (prR (zs.take k)))∧Below w.heap.size w wr) (fun _ i _=>n-(intOf i).toNat)
 case atStart=>exact ⟨0,Nat.zero_le _,rfl,World.ownsRow_nil _ _ _ _,Below.refl _ _⟩
 case round =>
  obtain ⟨k,hk,rfl,hv,hb⟩:=hrel
  obtain ⟨Av,cv,rfl,_,_⟩:=own_shape hv
  have X:=Lib.hid (And.intro hv hb)
  clear hv hb
  by_cases hlt:k<n
  · have hs:=H.out.below X.out.2
    obtain ⟨ad,hA⟩:∃ ad,A=some ad:=by obtain ⟨ad,e,_⟩:=hs.at_ (by omega);exact ⟨ad,e⟩
    subst hA
    have hcell:=hs.cell hlt
    have hkl:k<zs.length:=by rw [hs.len];exact hlt
    obtain ⟨z,hz⟩:∃ z,z=zs.getD k 0:=⟨_,rfl⟩
    rw [← hz] at hcell
    have HZ:=Lib.hid (show prR (zs.take (k+1))=prR (zs.take k) ++ [⟨acPrint z,none,0,0,none,0,0⟩] by rw [List.take_succ_eq_append_getElem hkl,hz,getD_lt hkl];exact List.map_append)
    clear hz hs hkl
    have hl:=Lib.hid (lit_ac wr [⟨acPrint z,none,0,0,none,0,0⟩])
    have ho:=Lib.hid (X.out.1.alloc (.cells (rowV acV [⟨acPrint z,none,0,0,none,0,0⟩]).toArray 62))
    have hw:=Lib.hid (X.out.2.alloc X.out.2.size (.cells (rowV acV [⟨acPrint z,none,0,0,none,0,0⟩]).toArray 62))
    go_wp2_with (refine wpList_app_V _ rfl (.tmp 12) (.tmp 15) 59 rfl acV_len one_ac w.heap.size 62 _ 64 (by omega) Tryz.underlying59 infoAc rfl (by omega) (.slice Av k cv) k (prR (zs.take k)) rfl ho.out (some ⟨wr.heap.size,0,none⟩) 1 1 (k+1) rfl [⟨acPrint z,none,0,0,none,0,0⟩] rfl hl.out (by omega) hw.out.size ?_)
    intro A6 c6 w6 o6 g6
    rw [← HZ.out] at o6
    have Z6:=Lib.hid (And.intro o6 (hw.out.grown g6 hw.out.size (fun q hq=>(X.out.1.lt q hq).1)))
    clear o6 g6 X hl ho hw
    go_wp2_with fail
    go_roundw
    case rel=>exact ⟨k+1,by omega,by go_num,Z6.out.1,Z6.out.2⟩
    case measure=>simp [intOf];omega
  · obtain rfl:k=n:=by omega
    have hall:zs.take k=zs:=List.take_of_length_le (by rw [H.out.len];exact Nat.le_refl _)
    have Y:Hid (wr.ownsRow w.heap.size 62 6 (.slice Av k cv) k (rowV acV (prR zs))∧Below w.heap.size w wr):=Lib.hid (by have:=X.out;rw [hall] at this;exact this)
    clear X hall H
    go_wp2_with fail
    go_ret
    exact ⟨Av,cv,rfl,Y.out.1,Y.out.2⟩
/-! ### The end of a text -/
theorem textEnd_any {B:Nat} {w:World} {g:Nat} {r:PaR} (h:Pm B w g r) (hn:r.nt≤1000000) :
  Calls Tryz.prog 149 #[.pointer (some ⟨g,0,none⟩)] w fun e w'=>∃ A c R,e=.returned (.slice A R.length c)∧FrA w.heap.size w' A R∧acts R=(if r.X.length≤256 then [acOsc r.X] else [])∧Below w.heap.size w w':=by
 obtain ⟨d,st,m,P,np,cp,N,T,nt,ct,X,o⟩:=r
 have hl:X.length=nt:=by have:=h.txt.1;simpa using this
 have p4:=h.c4
 simp only at p4 hn
 have H:=Lib.hid (And.intro h hl)
 rw [hl]
 clear h hl
 by_cases hle:nt≤256
 · rw [if_pos hle]
   go_enter Tryz.func149,Tryz.ntmps149
   go_wp2_with fail
   refine (cloneB_any (Sb.own H.out.1.txt) (show nt≤140737488355328 by omega)).mono ?_
   rintro e w1 ⟨A',c',rfl,hown,hb⟩
   have Y:=Lib.hid (And.intro hown hb)
   clear hown hb p4
   go_wp2_with fail
   go_ret
   obtain ⟨A2,c2,e2,h1,h2⟩:=own_shape Y.out.1
   injection e2 with _ _ e2
   subst e2
   have hal:Below w1.heap.size w1 (w1.alloc (.cells (rowV acV [⟨acOsc X,none,0,0,A',nt,c'⟩]).toArray 62)):=(Below.refl _ _).alloc (Nat.le_refl _) _
   refine ⟨some ⟨w1.heap.size,0,none⟩,1,[⟨acOsc X,none,0,0,A',nt,c'⟩],rfl,⟨⟨lit_ac w1 [⟨acOsc X,none,0,0,A',nt,c'⟩],fun x hx=>?_⟩,?_,?_,?_⟩,rfl,Y.out.2.trans (hal.mono Y.out.2.size)⟩
   · rw [List.mem_singleton.1 hx]
     exact ⟨Ik.nil _ _ _,(Sb.own Y.out.1).below hal,Nat.le_refl _,by simp only;unfold maxLen;omega,h1,h2⟩
   · rintro ad e _
     injection e with e
     rw [← e]
     exact Y.out.2.size
   · intro x hx ad e hn
     rw [List.mem_singleton.1 hx] at hn
     exact (Nat.lt_irrefl 0 hn).elim
   · intro x hx ad e hn
     rw [List.mem_singleton.1 hx] at e hn
     have e:A'=some ad:=e
     subst e
     have hob:=own_block Y.out.1
     obtain ⟨k1,k2⟩:=hob
     refine ⟨k1,?_⟩
     have ht:HasT w1 ad.block 5:=by
      rcases Y.out.1.2 with ⟨h1,_⟩ | ⟨g',cap,cur,hv,hb,hg',hr⟩
      · cases h1
      · injection hv with hv
        injection hv with hv
        exact ⟨_,_,by rw [hv];exact hg'⟩
     exact (ht.noA (by decide)).same (hal.block _ k2)
 · rw [if_neg hle]
   go_enter Tryz.func149,Tryz.ntmps149
   go_wp2_with fail
   go_ret
   exact ⟨none,0,[],rfl,FrA.nil _ _,rfl,Below.refl _ _⟩
open Go.RowKit
abbrev TabB (B:Nat):Prop:=2<B∧3<B∧0<B
theorem Tabs.bound {w:World} (h:Tabs w):TabB w.heap.size:=by
 have lt:∀ {a:Addr} {v:Value},w.cell? a=some v→a.block<w.heap.size:=fun {a v} hc=>World.block_lt_of_cell? w a hc
 obtain ⟨t,fr,hs⟩:=h.st
 exact ⟨lt (h.u8.1 0 (by omega)),lt (h.u8.2 0 (by omega)).1,(Array.getElem?_eq_some_iff.1 hs).1⟩
theorem dfeed_any {B:Nat} {w:World} {d:Nat} {o:List Int} {b:Int} (hT:Tabs w) (hB:TabB B) (hs:B≤w.heap.size) (hd:B≤d) (hD:Dc w d o) (ho:Op o) (h8:0≤b∧b≤255) :
  Calls Tryz.prog 150 #[.pointer (some ⟨d,0,none⟩),.int .u8 b] w (FeedPost w d o b):=by
 have hz:(w.heap.extract 0 B).size=B:=by simp;omega
 have hk:∀ k,k<B→w.heap[k]?=(w.heap.extract 0 B)[k]?:=fun k hk=>by simp [Array.getElem?_extract];intro h;omega
 have hbl:Below B { w with heap:=w.heap.extract 0 B } w:=⟨rfl,rfl,rfl,by show (w.heap.extract 0 B).size≤_;omega,hk⟩
 have hc:∀ (q j:Nat),q<B→(World.cell? { w with heap:=w.heap.extract 0 B } ⟨q,j,none⟩)=w.cell? ⟨q,j,none⟩:=fun q j hq=>(hbl.cell (p:=⟨q,j,none⟩) hq).symm
 have hT0:Tabs { w with heap:=w.heap.extract 0 B }:=⟨⟨fun c h=>(hc _ _ hB.1).trans (hT.u8.1 c h),fun i h=>⟨(hc _ _ hB.2.1).trans (hT.u8.2 i h).1,(hc _ _ hB.2.1).trans (hT.u8.2 i h).2⟩⟩,by obtain ⟨t,fr,h⟩:=hT.st;exact ⟨t,fr,(hk _ hB.2.2).symm.trans h⟩⟩
 exact feed_any hT0 (by show Below (w.heap.extract 0 B).size _ _;rw [hz];exact hbl) (by show (w.heap.extract 0 B).size≤_;rw [hz];exact hd) hD ho h8
theorem endS_few (o:List Int):(endS o).length≤1:=by unfold endS;split<;>simp
theorem op_nil:Op []:=Or.inl rfl
section
variable {B:Nat} {w:World} {g:Nat} {r:PaR} {s:PaS}
theorem Rel.ground (h1:r.st=0) (h2:Op r.o):Rel r ⟨0,0,[],[],r.o⟩ :=
 ⟨h1,(fun h=>by rcases h with h | h<;>cases h),(fun h=>by cases h),(fun h=>by cases h),(fun h=>by cases h),(fun h=>by cases h),rfl,h2,(fun h=>absurd rfl h),Nat.le_of_ble_eq_true rfl⟩
theorem Rel.pa0 (h1:r.st=0) (h2:r.o=[]):Rel r pa0:=by
 have h:=Rel.ground h1 (by rw [h2];exact op_nil)
 rw [h2] at h
 exact h
theorem Rel.lone {k:Nat} (hk:k=2∨k=4∨k=6) (h1:r.st=k) (h2:r.o=[]):Rel r (paIn k) :=
 ⟨h1,(fun h=>by have:k=1∨k=3:=h;omega),(fun h=>by have:k=1:=h;omega),(fun h=>by have:k=1:=h;omega),(fun h=>by have:k=3:=h;omega),(fun h=>by have:k=5:=h;omega),h2,op_nil,(fun _=>rfl),by show k≤6;omega⟩
/-! ### 27 -/
set_option maxHeartbeats 3200000 in
theorem begin_any (ht:TabB B) (hB:B≤w.heap.size) (h:Pm B w g r) (hr:Rel r s) :
  Calls Tryz.prog 84 #[.pointer (some ⟨g,0,none⟩)] w (FdPost B g (Blk g r) (prS (endS s.dec) ++ (if s.st=5∧s.tx.length≤256 then [acOsc s.tx] else [])) (paIn 1) w):=by
 obtain ⟨L,hL⟩:∃ L,prS (endS s.dec) ++ (if s.st=5∧s.tx.length≤256 then [acOsc s.tx] else [])=L:=⟨_,rfl⟩
 rw [hL]
 have HL:=Lib.hid hL
 clear hL
 have p0:=h.c0
 have H:=Lib.hid (And.intro ht (And.intro hB (And.intro h hr)))
 have hE:=Lib.hid (end_any' (w:=w) (d:=r.d) (o:=s.dec) (by rw [← hr.o];exact h.dc))
 clear ht hB h hr
 go_enter Tryz.func84,Tryz.ntmps84
 go_wp2_with fail
 refine hE.out.mono ?_
 rintro e w1 ⟨A1,n1,c1,rfl,hI,hD,hg⟩
 have M1:=Lib.hid (And.intro ((Mid.refl H.out.2.2.1).dec H.out.2.1 hg hD) (And.intro hI hg.size))
 clear hI hD hg hE p0
 go_wp2_with fail
 have hn1:n1=(endS s.dec).length:=M1.out.2.1.len.symm
 refine (prints_any M1.out.2.1 (by have:=endS_few s.dec;omega)).mono ?_
 rintro e w2 ⟨A2,c2,rfl,hown,hb⟩
 have F2:FrA w.heap.size w2 A2 (prR (endS s.dec)):=by
  have hl:(prR (endS s.dec)).length=n1:=by rw [prR_len,hn1]
  refine FrA.bare (by rw [hl];exact own_vs hl hown) (prR_bare _) fun ad e _=>?_
  have:=own_ge hown ad e
  have:=M1.out.2.2
  omega
 have M2:=Lib.hid (And.intro (M1.out.1.below H.out.2.1 hb) (And.intro F2 hn1))
 clear F2 hn1 hown hb M1
 have p1:=M2.out.1.pm.c1
 simp only at p1
 have key:∀ (w3:World) (R:List AcR) (A3:Option Addr) (c3:Nat) (r3:PaR),Mid B g (Blk g r) w w3 r3→r3.d=r.d→r3.o=[]→FrA w.heap.size w3 A3 R→acts R=L →
   FdPost B g (Blk g r) L (paIn 1) w (.returned (.slice A3 R.length c3)) ((((w3.setCell ⟨g,1,none⟩ (.int .i64 1)).setCell ⟨g,2,none⟩ (.int .u8 0)).setCell ⟨g,3,none⟩ (.slice none 0 0)).setCell ⟨g,4,none⟩ (.slice none 0 0)):=by
  intro w3 R A3 c3 r3 hM hd ho hF hR
  have hgl:g<w.heap.size:=H.out.2.2.1.lt
  rw [← hR]
  refine FdPost.of H.out.1 ((((hM.set1 H.out.2.1 1).set2 H.out.2.1 0).zero3 H.out.2.1).zero4 H.out.2.1) ?_ ((((hF.grown (grownBy_set _ _ _) hgl).grown (grownBy_set _ _ _) hgl).grown (grownBy_set _ _ _) hgl).grown (grownBy_set _ _ _) hgl) (Nat.le_refl _) ?_
  · exact ⟨rfl,(fun _=>rfl),(fun _=>rfl),(fun _=>rfl),(fun h=>by cases h),(fun h=>by cases h),ho,op_nil,(fun _=>rfl),Nat.le_of_ble_eq_true rfl⟩
  · rintro q (hq | hq | hq | hq)
    · omega
    · have h1:q=r3.d:=hq
      rw [h1,hd]
      exact H.out.2.2.1.dc.lt
    · cases hq
    · cases hq
 by_cases h5:s.st=5
 · have hst:r.st=5:=by rw [H.out.2.2.2.st,h5];rfl
   have hx:=H.out.2.2.2.x5 h5
   have hd0:=H.out.2.2.2.od (by omega)
   have hnt:r.nt≤257:=by have h1:=H.out.2.2.1.txt.1;rw [List.length_map,hx,List.length_take] at h1;omega
   rw [hst] at p1
   go_upto_region 3 with fail
   clear p1
   go_wp2_with fail
   refine (textEnd_any M2.out.1.pm (by simp only;omega)).mono ?_
   rintro e w3 ⟨A3,c3,R3,rfl,hF,hR,hb⟩
   simp only at hR
   have hgl:w.heap.size≤w2.heap.size:=M2.out.1.out.bel.size
   have M3:=Lib.hid (show Mid B g (Blk g r) w w3 _∧FrA w.heap.size w3 A3 R3∧acts R3=L from ⟨M2.out.1.below H.out.2.1 hb,⟨hF.ats,(fun ad e hn=>Nat.le_trans hgl (hF.a ad e hn)),(fun x hx ad e hn=>⟨Nat.le_trans hgl (hF.p x hx ad e hn).1,(hF.p x hx ad e hn).2⟩),(fun x hx ad e hn=>⟨Nat.le_trans hgl (hF.t x hx ad e hn).1,(hF.t x hx ad e hn).2⟩)⟩,by
    rw [hR,← HL.out,hd0,hx]
    by_cases hl:s.tx.length≤256
    · rw [if_pos (by rw [List.length_take];omega),if_pos ⟨h5,hl⟩,List.take_of_length_le (by omega)];rfl
    · rw [if_neg (by rw [List.length_take];omega),if_neg (fun h=>hl h.2)];rfl⟩)
   clear hb hF hR hgl hnt M2 hx hd0 hst
   have q1:=M3.out.1.pm.c1
   have q2:=M3.out.1.pm.c2
   have q3:=M3.out.1.pm.c3
   have q4:=M3.out.1.pm.c4
   have f1:=M3.out.1.pm.fr 1
   have f2:=M3.out.1.pm.fr 2
   have f3:=M3.out.1.pm.fr 3
   have f4:=M3.out.1.pm.fr 4
   go_wp2_with fail
   go_ret
   exact key w3 R3 A3 c3 _ M3.out.1 rfl rfl M3.out.2.1 M3.out.2.2
 · have hst:¬ r.st=5:=by rw [H.out.2.2.2.st];omega
   have M3:=Lib.hid (show acts (prR (endS s.dec))=L by rw [← HL.out,if_neg (fun h=>h5 h.1),List.append_nil,acts_prR])
   obtain rfl:n1=(prR (endS s.dec)).length:=by rw [prR_len];exact M2.out.2.2
   have q2:=M2.out.1.pm.c2
   have q3:=M2.out.1.pm.c3
   have q4:=M2.out.1.pm.c4
   have f1:=M2.out.1.pm.fr 1
   have f2:=M2.out.1.pm.fr 2
   have f3:=M2.out.1.pm.fr 3
   have f4:=M2.out.1.pm.fr 4
   simp only at q2 q3 q4
   go_wp2_with fail
   go_ret
   exact key w2 _ A2 c2 _ M2.out.1 rfl rfl M2.out.2.1 M3.out
theorem FdPost.after {S:Nat→Prop} {w':World} {L:List AcS} {s':PaS} {e:Ending} {w0:World} (hM:Mid B g S w0 w r) (h:FdPost B g (Blk g r) L s' w e w'):FdPost B g S L s' w0 e w':=by
 obtain ⟨A,c,R,S',rfl,h1,h2,h3,h4,h5,h6,⟨h7,h8⟩,h9⟩:=h
 have hs:=hM.out.bel.size
 refine ⟨A,c,R,S',rfl,h1,h2,h3,⟨hM.out.bel.trans (h4.bel),fun q hq hS=>?_⟩,fun q hq=>?_,h6,⟨(fun ad e hn=>Nat.le_trans hs (h7 ad e hn)),fun x hx=>⟨fun ad e hn=>Nat.le_trans hs ((h8 x hx).1 ad e hn),fun ad e hn=>Nat.le_trans hs ((h8 x hx).2 ad e hn)⟩⟩,h9⟩
 · rw [h4.keep q (by omega) (fun hb=>by rcases hM.sub q hb with h | h;exact hS h;omega)]
   exact hM.out.keep q hq hS
 · rcases h5 q hq with h | h
   · exact hM.sub q h
   · exact .inr (by omega)
/-! ### In the ground -/
theorem c0_bare (b:Int):Bare [⟨acC0 b,none,0,0,none,0,0⟩]:=fun x hx=>by
 rw [List.mem_singleton.1 hx]
 exact ⟨⟨rfl,rfl⟩,⟨rfl,rfl⟩,Nat.le_refl _,by simp only;unfold maxLen;omega,Nat.le_refl _,by simp only;unfold maxLen;omega⟩
theorem Bare.append {R M:List AcR} (h:Bare R) (k:Bare M):Bare (R ++ M):=fun x hx=>by
 rcases List.mem_append.1 hx with hx | hx
 · exact h x hx
 · exact k x hx
set_option maxHeartbeats 3200000 in
theorem inGround_any {b:Int} (ht:TabB B) (hB:B≤w.heap.size) (hT:Tabs w) (h:Pm B w g r) (hst:r.st=0) (ho:Op r.o) (h8:0≤b∧b≤255) :
  Calls Tryz.prog 86 #[.pointer (some ⟨g,0,none⟩),.int .u8 b] w (FdPost B g (Blk g r) (groundP r.o b).1 (groundP r.o b).2 w):=by
 obtain ⟨L,s',hL⟩:∃ L s',groundP r.o b=(L,s'):=⟨_,_,rfl⟩
 rw [hL]
 have HL:=Lib.hid hL
 clear hL
 by_cases hlow:b<32
 · obtain ⟨w0,hw0⟩:∃ w0,w0=w.alloc (.cells #[.int .i64 2,.int .i32 0,.int .u8 0,.int .u8 b,.slice none 0 0,.slice none 0 0] 62):=⟨_,rfl⟩
   have hb0:Below w.heap.size w w0:=by rw [hw0];exact (Below.refl _ _).alloc (Nat.le_refl _) _
   have hl0:Vs acV w0 (some ⟨w.heap.size,0,none⟩) 1 [⟨acC0 b,none,0,0,none,0,0⟩]:=by rw [hw0];exact lit_ac w [⟨acC0 b,none,0,0,none,0,0⟩]
   have M0:=Lib.hid (And.intro ((Mid.refl h).below hB hb0) hl0)
   have p0:=M0.out.1.pm.c0
   have hE:=Lib.hid (end_any' (w:=w0) (d:=r.d) (o:=r.o) M0.out.1.pm.dc)
   have H:=Lib.hid (And.intro ht (And.intro hB (And.intro h (And.intro hst hw0))))
   clear ht hB h hb0 hl0 hst ho h8 hT
   go_enter Tryz.func86,Tryz.ntmps86
   go_upto_region 5 with fail
   rw [← hw0]
   clear hw0
   go_wp2_with fail
   refine hE.out.mono ?_
   rintro e w1 ⟨A1,n1,c1,rfl,hI,hD,hg⟩
   have M1:=Lib.hid (And.intro (M0.out.1.dec H.out.2.1 hg hD) (And.intro hI (And.intro hg.size (M0.out.2.grown hg fun ad e _ e2=>by injection e with e;injection e2 with e2;rw [← e] at e2;have:=H.out.2.2.1.dc.lt;simp only at e2;omega))))
   clear hI hD hg hE p0
   go_wp2_with fail
   have hn1:n1=(endS r.o).length:=M1.out.2.1.len.symm
   refine (prints_any M1.out.2.1 (by have:=endS_few r.o;omega)).mono ?_
   rintro e w2 ⟨A2,c2,rfl,hown,hb⟩
   have M2:=Lib.hid (show Mid B g (Blk g r) w w2 _∧w2.ownsRow w1.heap.size 62 6 (.slice A2 n1 c2) n1 (rowV acV (prR (endS r.o)))∧n1=(endS r.o).length∧Vs acV w2 (some ⟨w.heap.size,0,none⟩) 1 [⟨acC0 b,none,0,0,none,0,0⟩]∧w.heap.size≤w1.heap.size∧w1.heap.size≤w2.heap.size∧n1≤1 from
    ⟨M1.out.1.below H.out.2.1 hb,hown,hn1,M1.out.2.2.2.below hb,Nat.le_trans M0.out.1.out.bel.size M1.out.2.2.1,hb.size,by have:=endS_few r.o;omega⟩)
   clear hown hb hn1 M1
   go_wp2_with (refine wpList_app_V _ rfl (.tmp 20) (.tmp 21) 59 rfl acV_len one_ac w1.heap.size 62 _ 64 (by omega) Tryz.underlying59 infoAc rfl (by omega) (.slice A2 n1 c2) n1 (prR (endS r.o)) rfl M2.out.2.1 (some ⟨w.heap.size,0,none⟩) 1 1 (n1+1) rfl [⟨acC0 b,none,0,0,none,0,0⟩] rfl M2.out.2.2.2.1 (by have:=M2.out.2.2.2.2.2.2;omega) M2.out.2.2.2.2.2.1 ?_)
   intro A3 c3 w3 o3 g3
   have hl3:(prR (endS r.o) ++ [(⟨acC0 b,none,0,0,none,0,0⟩:AcR)]).length=n1+1:=by rw [List.length_append,prR_len,← M2.out.2.2.1];rfl
   have M3:=Lib.hid (show Mid B g (Blk g r) w w3 { r with o:=[] }∧FrA w.heap.size w3 A3 (prR (endS r.o) ++ [(⟨acC0 b,none,0,0,none,0,0⟩:AcR)]) from ⟨M2.out.1.grow H.out.2.1 M2.out.2.1 M2.out.2.2.2.2.1 g3,FrA.bare (by rw [hl3];exact own_vs hl3 o3) ((prR_bare _).append (c0_bare b)) (fun ad e _=>by have:=own_ge o3 ad e;have:=M2.out.2.2.2.2.1;omega)⟩)
   clear o3 g3 M2
   go_wp2_with fail
   go_ret
   have hR:L=acts (prR (endS r.o) ++ [(⟨acC0 b,none,0,0,none,0,0⟩:AcR)])∧s'=pa0:=by
    have h1:=HL.out
    unfold groundP at h1
    rw [if_pos hlow] at h1
    injection h1 with h1 h2
    exact ⟨by rw [← h1,acts,List.map_append];exact congr (congrArg _ (acts_prR _).symm) rfl,h2.symm⟩
   obtain ⟨rfl,rfl⟩:=hR
   exact FdPost.ofn H.out.1 M3.out.1 (Rel.pa0 H.out.2.2.2.1 rfl) M3.out.2 (Nat.le_refl _) (fun q hq=>H.out.2.2.1.hi q hq) hl3
 by_cases hdel:b=127
 · subst hdel
   have p0:=h.c0
   have hE:=Lib.hid (end_any' (w:=w) (d:=r.d) (o:=r.o) h.dc)
   have H:=Lib.hid (And.intro ht (And.intro hB (And.intro h hst)))
   clear ht hB h hst ho h8 hT hlow
   go_enter Tryz.func86,Tryz.ntmps86
   go_wp2_with fail
   refine hE.out.mono ?_
   rintro e w1 ⟨A1,n1,c1,rfl,hI,hD,hg⟩
   have M1:=Lib.hid (And.intro ((Mid.refl H.out.2.2.1).dec H.out.2.1 hg hD) (And.intro hI hg.size))
   clear hI hD hg hE p0
   go_wp2_with fail
   have hn1:n1=(endS r.o).length:=M1.out.2.1.len.symm
   refine (prints_any M1.out.2.1 (by have:=endS_few r.o;omega)).mono ?_
   rintro e w2 ⟨A2,c2,rfl,hown,hb⟩
   have M2:=Lib.hid (show Mid B g (Blk g r) w w2 _∧w2.ownsRow w1.heap.size 62 6 (.slice A2 n1 c2) n1 (rowV acV (prR (endS r.o)))∧n1=(endS r.o).length∧w.heap.size≤w1.heap.size∧w1.heap.size≤w2.heap.size∧n1≤1 from
    ⟨M1.out.1.below H.out.2.1 hb,hown,hn1,M1.out.2.2,hb.size,by have:=endS_few r.o;omega⟩)
   clear hown hb hn1 M1
   go_wp2_with (refine wpList_app_V _ rfl (.tmp 20) (.tmp 21) 59 rfl acV_len one_ac w1.heap.size 62 _ 64 (by omega) Tryz.underlying59 infoAc rfl (by omega) (.slice A2 n1 c2) n1 (prR (endS r.o)) rfl M2.out.2.1 none 0 0 n1 rfl [] rfl (Vs.nil _ _) (by have:=M2.out.2.2.2.2.2;omega) M2.out.2.2.2.2.1 ?_)
   intro A3 c3 w3 o3 g3
   have hl3:(prR (endS r.o)).length=n1:=by rw [prR_len,← M2.out.2.2.1]
   have M3:=Lib.hid (show Mid B g (Blk g r) w w3 { r with o:=[] }∧FrA w.heap.size w3 A3 (prR (endS r.o)) from ⟨M2.out.1.grow H.out.2.1 M2.out.2.1 M2.out.2.2.2.1 g3,FrA.bare (by rw [hl3];exact own_vs hl3 o3) (prR_bare _) (fun ad e _=>by have:=own_ge o3 ad e;have:=M2.out.2.2.2.1;omega)⟩)
   clear o3 g3 M2
   go_wp2_with fail
   go_ret
   have hR:L=acts (prR (endS r.o))∧s'=pa0:=by
    have h1:=HL.out
    unfold groundP at h1
    rw [if_neg (by decide),if_pos rfl] at h1
    injection h1 with h1 h2
    exact ⟨by rw [← h1,acts_prR],h2.symm⟩
   obtain ⟨rfl,rfl⟩:=hR
   exact FdPost.ofn H.out.1 M3.out.1 (Rel.pa0 H.out.2.2.2 rfl) M3.out.2 (Nat.le_refl _) (fun q hq=>H.out.2.2.1.hi q hq) hl3
 · have p0:=h.c0
   have hE:=Lib.hid (dfeed_any (w:=w) (d:=r.d) (o:=r.o) hT ht hB h.dB h.dc ho h8)
   have H:=Lib.hid (And.intro ht (And.intro hB (And.intro h hst)))
   clear ht hB h hst ho h8 hT
   go_enter Tryz.func86,Tryz.ntmps86
   go_wp2_with fail
   refine hE.out.mono ?_
   rintro e w1 ⟨A1,n1,c1,rfl,hI,hD,hg,hz⟩
   have M1:=Lib.hid (And.intro ((Mid.refl H.out.2.2.1).dec H.out.2.1 hg hD) (And.intro hI hz))
   clear hI hD hg hE p0 hz
   go_wp2_with fail
   have hn1:n1=(feedS r.o b).1.length:=M1.out.2.1.len.symm
   refine (prints_any M1.out.2.1 (by have:=feedS_len r.o b;omega)).mono ?_
   rintro e w2 ⟨A2,c2,rfl,hown,hb⟩
   have hl3:(prR (feedS r.o b).1).length=n1:=by rw [prR_len,← hn1]
   have M2:=Lib.hid (show Mid B g (Blk g r) w w2 { r with o:=(feedS r.o b).2 }∧FrA w.heap.size w2 A2 (prR (feedS r.o b).1) from
    ⟨M1.out.1.below H.out.2.1 hb,FrA.bare (by rw [hl3];exact own_vs hl3 hown) (prR_bare _) (fun ad e _=>by have:=own_ge hown ad e;have:=M1.out.2.2;omega)⟩)
   clear hown hb hn1 M1
   go_wp2_with fail
   go_ret
   have hR:L=acts (prR (feedS r.o b).1)∧s'=⟨0,0,[],[],(feedS r.o b).2⟩:=by
    have h1:=HL.out
    unfold groundP at h1
    rw [if_neg (show ¬ b<32 by omega),if_neg hdel] at h1
    injection h1 with h1 h2
    exact ⟨by rw [← h1,acts_prR],h2.symm⟩
   obtain ⟨rfl,rfl⟩:=hR
   exact FdPost.ofn H.out.1 M2.out.1 (Rel.ground (r:={ r with o:=(feedS r.o b).2 }) H.out.2.2.2 (feedS_op _ _)) M2.out.2 (Nat.le_refl _) (fun q hq=>H.out.2.2.1.hi q hq) hl3
/-! ### In a string -/
set_option maxHeartbeats 3200000 in
theorem inString_any {b:Int} (ht:TabB B) (hB:B≤w.heap.size) (h:Pm B w g r) (hr:Rel r s) (hs:s.st=5∨s.st=6) {L:List AcS} {s':PaS}
  (hL:(if s.st=6 then ([],s) else if b=7 then ((if s.tx.length≤256 then [acOsc s.tx] else []),pa0) else if b<32 then ([],s) else ([],⟨5,0,[],s.tx ++ [b],[]⟩))=(L,s')) :
  Calls Tryz.prog 85 #[.pointer (some ⟨g,0,none⟩),.int .u8 b] w (FdPost B g (Blk g r) L s' w):=by
 have p1:=h.c1
 rw [hr.st] at p1
 rcases hs with h5 | h6
 case inr =>
  rw [if_pos h6] at hL
  injection hL with h1 h2
  subst h1
  subst h2
  have X:=Lib.hid (FdPost.none ht (Mid.refl h) hr)
  rw [h6] at p1
  clear ht hB h hr h6
  go_enter Tryz.func85,Tryz.ntmps85
  go_wp2_with fail
  go_ret
  exact X.out
 rw [if_neg (by omega)] at hL
 rw [h5] at p1
 have hx:=hr.x5 h5
 have hd0:=hr.od (by omega)
 have hnl:r.X.length=r.nt:=by have:=h.txt.1;simpa using this
 have hnt:r.nt≤257:=by rw [← hnl,hx,List.length_take];omega
 by_cases h7:b=7
 · subst h7
   rw [if_pos rfl] at hL
   have H:=Lib.hid (And.intro ht (And.intro hB (And.intro h (And.intro hr (And.intro hL (And.intro hx hd0))))))
   clear ht hB hr hL hx hd0 h5 hnl
   go_enter Tryz.func85,Tryz.ntmps85
   go_upto_region 4 with fail
   clear p1
   go_wp2_with fail
   refine (textEnd_any h (by omega)).mono ?_
   rintro e w1 ⟨A1,c1,R,rfl,hF,hR,hb⟩
   have M1:=Lib.hid (And.intro ((Mid.refl H.out.2.2.1).below H.out.2.1 hb) (And.intro hF hR))
   clear hF hR hb h
   have q1:=M1.out.1.pm.c1
   have f1:=M1.out.1.pm.fr 1
   go_wp2_with fail
   go_ret
   have hLR:L=acts R∧s'=pa0:=by
    have h1:=H.out.2.2.2.2.1
    injection h1 with h1 h2
    refine ⟨?_,h2.symm⟩
    rw [← h1,M1.out.2.2,H.out.2.2.2.2.2.1]
    by_cases hl:s.tx.length≤256
    · rw [if_pos hl,if_pos (by rw [List.length_take];omega),List.take_of_length_le (by omega)]
    · rw [if_neg hl,if_neg (by rw [List.length_take];omega)]
   obtain ⟨rfl,rfl⟩:=hLR
   exact FdPost.of H.out.1 (M1.out.1.set1 H.out.2.1 0) (Rel.pa0 rfl (by show r.o=[];rw [H.out.2.2.2.1.o,H.out.2.2.2.2.2.2])) (M1.out.2.1.grown (grownBy_set _ _ _) H.out.2.2.1.lt) (Nat.le_refl _) (fun q hq=>H.out.2.2.1.hi q hq)
 rw [if_neg h7] at hL
 by_cases hlow:b<32
 · rw [if_pos hlow] at hL
   injection hL with h1 h2
   subst h1
   subst h2
   have X:=Lib.hid (FdPost.none ht (Mid.refl h) hr)
   clear ht hB h hr hx hd0 hnl hnt
   go_enter Tryz.func85,Tryz.ntmps85
   go_wp2_with fail
   go_ret
   exact X.out
 · rw [if_neg hlow] at hL
   injection hL with h1 h2
   subst h1
   subst h2
   have p4:=h.c4
   have hrel:∀ r':PaR,r'.st=r.st→r'.o=r.o→r'.X=(s.tx ++ [b]).take 257→Rel r' ⟨5,0,[],s.tx ++ [b],[]⟩:=fun r' e1 e2 e3 =>
    ⟨by rw [e1,hr.st,h5],(fun h=>by rcases h with h | h<;>cases h),(fun h=>by cases h),(fun h=>by cases h),(fun h=>by cases h),(fun _=>e3),by rw [e2,hr.o,hd0],op_nil,(fun _=>rfl),Nat.le_of_ble_eq_true rfl⟩
   by_cases hle:r.nt≤256
   · have hx2:r.X ++ [b]=(s.tx ++ [b]).take 257:=by
      have hl:s.tx.length≤256:=by rw [← hnl,hx,List.length_take] at hle;omega
      rw [hx,List.take_of_length_le (by omega),List.take_of_length_le (by simp;omega)]
     obtain ⟨wl,hwl⟩:∃ wl,wl=w.alloc (.cells #[.int .u8 b] 5):=⟨_,rfl⟩
     have hbl:Below w.heap.size w wl:=by rw [hwl];exact (Below.refl _ _).alloc (Nat.le_refl _) _
     have M1:=Lib.hid (And.intro ((Mid.refl h).below hB hbl) (show Sb wl (some ⟨w.heap.size,0,none⟩) 1 [b] by rw [hwl];exact Sb.one _ _ _))
     have H:=Lib.hid (And.intro ht (And.intro hB (And.intro hrel hx2)))
     clear ht hB hr hx hd0 hnl hnt hrel hx2 hbl
     have q4:=M1.out.1.pm.c4
     subst hwl
     obtain ⟨i0,hi,hz0,hz1,hz2⟩:=info_parts info8
     have H0:=Lib.hid (And.intro hi (And.intro hz0 (And.intro hz1 hz2)))
     clear hi hz0 hz1 hz2
     have hnl:=Lib.hid (show r.nt+1≤maxLen by unfold maxLen;omega)
     go_enter Tryz.func85,Tryz.ntmps85
     go_wp2_with (refine wpList_append_lies _ rfl (.tmp 34) (.tmp 36) 36 rfl B 5 i0 (.int .u8 0) 1 1 Tryz.underlying36 H0.out.1 H0.out.2.1 H0.out.2.2.1 H0.out.2.2.2 rfl (by omega) (.slice r.T r.nt r.ct) r.nt (r.X.map (Value.int .u8)) rfl M1.out.1.pm.txt ⟨w.heap.size,0,none⟩ 1 1 ([b].map (Value.int .u8)) rfl rfl M1.out.2.news (oneCells _) (by omega) hnl.out (by omega) (Nat.le_trans H.out.2.1 M1.out.1.out.bel.size) _ rfl ?_)
     intro bT cT w2 o2 g2 hat hlt
     have o2:w2.ownsRow B 5 1 (.slice (some ⟨bT,0,none⟩) (r.nt+1) cT) (r.nt+1) ((r.X ++ [b]).map (Value.int .u8)):=by rw [List.map_append];exact o2
     have hg2:HasT w2 g 137:=⟨_,_,(g2.block g M1.out.1.pm.lt (fun e=>M1.out.1.pm.text_off e.symm)).trans M1.out.1.pm.blk⟩
     have q4:w2.cell? ⟨g,4,none⟩=some (.slice r.T r.nt r.ct):=(World.cell?_of_block (g2.block g M1.out.1.pm.lt (fun e=>M1.out.1.pm.text_off e.symm))).trans M1.out.1.pm.c4
     have f4:w2.frozen? ⟨g,4,none⟩=false:=frozen_of_row _ _ _ _ _ ((g2.block g M1.out.1.pm.lt (fun e=>M1.out.1.pm.text_off e.symm)).trans M1.out.1.pm.blk)
     have M2:=Lib.hid (M1.out.1.apt H.out.2.1 g2 o2 (by rcases hat with e | e;exact .inl e;exact .inr (by simp at e ⊢;omega)))
     clear o2 g2 hat hlt hg2 M1
     go_wp2_with fail
     go_ret
     exact FdPost.none H.out.1 M2.out (H.out.2.2.1 _ rfl rfl H.out.2.2.2)
   · have hx2:r.X=(s.tx ++ [b]).take 257:=by
      have hl:257≤s.tx.length:=by rw [← hnl,hx,List.length_take] at hle;omega
      rw [hx,List.take_append_of_le_length hl]
     have X:=Lib.hid (FdPost.none ht (Mid.refl h) (hrel r rfl rfl hx2))
     clear ht hB h hr hx hd0 hnl hnt hrel hx2
     go_enter Tryz.func85,Tryz.ntmps85
     go_wp2_with fail
     go_ret
     exact X.out
end
open Go.RowKit
theorem fresh_row {w:World} {H:Nat} {e:TypeId} {A:Option Addr} {n c:Nat} {xs:List Value} (h:w.ownsRow H e 1 (.slice A n c) n xs) (hne:e≠62):∀ ad,A=some ad→(H≤ad.block∧ad.block<w.heap.size)∧NoA w ad.block:=by
 rintro ad rfl
 refine ⟨own_block h,?_⟩
 rcases h.2 with ⟨h1,_⟩ | ⟨g',cap,cur,hv,hb,hg',hr⟩
 · cases h1
 · injection hv with hv
   injection hv with hv
   exact HasT.noA ⟨_,_,by rw [hv];exact hg'⟩ hne
section
variable {B:Nat} {w:World} {g:Nat} {r:PaR} {s:PaS}
theorem esc_bare (m b:Int):Bare [⟨acEsc m b,none,0,0,none,0,0⟩]:=fun x hx=>by
 rw [List.mem_singleton.1 hx]
 exact ⟨⟨rfl,rfl⟩,⟨rfl,rfl⟩,Nat.le_refl _,by simp only;unfold maxLen;omega,Nat.le_refl _,by simp only;unfold maxLen;omega⟩
/-! ### Escape sequences -/
set_option maxHeartbeats 3200000 in
theorem inEscape_any {b:Int} (ht:TabB B) (hB:B≤w.heap.size) (h:Pm B w g r) (hr:Rel r s) (hs:s.st=1) {L:List AcS} {s':PaS} (hL:escP s b=(L,s')) :
  Calls Tryz.prog 151 #[.pointer (some ⟨g,0,none⟩),.int .u8 b] w (FdPost B g (Blk g r) L s' w):=by
 have p1:=h.c1
 have p2:=h.c2
 have f1:=h.fr 1
 have f2:=h.fr 2
 have hm:=hr.m (.inl hs)
 have hn:=hr.n1 hs
 have hx:=hr.x1 hs
 have hd0:=hr.od (by omega)
 have ho:r.o=[]:=by rw [hr.o,hd0]
 have M:=Mid.refl h
 by_cases hlow:b<48
 · unfold escP at hL
   rw [if_pos hlow] at hL
   by_cases hm0:r.m=0
   · rw [if_pos (by rw [← hm];exact hm0)] at hL
     injection hL with h1 h2
     subst h1
     subst h2
     rw [hm0] at p2
     have X:=Lib.hid (FdPost.none (s:=⟨1,b,[],[],[]⟩) ht (M.set2 hB b) ⟨by show r.st=1;rw [hr.st,hs];rfl,(fun _=>rfl),(fun _=>hn),(fun _=>hx),(fun h=>by cases h),(fun h=>by cases h),ho,op_nil,(fun _=>rfl),Nat.le_of_ble_eq_true rfl⟩)
     clear ht hB h hr M hm hn hx hd0 ho hs
     go_enter Tryz.func151,Tryz.ntmps151
     go_wp2_with fail
     go_ret
     exact X.out
   · rw [if_neg (by rw [← hm];exact hm0)] at hL
     injection hL with h1 h2
     subst h1
     subst h2
     have X:=Lib.hid (FdPost.none (s:=paIn 2) ht (M.set1 hB 2) (Rel.lone (.inl rfl) rfl ho))
     clear ht hB h hr M hm hn hx hd0 ho hs
     go_enter Tryz.func151,Tryz.ntmps151
     go_wp2_with fail
     go_ret
     exact X.out
 · have hesc:∀ {w2:World},w2=(w.setCell ⟨g,1,none⟩ (.int .i64 0))→(L,s')=([acEsc r.m b],pa0)→FdPost B g (Blk g r) L s' w (.returned (.slice (some ⟨w.heap.size,0,none⟩) 1 1)) (w2.alloc (.cells (rowV acV [⟨acEsc r.m b,none,0,0,none,0,0⟩]).toArray 62)):=by
    intro w2 e1 e2
    have sz:w2.heap.size=w.heap.size:=by rw [e1];simp
    rw [← sz]
    injection e2 with h1 h2
    subst h1
    subst h2
    have M1:=M.set1 hB 0
    rw [← e1] at M1
    have hal:Below w2.heap.size w2 (w2.alloc (.cells (rowV acV [⟨acEsc r.m b,none,0,0,none,0,0⟩]).toArray 62)):=(Below.refl _ _).alloc (Nat.le_refl _) _
    exact FdPost.bare (R:=[⟨acEsc r.m b,none,0,0,none,0,0⟩]) ht (M1.below hB hal) (Rel.pa0 rfl ho) (lit_ac w2 _) (esc_bare _ _) (fun ad e=>by injection e with e;rw [← e];exact M1.out.bel.size) (fun ad e hq=>by injection e with e;rw [← e] at hq;exact Nat.lt_irrefl _ (M1.pm.hi _ hq))
   have q2:=(M.set1 hB 0).pm.c2
   simp only at q2
   by_cases hm0:r.m=0
   · by_cases hop:openS b=0
     · have X:=Lib.hid (hesc rfl (by
        rw [← hL]
        unfold escP
        rw [if_neg hlow]
        unfold openS at hop
        by_cases h1:b=91
        · rw [if_pos h1] at hop;cases hop
        rw [if_neg h1] at hop
        by_cases h2:b=93
        · rw [if_pos h2] at hop;cases hop
        rw [if_neg h2] at hop
        by_cases h3:b=80∨b=88∨b=94∨b=95
        · rw [if_pos h3] at hop;cases hop
        rw [if_neg (fun h=>h1 h.2),if_neg (fun h=>h2 h.2),if_neg (fun h=>h3 h.2),hm]))
       rw [hm0] at p2 q2 X
       clear ht hB h hr M hm hn hx hd0 ho hs hL hesc hm0
       go_enter Tryz.func151,Tryz.ntmps151
       go_wp2_with fail
       refine (opened_any b w).mono ?_
       rintro e w1 ⟨rfl,rfl⟩
       rw [hop]
       go_wp2_with fail
       go_ret
       exact X.out
     · have hop2:openS b=3∧b=91∨openS b=5∧b=93∨openS b=6∧(b=80∨b=88∨b=94∨b=95):=by
        unfold openS at hop ⊢
        by_cases h1:b=91
        · exact .inl ⟨by rw [if_pos h1],h1⟩
        rw [if_neg h1] at hop ⊢
        by_cases h2:b=93
        · exact .inr (.inl ⟨by rw [if_pos h2],h2⟩)
        rw [if_neg h2] at hop ⊢
        by_cases h3:b=80∨b=88∨b=94∨b=95
        · exact .inr (.inr ⟨by rw [if_pos h3],h3⟩)
        rw [if_neg h3] at hop
        exact absurd rfl hop
       have hms:s.m=0:=by rw [← hm];exact hm0
       have X:=Lib.hid (show FdPost B g (Blk g r) L s' w (.returned (.slice none 0 0)) (w.setCell ⟨g,1,none⟩ (.int .i64 (openS b))) from by
        unfold escP at hL
        rw [if_neg hlow] at hL
        rcases hop2 with ⟨e1,e2⟩ | ⟨e1,e2⟩ | ⟨e1,e2⟩
        · rw [if_pos ⟨hms,e2⟩] at hL
          injection hL with h1 h2
          subst h1
          subst h2
          rw [e1]
          exact FdPost.none (s:=paIn 3) ht (M.set1 hB 3) ⟨rfl,(fun _=>hm0),(fun h=>by cases h),(fun h=>by cases h),(fun _=>⟨by show r.N.length=_;rw [hn];rfl,by show r.N.take 16=_;rw [hn];rfl,by show psOk r.N;rw [hn];exact nil_ok⟩),(fun h=>by cases h),ho,op_nil,(fun _=>rfl),Nat.le_of_ble_eq_true rfl⟩
        · rw [if_neg (fun h=>by have:=h.2;omega),if_pos ⟨hms,e2⟩] at hL
          injection hL with h1 h2
          subst h1
          subst h2
          rw [e1]
          exact FdPost.none (s:=paIn 5) ht (M.set1 hB 5) ⟨rfl,(fun h=>by rcases h with h | h<;>cases h),(fun h=>by cases h),(fun h=>by cases h),(fun h=>by cases h),(fun _=>by show r.X=_;rw [hx];rfl),ho,op_nil,(fun _=>rfl),Nat.le_of_ble_eq_true rfl⟩
        · rw [if_neg (fun h=>by have:=h.2;omega),if_neg (fun h=>by have:=h.2;omega),if_pos ⟨hms,e2⟩] at hL
          injection hL with h1 h2
          subst h1
          subst h2
          rw [e1]
          exact FdPost.none (s:=paIn 6) ht (M.set1 hB 6) (Rel.lone (.inr (.inr rfl)) rfl ho))
       rw [hm0] at p2
       clear ht hB h hr M hm hn hx hd0 ho hs hL hesc hop2 hms hm0 q2
       obtain ⟨K,hK⟩:∃ K,openS b=K:=⟨_,rfl⟩
       rw [hK] at X hop
       go_enter Tryz.func151,Tryz.ntmps151
       go_wp2_with fail
       refine (opened_any b w).mono ?_
       rintro e w1 ⟨rfl,rfl⟩
       rw [hK]
       go_wp2_with fail
       refine (opened_any b w).mono ?_
       rintro e w1 ⟨rfl,rfl⟩
       rw [hK]
       go_wp2_with fail
       go_ret
       exact X.out
   · have X:=Lib.hid (hesc rfl (by
      rw [← hL]
      unfold escP
      have hms:¬ s.m=0:=by rw [← hm];exact hm0
      rw [if_neg hlow,if_neg (fun h=>hms h.1),if_neg (fun h=>hms h.1),if_neg (fun h=>hms h.1),hm]))
     clear ht hB h hr M hm hn hx hd0 ho hs hL hesc
     go_enter Tryz.func151,Tryz.ntmps151
     go_wp2_with fail
     go_ret
     exact X.out
end
open Go.RowKit
/-! ### The numbers that are kept -/
structure KeepN (N ps:List Int):Prop where
 l:N.length=min ps.length 17
 t:N.take 16=ps.take 16
 k:psOk N
def addN (l:List Int):List Int:=if l.length≤16 then l ++ [0] else l
def firstN (l:List Int):List Int:=if l=[] then [0] else l
theorem KeepN.eq {N ps:List Int} (h:KeepN N ps) (hl:ps.length≤16):N=ps:=by
 have h1:=h.l
 have h2:=h.t
 rw [List.take_of_length_le (by omega),List.take_of_length_le (by omega)] at h2
 exact h2
theorem KeepN.empty {N ps:List Int} (h:KeepN N ps):N=[]↔ps=[]:=by
 have h1:=h.l
 rw [← List.length_eq_zero_iff,← List.length_eq_zero_iff]
 omega
theorem zero_ok:psOk [0]:=fun z hz=>by simp at hz;omega
theorem KeepN.first {N ps:List Int} (h:KeepN N ps):KeepN (firstN N) (firstN ps):=by
 unfold firstN
 by_cases he:ps=[]
 · rw [if_pos (h.empty.2 he),if_pos he];exact ⟨rfl,rfl,zero_ok⟩
 · rw [if_neg (fun x=>he (h.empty.1 x)),if_neg he];exact h
theorem KeepN.add {N ps:List Int} (h:KeepN N ps):KeepN (addN N) (ps ++ [0]):=by
 have h1:=h.l
 unfold addN
 by_cases hl:N.length≤16
 · rw [if_pos hl]
   obtain rfl:=h.eq (by omega)
   exact ⟨by rw [List.length_append];simp;omega,rfl,fun z hz=>by
    rcases List.mem_append.1 hz with hz | hz
    · exact h.k z hz
    · exact zero_ok z hz⟩
 · rw [if_neg hl]
   exact ⟨by rw [List.length_append];simp;omega,by rw [List.take_append_of_le_length (by omega)];exact h.t,h.k⟩
theorem KeepN.semi {N ps:List Int} (h:KeepN N ps):KeepN (addN (firstN N)) (semiP ps):=by
 have h2:=h.first.add
 unfold semiP
 by_cases he:ps=[]
 · subst he;exact h2
 · rw [if_neg he]
   unfold firstN at h2
   rw [if_neg he] at h2
   exact h2
theorem firstN_len (N:List Int):0<(firstN N).length:=by
 unfold firstN
 split
 · simp
 · rename_i h;exact List.length_pos_iff.2 h
theorem getLastD_get (l:List Int):l.getLastD 0=l.getD (l.length-1) 0:=by
 rw [List.getLastD_eq_getLast?,List.getLast?_eq_getElem?,List.getD]
theorem KeepN.dig {N ps:List Int} (h:KeepN N ps) {d:Int} (h0:0≤d):KeepN ((firstN N).set ((firstN N).length-1) (min (10*(firstN N).getD ((firstN N).length-1) 0+d) 9999)) (digP ps d):=by
 by_cases he:ps=[]
 · have hN:=h.empty.2 he
   subst he
   subst hN
   refine ⟨rfl,?_,?_⟩
   · show [min (10*0+d) 9999]=[min d 9999]
     rw [show 10*(0:Int)+d=d by omega]
   · intro z hz
     have hz:z∈[min (10*(0:Int)+d) 9999]:=hz
     rw [List.mem_singleton.1 hz]
     omega
 have hN:¬ N=[]:=fun x=>he (h.empty.1 x)
 have e1:firstN N=N:=by unfold firstN;rw [if_neg hN]
 rw [e1]
 have hpos:0<N.length:=List.length_pos_iff.2 hN
 have h1:=h.l
 have hok:psOk (N.set (N.length-1) (min (10*N.getD (N.length-1) 0+d) 9999)):=by
  intro z hz
  rcases List.mem_or_eq_of_mem_set hz with hz | hz
  · exact h.k z hz
  · rw [hz]
    have h2:=h.k (N.getD (N.length-1) 0) (by rw [getD_lt (by omega)];exact List.getElem_mem _)
    omega
 unfold digP
 rw [if_neg he]
 have hdl:ps.dropLast.length=ps.length-1:=List.length_dropLast
 have hpp:0<ps.length:=List.length_pos_iff.2 he
 by_cases hl:ps.length≤16
 · obtain rfl:=h.eq hl
   refine ⟨by rw [List.length_set,List.length_append,hdl];simp;omega,?_,hok⟩
   congr 1
   rw [getLastD_get,Int.mul_comm]
   apply List.ext_getElem?
   intro i
   rw [List.getElem?_set]
   by_cases hi:N.length-1=i
   · subst hi
     rw [if_pos rfl,if_pos (by omega),List.getElem?_append_right (by omega),hdl,Nat.sub_self]
     rfl
   · rw [if_neg hi]
     by_cases hlt:i<N.length-1
     · rw [List.getElem?_append_left (by omega),List.getElem?_dropLast,if_pos hlt]
     · rw [List.getElem?_eq_none (by omega),List.getElem?_eq_none (by rw [List.length_append,hdl];simp;omega)]
 · refine ⟨by rw [List.length_set,List.length_append,hdl];simp;omega,?_,hok⟩
   rw [List.take_set_of_le (by omega),List.take_append_of_le_length (by omega),h.t,List.dropLast_eq_take,List.take_take]
   congr 1
   omega
/-! ### Marks and numbers in memory -/
structure SameF (r r':PaR):Prop where
 d:r'.d=r.d
 st:r'.st=r.st
 m:r'.m=r.m
 o:r'.o=r.o
theorem SameF.refl (r:PaR):SameF r r:=⟨rfl,rfl,rfl,rfl⟩
theorem SameF.trans {a b c:PaR} (h:SameF a b) (k:SameF b c):SameF a c:=⟨k.d.trans h.d,k.st.trans h.st,k.m.trans h.m,k.o.trans h.o⟩
section
variable {B:Nat} {w w0:World} {g:Nat} {r:PaR} {S:Nat→Prop}
theorem Pm.nl (h:Pm B w g r):r.N.length=r.np:=by have:=h.num.1;simpa using this
theorem setMark_no {b:Int} (h:Pm B w g r) (hm:¬ r.m=0):Calls Tryz.prog 216 #[.pointer (some ⟨g,0,none⟩),.int .u8 b] w fun e w'=>e=.returned (.tuple #[])∧w'=w.setCell ⟨g,1,none⟩ (.int .i64 4):=by
 have p1:=h.c1
 have p2:=h.c2
 have f1:=h.fr 1
 have t2:(r.m != 0)=true:=bne_iff_ne.2 hm
 clear h
 go_enter Tryz.func216,Tryz.ntmps216
 go_wp2_with fail
 refine bodyPost_ret (results_none rfl _ _ _) rfl ?_
 exact ⟨rfl,rfl⟩
theorem setMark_yes {b:Int} (h:Pm B w g r) (hm:r.m=0):Calls Tryz.prog 216 #[.pointer (some ⟨g,0,none⟩),.int .u8 b] w fun e w'=>e=.returned (.tuple #[])∧w'=w.setCell ⟨g,2,none⟩ (.int .u8 b):=by
 have p2:=h.c2
 have f2:=h.fr 2
 rw [hm] at p2
 clear h hm
 go_enter Tryz.func216,Tryz.ntmps216
 go_wp2_with fail
 go_end0
 exact ⟨rfl,rfl⟩
def NmPost (B g:Nat) (S:Nat→Prop) (w0:World) (r:PaR) (N:List Int) (e:Ending) (w':World):Prop:=e=.returned (.tuple #[])∧∃ r',Mid B g S w0 w' r'∧SameF r r'∧r'.N=N
set_option maxHeartbeats 1600000 in
theorem addNumber_any (hB:B≤w0.heap.size) (h:Mid B g S w0 w r) (hn:r.np≤17):Calls Tryz.prog 219 #[.pointer (some ⟨g,0,none⟩)] w (NmPost B g S w0 r (addN r.N)):=by
 have p3:=h.pm.c3
 have hl:=h.pm.nl
 by_cases hle:r.np≤16
 · have e1:addN r.N=r.N ++ [0]:=by unfold addN;rw [if_pos (by omega)]
   rw [e1]
   have hbl:Below w.heap.size w (w.alloc (.cells #[.int .i64 0] 3)):=(Below.refl _ _).alloc (Nat.le_refl _) _
   have M1:=Lib.hid (And.intro (h.below hB hbl) (show Ik .i64 (w.alloc (.cells #[.int .i64 0] 3)) (some ⟨w.heap.size,0,none⟩) 1 [0] from Ik.one _ _ _ _))
   have HB:=Lib.hid hB
   obtain ⟨i0,hi,hz0,hz1,hz2⟩:=info_parts infoInt3
   have H0:=Lib.hid (And.intro hi (And.intro hz0 (And.intro hz1 hz2)))
   have hnl:=Lib.hid (show r.np+1≤maxLen by unfold maxLen;omega)
   clear hi hz0 hz1 hz2 hB h hbl hl e1 hn
   go_enter Tryz.func219,Tryz.ntmps219
   go_wp2_with (refine wpList_append_lies _ rfl (.tmp 12) (.tmp 13) 60 rfl B 3 i0 (.int .i64 0) 1 8 Tryz.underlying60 H0.out.1 H0.out.2.1 H0.out.2.2.1 H0.out.2.2.2 rfl (by omega) (.slice r.P r.np r.cp) r.np (r.N.map (Value.int .i64)) rfl M1.out.1.pm.num ⟨w.heap.size,0,none⟩ 1 1 ([0].map (Value.int .i64)) rfl rfl M1.out.2.news (oneCellsI _ _) (by omega) hnl.out (by omega) (Nat.le_trans HB.out M1.out.1.out.bel.size) _ rfl ?_)
   intro bT cT w2 o2 g2 hat hlt
   have o2:w2.ownsRow B 3 1 (.slice (some ⟨bT,0,none⟩) (r.np+1) cT) (r.np+1) ((r.N ++ [0]).map (Value.int .i64)):=by rw [List.map_append];exact o2
   have q3:w2.cell? ⟨g,3,none⟩=some (.slice r.P r.np r.cp):=(World.cell?_of_block (g2.block g M1.out.1.pm.lt (fun e=>M1.out.1.pm.nums_off e.symm))).trans M1.out.1.pm.c3
   have f3:w2.frozen? ⟨g,3,none⟩=false:=frozen_of_row _ _ _ _ _ ((g2.block g M1.out.1.pm.lt (fun e=>M1.out.1.pm.nums_off e.symm)).trans M1.out.1.pm.blk)
   have M2:=Lib.hid (M1.out.1.apn HB.out g2 o2 (by rcases hat with e | e;exact .inl e;exact .inr (by simp at e ⊢;omega)))
   clear o2 g2 hat hlt M1
   go_wp2_with fail
   go_end0
   exact ⟨rfl,_,M2.out,⟨rfl,rfl,rfl,rfl⟩,rfl⟩
 · have X:NmPost B g S w0 r (addN r.N) (.returned (.tuple #[])) w:=⟨rfl,r,h,SameF.refl r,by unfold addN;rw [if_neg (by omega)]⟩
   have HX:=Lib.hid X
   clear X h hB hl hn
   go_enter Tryz.func219,Tryz.ntmps219
   go_wp2_with fail
   go_end0
   exact HX.out
theorem firstNumber_any (hB:B≤w0.heap.size) (h:Mid B g S w0 w r) (hn:r.np≤17):Calls Tryz.prog 218 #[.pointer (some ⟨g,0,none⟩)] w (NmPost B g S w0 r (firstN r.N)):=by
 have p3:=h.pm.c3
 have hl:=h.pm.nl
 by_cases he:r.np=0
 · have e1:r.N=[]:=List.eq_nil_of_length_eq_zero (by omega)
   have H:=Lib.hid (addNumber_any hB h hn)
   rw [e1] at H ⊢
   rw [he] at p3
   clear h hB hl hn he e1
   go_enter Tryz.func218,Tryz.ntmps218
   go_wp2_with fail
   refine H.out.mono ?_
   rintro e w1 ⟨rfl,hX⟩
   have HX:=Lib.hid hX
   clear hX
   go_wp2_with fail
   go_end0
   exact ⟨rfl,HX.out⟩
 · have X:NmPost B g S w0 r (firstN r.N) (.returned (.tuple #[])) w:=⟨rfl,r,h,SameF.refl r,by unfold firstN;rw [if_neg (fun e=>he (by rw [← hl,e];rfl))]⟩
   have HX:=Lib.hid X
   clear X h hB hl hn
   go_enter Tryz.func218,Tryz.ntmps218
   go_wp2_with fail
   go_end0
   exact HX.out
end
open Go.RowKit
theorem belowNp {B:Nat} {a w:World} (h:Below B a w) (q:Nat):Below B a (w.drewN q):=below_drewN' h q
theorem below_szp {B:Nat} {a b:World} (h:Below B a b):a.heap.size≤b.heap.size:=h.size
section
variable {B:Nat} {w:World} {g:Nat} {r:PaR} {s:PaS}
theorem Ik.take {q:IntKind} {w:World} {A:Option Addr} {n:Nat} {zs:List Int} (h:Ik q w A n zs) {k:Nat} (hk:k≤n):Ik q w A k (zs.take k):=by
 refine ⟨by rw [List.length_take,h.len];omega,fun h0=>?_⟩
 obtain ⟨ad,e,hb,hc⟩:=h.at_ (by omega)
 refine ⟨ad,e,hb,fun j hj=>?_⟩
 rw [hc j (by omega),getD_lt (by have:=h.len;omega),getD_lt (by rw [List.length_take,h.len];omega),List.getElem_take]
set_option maxHeartbeats 3200000 in
theorem controlEnd_any {b:Int} (ht:TabB B) (hB:B≤w.heap.size) (h:Pm B w g r) (hr:Rel r s) (hs:s.st=3) :
  Calls Tryz.prog 215 #[.pointer (some ⟨g,0,none⟩),.int .u8 b] w (FdPost B g (Blk g r) [acCsi s.m b (s.ps.take 16)] pa0 w):=by
 have p1:=h.c1
 have f1:=h.fr 1
 obtain ⟨hnl,hnt,hok⟩:=hr.n3 hs
 have hl:=h.nl
 have hm:=hr.m (.inr hs)
 have ho:r.o=[]:=by rw [hr.o,hr.od (by omega)]
 obtain ⟨w1,hw1⟩:∃ w1,w1=w.setCell ⟨g,1,none⟩ (.int .i64 0):=⟨_,rfl⟩
 have M1:=Lib.hid (show Mid B g (Blk g r) w w1 _ from by rw [hw1];exact (Mid.refl h).set1 hB 0)
 obtain ⟨k,hk⟩:∃ k,k=min r.np 16:=⟨_,rfl⟩
 have hI:=Lib.hid (show Ik .i64 w1 r.P k (s.ps.take 16) from by
  have h1:=(Ik.own M1.out.pm.num).take (k:=k) (by simp only;omega)
  simp only at h1
  have e:r.N.take k=s.ps.take 16:=by
   rw [← hnt]
   by_cases hle:r.np≤16
   · rw [List.take_of_length_le (by omega),List.take_of_length_le (by omega)]
   · rw [show k=16 by omega]
  rw [e] at h1
  exact h1)
 have HK:=Lib.hid (show k≤16∧k≤r.np∧r.np≤17 from by omega)
 have H:=Lib.hid (And.intro ht (And.intro hB (And.intro hm ho)))
 have hnp:=Lib.hid h
 have key:∀ (w2 w3:World) (A':Option Addr) (c':Nat),Below w1.heap.size w1 w2→w2.ownsRow w1.heap.size 3 1 (.slice A' k c') k ((s.ps.take 16).map (Value.int .i64))→Below w2.heap.size w2 w3 →
   FdPost B g (Blk g r) [acCsi s.m b (s.ps.take 16)] pa0 w (.returned (.slice (some ⟨w3.heap.size,0,none⟩) 1 1)) (w3.alloc (.cells (rowV acV [⟨acCsi r.m b (s.ps.take 16),A',k,c',none,0,0⟩]).toArray 62)):=by
  intro w2 w3 A' c' hb2 hown hb3
  have hal:Below w3.heap.size w3 (w3.alloc (.cells (rowV acV [⟨acCsi r.m b (s.ps.take 16),A',k,c',none,0,0⟩]).toArray 62)):=(Below.refl _ _).alloc (Nat.le_refl _) _
  have hb4:Below w2.heap.size w2 (w3.alloc (.cells (rowV acV [⟨acCsi r.m b (s.ps.take 16),A',k,c',none,0,0⟩]).toArray 62)):=hb3.trans (hal.mono hb3.size)
  have hsz:w.heap.size≤w1.heap.size:=M1.out.out.bel.size
  obtain ⟨A2,c2,e2,h1,h2⟩:=own_shape hown
  injection e2 with _ _ e2
  subst e2
  have hR:[acCsi s.m b (s.ps.take 16)]=acts [(⟨acCsi r.m b (s.ps.take 16),A',k,c',none,0,0⟩:AcR)]:=by rw [← hm];rfl
  rw [hR]
  refine FdPost.of (H:=w.heap.size) (A:=some ⟨w3.heap.size,0,none⟩) ht (((M1.out.below hB hb2).below hB hb3).below hB hal) (Rel.pa0 rfl ho) ⟨⟨lit_ac w3 _,fun x hx=>?_⟩,?_,?_,?_⟩ (Nat.le_refl _) (fun q hq=>hnp.out.hi q hq)
  · rw [List.mem_singleton.1 hx]
    exact ⟨(Ik.own hown).below hb4,Sb.nil _ _,h1,h2,Nat.le_refl _,by simp only;unfold maxLen;omega⟩
  · rintro ad e _
    injection e with e
    rw [← e]
    exact Nat.le_trans hsz (Nat.le_trans hb2.size hb3.size)
  · intro x hx ad e hn
    rw [List.mem_singleton.1 hx] at e
    obtain ⟨⟨k1,k2⟩,k3⟩:=fresh_row hown (by decide) ad e
    exact ⟨Nat.le_trans hsz k1,k3.same (hb4.block _ k2)⟩
  · intro x hx ad e hn
    rw [List.mem_singleton.1 hx] at hn
    exact (Nat.lt_irrefl 0 hn).elim
 have KEY:=Lib.hid key
 clear key ht hB h hr hm ho hnl hnt hok hl hs
 go_enter Tryz.func215,Tryz.ntmps215
 go_upto_region 2 with fail
 rw [← hw1]
 clear hw1 p1 f1
 have p2:=M1.out.pm.c2
 have p3:=M1.out.pm.c3
 simp only at p2 p3
 have hmin:min (r.np:Int) 16=(k:Int):=by omega
 have hcap:r.np≤r.cp:=by obtain ⟨_,_,e,h1,_⟩:=own_shape hnp.out.num;injection e with _ _ e;omega
 have hcapi:(k:Int)≤(r.cp:Int):=by omega
 have hnn:(0:Int)≤(k:Int):=by omega
 have htn:((k:Int)).toNat=k:=by omega
 clear hk
 go_region
 have SX:=Lib.hid (show ∀ w',Below w1.drew.heap.size w1.drew w'→(Below w1.drew.heap.size w1.drew w'∧w'.cell? ⟨g,2,none⟩=some (.int .u8 r.m)) from fun w' hb'=>⟨hb',(hb'.cell (p:=⟨g,2,none⟩) M1.out.pm.lt).trans p2⟩)
 have HI:=Lib.hid (show ∀ w',Below w1.drew.heap.size w1.drew w'→Below w1.heap.size w1 w' from fun w' hb'=>(Below.refl _ w1).drew.trans hb')
 generalize w1.drew=w2 at SX HI ⊢
 have hb0:Below w2.heap.size w2 w2:=Below.refl _ _
 clear p2 p3 hmin hcap hcapi hnn htn
 go_upto_region 3 with fail
 go_region_held3 (fun w'=>Below w2.heap.size w2 w'∧w'.cell? ⟨g,2,none⟩=some (.int .u8 r.m))
  ((refine SX.out _ ?_;(try go_split_ands);first | assumption | exact belowNp (by assumption) 1 | exact Below.alloc (by assumption) (Below.size (by assumption)) _))
  ((first | (go_at_call 250;refine (cloneI_any (hI.out.below (HI.out _ (by (try go_split_ands);assumption))) (by have:=HK.out;omega)).mono ?_;rintro e w4 ⟨A4,c4,rfl,hown4,hb4⟩;(try go_split_ands);have hb5:=Below.trans (B:=w2.heap.size) (by assumption) (hb4.mono (below_szp (a:=w2) (B:=w2.heap.size) (by assumption))))))
 have X:=Lib.hid (KEY.out w4 w4 A4 c4 (HI.out _ hb5) (own_base hown4 (HI.out _ hb0).size) (Below.refl _ _))
 clear KEY SX HI
 go_wp2_with fail
 go_ret
 exact X.out
end
open Go.RowKit
section
variable {B:Nat} {w:World} {g:Nat} {r:PaR} {s:PaS}
theorem Rel.ctl {m:Int} {ps:List Int} (h1:r.st=3) (h2:r.m=m) (h3:KeepN r.N ps) (ho:r.o=[]):Rel r ⟨3,m,ps,[],[]⟩ :=
 ⟨h1,(fun _=>h2),(fun h=>by cases h),(fun h=>by cases h),(fun _=>⟨h3.l,h3.t,h3.k⟩),(fun h=>by cases h),ho,op_nil,(fun _=>rfl),Nat.le_of_ble_eq_true rfl⟩
set_option maxHeartbeats 3200000 in
theorem inControl_any {b:Int} (ht:TabB B) (hB:B≤w.heap.size) (h:Pm B w g r) (hr:Rel r s) (hs:s.st=3) (h8:32≤b∧b≤126) {L:List AcS} {s':PaS} (hL:ctlP s b=(L,s')) :
  Calls Tryz.prog 152 #[.pointer (some ⟨g,0,none⟩),.int .u8 b] w (FdPost B g (Blk g r) L s' w):=by
 have p1:=h.c1
 have p2:=h.c2
 have p3:=h.c3
 have f1:=h.fr 1
 have hn3:=hr.n3 hs
 have hK:KeepN r.N s.ps:=⟨hn3.1,hn3.2.1,hn3.2.2⟩
 have hl:=h.nl
 have hn17:r.np≤17:=by have:=hK.l;omega
 have hm:=hr.m (.inr hs)
 have ho:r.o=[]:=by rw [hr.o,hr.od (by omega)]
 have hst:r.st=3:=by rw [hr.st,hs];rfl
 have M:=Mid.refl h
 unfold ctlP at hL
 by_cases h64:64≤b
 · rw [if_pos h64] at hL
   injection hL with h1 h2
   subst h1
   subst h2
   have X:=Lib.hid (controlEnd_any (b:=b) ht hB h hr hs)
   clear ht hB h hr hs p1 p2 p3 f1 hn3 hK hl hn17 hm ho hst M
   go_enter Tryz.func152,Tryz.ntmps152
   go_wp2_with fail
   refine X.out.mono ?_
   intro e w1 hX
   obtain ⟨A,c,R,S',rfl,h2⟩:=hX
   have Y:=Lib.hid (show FdPost B g (Blk g r) [acCsi s.m b (s.ps.take 16)] pa0 w (.returned (.slice A R.length c)) w1 from ⟨A,c,R,S',rfl,h2⟩)
   clear h2
   go_wp2_with fail
   go_ret
   exact Y.out
 rw [if_neg h64] at hL
 have hlost:FdPost B g (Blk g r) [] (paIn 4) w (.returned (.slice none 0 0)) (w.setCell ⟨g,1,none⟩ (.int .i64 4)):=FdPost.none (s:=paIn 4) ht (M.set1 hB 4) (Rel.lone (.inr (.inl rfl)) rfl ho)
 by_cases h60:60≤b
 · rw [if_neg (show ¬ b<48 by omega),if_neg (show ¬ b≤57 by omega),if_neg (show ¬ b≤59 by omega)] at hL
   by_cases hne:r.np=0
   · have hps:s.ps=[]:=hK.empty.1 (List.eq_nil_of_length_eq_zero (by omega))
     by_cases hm0:r.m=0
     · rw [if_neg (by rw [← hm,hm0];decide),if_pos ⟨by rw [← hm];exact hm0,hps⟩] at hL
       injection hL with h1 h2
       subst h1
       subst h2
       have X:=Lib.hid (FdPost.none (s:=⟨3,b,[],[],[]⟩) ht (M.set2 hB b) (Rel.ctl hst rfl (by rw [← hps];exact hK) ho))
       have HS:=Lib.hid (setMark_yes (b:=b) h hm0)
       rw [hne] at p3
       clear ht hB h hr hs p1 p2 f1 hn3 hK hl hn17 hm ho hst M hlost hne hps hm0
       go_enter Tryz.func152,Tryz.ntmps152
       go_wp2_with fail
       refine HS.out.mono ?_
       rintro e w1 ⟨rfl,rfl⟩
       go_wp2_with fail
       go_ret
       exact X.out
     · have hL2:(L,s')=([],paIn 4):=by
        rw [← hL]
        by_cases hbt:32≤s.m∧s.m<48
        · rw [if_pos hbt]
        · rw [if_neg hbt,if_neg (fun e=>hm0 (by rw [hm];exact e.1))]
       injection hL2 with h1 h2
       subst h1
       subst h2
       have X:=Lib.hid hlost
       have HS:=Lib.hid (setMark_no (b:=b) h hm0)
       rw [hne] at p3
       clear ht hB h hr hs p1 p2 f1 hn3 hK hl hn17 hm ho hst M hlost hne hps hm0 hL
       go_enter Tryz.func152,Tryz.ntmps152
       go_wp2_with fail
       refine HS.out.mono ?_
       rintro e w1 ⟨rfl,rfl⟩
       go_wp2_with fail
       go_ret
       exact X.out
   · have hps:¬ s.ps=[]:=fun e=>by have:=hK.empty.2 e;rw [this] at hl;exact hne hl.symm
     have hL2:(L,s')=([],paIn 4):=by
      rw [← hL]
      by_cases hbt:32≤s.m∧s.m<48
      · rw [if_pos hbt]
      · rw [if_neg hbt,if_neg (fun e=>hps e.2)]
     injection hL2 with h1 h2
     subst h1
     subst h2
     have X:=Lib.hid hlost
     have hpos:(0:Int)<(r.np:Int):=by omega
     clear ht hB h hr hs p2 hn3 hK hl hn17 hm ho hst M hlost hne hps hL
     go_enter Tryz.func152,Tryz.ntmps152
     go_wp2_with fail
     go_ret
     exact X.out
 by_cases h48:b<48
 · by_cases hm0:r.m=0
   · rw [if_neg (by rw [← hm,hm0];decide),if_pos h48,if_pos (by rw [← hm];exact hm0)] at hL
     injection hL with h1 h2
     subst h1
     subst h2
     have X:=Lib.hid (FdPost.none (s:=⟨3,b,s.ps,[],[]⟩) ht (M.set2 hB b) (Rel.ctl hst rfl hK ho))
     have HS:=Lib.hid (setMark_yes (b:=b) h hm0)
     clear ht hB h hr hs p1 p2 p3 f1 hn3 hK hl hn17 hm ho hst M hlost hm0
     go_enter Tryz.func152,Tryz.ntmps152
     go_wp2_with fail
     refine HS.out.mono ?_
     rintro e w1 ⟨rfl,rfl⟩
     go_wp2_with fail
     go_ret
     exact X.out
   · have hL2:(L,s')=([],paIn 4):=by
      rw [← hL]
      by_cases hbt:32≤s.m∧s.m<48
      · rw [if_pos hbt]
      · rw [if_neg hbt,if_pos h48,if_neg (fun e=>hm0 (by rw [hm];exact e))]
     injection hL2 with h1 h2
     subst h1
     subst h2
     have X:=Lib.hid hlost
     have HS:=Lib.hid (setMark_no (b:=b) h hm0)
     clear ht hB h hr hs p1 p2 p3 f1 hn3 hK hl hn17 hm ho hst M hlost hm0 hL
     go_enter Tryz.func152,Tryz.ntmps152
     go_wp2_with fail
     refine HS.out.mono ?_
     rintro e w1 ⟨rfl,rfl⟩
     go_wp2_with fail
     go_ret
     exact X.out
 by_cases hbt:32≤s.m∧s.m<48
 · rw [if_pos hbt] at hL
   injection hL with h1 h2
   subst h1
   subst h2
   have X:=Lib.hid hlost
   have hd:decide (32≤r.m∧r.m<48)=true:=by rw [hm];exact decide_eq_true hbt
   clear ht hB h hr hs p3 hn3 hK hl hn17 hm ho hst M hlost hbt
   go_enter Tryz.func152,Tryz.ntmps152
   go_wp2_with fail
   refine (isBetween_any r.m w).mono ?_
   rintro e w1 ⟨rfl,rfl⟩
   rw [hd]
   go_wp2_with fail
   go_ret
   exact X.out
 rw [if_neg hbt,if_neg h48] at hL
 have hd:decide (32≤r.m∧r.m<48)=false:=by rw [hm];exact decide_eq_false hbt
 by_cases h58:58≤b
 · rw [if_neg (show ¬ b≤57 by omega),if_pos (show b≤59 by omega)] at hL
   injection hL with h1 h2
   subst h1
   subst h2
   have H:=Lib.hid (And.intro ht (And.intro hB (And.intro hK (And.intro hm (And.intro ho hst)))))
   have HF:=Lib.hid (firstNumber_any hB M hn17)
   have hx:=Lib.hid (show (firstN r.N).length≤17 by unfold firstN;split;decide;omega)
   clear ht hB h hr hs p1 p3 f1 hn3 hK hl hn17 hm ho hst M hlost hbt
   go_enter Tryz.func152,Tryz.ntmps152
   go_wp2_with fail
   refine (isBetween_any r.m w).mono ?_
   rintro e w1 ⟨rfl,rfl⟩
   rw [hd]
   clear hd p2
   go_wp2_with fail
   refine HF.out.mono ?_
   rintro e w1 ⟨rfl,r1,hM1,hS1,hN1⟩
   have X1:=Lib.hid (And.intro hM1 (And.intro hS1 hN1))
   clear hM1 hS1 hN1 HF
   go_wp2_with fail
   refine (addNumber_any H.out.2.1 X1.out.1 (by have:=X1.out.1.pm.nl;rw [X1.out.2.2] at this;have:=hx.out;omega)).mono ?_
   rintro e w2 ⟨rfl,r2,hM2,hS2,hN2⟩
   have X2:=Lib.hid (And.intro hM2 (And.intro (X1.out.2.1.trans hS2) (show r2.N=addN (firstN r.N) by rw [hN2,X1.out.2.2])))
   clear hM2 hS2 hN2 X1
   go_wp2_with fail
   go_ret
   exact FdPost.none H.out.1 X2.out.1 (Rel.ctl (by rw [X2.out.2.1.st];exact H.out.2.2.2.2.2) (by rw [X2.out.2.1.m];exact H.out.2.2.2.1) (by rw [X2.out.2.2];exact H.out.2.2.1.semi) (by rw [X2.out.2.1.o];exact H.out.2.2.2.2.1))
 · rw [if_pos (show b≤57 by omega)] at hL
   injection hL with h1 h2
   subst h1
   subst h2
   have H:=Lib.hid (And.intro ht (And.intro hB (And.intro hK (And.intro hm (And.intro ho hst)))))
   have HF:=Lib.hid (firstNumber_any hB M hn17)
   have hx:=Lib.hid (show (firstN r.N).length≤17 by unfold firstN;split;decide;omega)
   clear ht hB h hr hs p1 p3 f1 hn3 hK hl hn17 hm ho hst M hlost hbt
   go_enter Tryz.func152,Tryz.ntmps152
   go_wp2_with fail
   refine (isBetween_any r.m w).mono ?_
   rintro e w1 ⟨rfl,rfl⟩
   rw [hd]
   clear hd p2
   go_wp2_with fail
   refine HF.out.mono ?_
   rintro e w1 ⟨rfl,r1,hM1,hS1,hN1⟩
   have hnl1:=hM1.pm.nl
   have hpos:0<r1.np:=by rw [← hnl1,hN1];exact firstN_len _
   obtain ⟨j,hj⟩:∃ j,r1.np=j+1:=⟨r1.np-1,by omega⟩
   obtain ⟨bP,cap,hform,_,_⟩:=hM1.pm.num.form hpos
   injection hform with hP _ _
   have X1:=Lib.hid (And.intro hM1 (And.intro hS1 (And.intro hN1 (And.intro hP (And.intro hj (show r1.np≤17 by rw [← hnl1,hN1];exact hx.out))))))
   have p3:=hM1.pm.c3
   rw [hP,hj] at p3
   clear hM1 hS1 hN1 HF hP hpos hnl1 hx
   have k1:IntKind.i64.wrap (j:Int)=(j:Int):=by rw [IntKind.wrap_i64];have:=X1.out.2.2.2.2;omega
   have k2:wrap64 (j:Int)=(j:Int):=by unfold wrap64;have:=X1.out.2.2.2.2;omega
   have k3:(j:Int)<(j:Int)+1:=by omega
   have k4:(0:Int)≤(j:Int):=by omega
   have k5:((j:Int)).toNat=j:=by omega
   go_upto_region 15 with fail
   go_region
   have hI:Ik .i64 w1.drew (some ⟨bP,0,none⟩) (j+1) (firstN r.N):=by
    have h1:=Ik.own X1.out.1.pm.num
    rw [X1.out.2.2.1,X1.out.2.2.2.1,X1.out.2.2.2.2.1] at h1
    exact h1.below (Below.refl _ _).drew
   have hc:w1.drew.cell? ⟨bP,j,none⟩=some (.int .i64 ((firstN r.N).getD j 0)):=by
    have h1:=hI.cell (k:=j) (by omega)
    rw [addHead] at h1
    exact h1
   have hrow:HasT w1.drew bP 3∧w1.drew.frozen? ⟨bP,j,none⟩=false:=by
    have h1:=X1.out.1.pm.num
    rcases h1.2 with ⟨h2,h3⟩ | ⟨g',cap',cur,hv,hb,hg',hr⟩
    · rw [X1.out.2.2.2.1] at h2;cases h2
    · rw [X1.out.2.2.2.1] at hv
      injection hv with hv
      injection hv with hv
      injection hv with hv
      subst hv
      exact ⟨⟨_,_,hg'⟩,frozen_of_row w1 bP j _ _ hg'⟩
   have hfr:=hrow.2
   have M2:=Lib.hid (X1.out.1.below H.out.2.1 (Below.refl _ _).drew)
   have hlen:(firstN r.N).length-1=j:=by have:=X1.out.1.pm.nl;rw [X1.out.2.2.1,X1.out.2.2.2.2.1] at this;omega
   obtain ⟨x,hx⟩:∃ x,x=(firstN r.N).getD j 0:=⟨_,rfl⟩
   have hx9:0≤x∧x≤9999:=by
    rw [hx]
    have h1:=H.out.2.2.1.first.k
    have h2:=firstN_len r.N
    rw [getD_lt (show j<(firstN r.N).length by omega)]
    exact h1 _ (List.getElem_mem _)
   have HX:=Lib.hid (And.intro hx hlen)
   rw [← hx] at hc
   have m1:IntKind.i64.wrap (10*x)=10*x:=by rw [IntKind.wrap_i64];omega
   have m2:IntKind.u8.wrap (b-48)=b-48:=by rw [IntKind.wrap_u8];omega
   have m3:IntKind.i64.wrap (b-48)=b-48:=by rw [IntKind.wrap_i64];omega
   have m4:IntKind.i64.wrap (10*x+(b-48))=10*x+(b-48):=by rw [IntKind.wrap_i64];omega
   have n1:wrap64 (10*x)=10*x:=by unfold wrap64;omega
   have n3:wrap64 (b-48)=b-48:=by unfold wrap64;omega
   have n4:wrap64 (10*x+(b-48))=10*x+(b-48):=by unfold wrap64;omega
   generalize w1.drew=w2 at hc hfr M2 ⊢
   clear hI hrow hx hlen k1 k2 k3 k4 k5 p3
   go_wp2_with fail
   go_ret
   have hd0:(0:Int)≤b-48:=by omega
   have hk:=H.out.2.2.1.dig hd0
   rw [HX.out.2,← HX.out.1] at hk
   refine FdPost.none H.out.1 (M2.out.dig H.out.2.1 X1.out.2.2.2.1 (by rw [X1.out.2.2.2.2.1];omega) (min (10*x+(b-48)) 9999)) (Rel.ctl (by show r1.st=3;rw [X1.out.2.1.st];exact H.out.2.2.2.2.2) (by show r1.m=s.m;rw [X1.out.2.1.m];exact H.out.2.2.2.1) ?_ (by show r1.o=[];rw [X1.out.2.1.o];exact H.out.2.2.2.2.1))
   show KeepN (r1.N.set j (min (10*x+(b-48)) 9999)) (digP s.ps (b-48))
   rw [X1.out.2.2.1]
   exact hk
end
open Go.RowKit
section
variable {B:Nat} {w:World} {g:Nat} {r:PaR} {s:PaS}
def seqP (s:PaS) (b:Int):List AcS × PaS :=
 if s.st=1 then escP s b else if s.st=2 then (if 48≤b then ([],pa0) else ([],s)) else if s.st=4 then (if 64≤b then ([],pa0) else ([],s)) else ctlP s b
theorem FdPost.ret {S:Nat→Prop} {L:List AcS} {s':PaS} {e:Ending} {w':World} (h:FdPost B g S L s' w e w'):∃ v,e=.returned v∧FdPost B g S L s' w (.returned v) w':=by
 obtain ⟨A,c,R,S',rfl,h2⟩:=h
 exact ⟨_,rfl,A,c,R,S',rfl,h2⟩
set_option maxHeartbeats 3200000 in
theorem inSequence_any {b:Int} (ht:TabB B) (hB:B≤w.heap.size) (h:Pm B w g r) (hr:Rel r s) (hs:s.st=1∨s.st=2∨s.st=3∨s.st=4) (h8:32≤b∧b≤126) {L:List AcS} {s':PaS} (hL:seqP s b=(L,s')) :
  Calls Tryz.prog 87 #[.pointer (some ⟨g,0,none⟩),.int .u8 b] w (FdPost B g (Blk g r) L s' w):=by
 have p1:=h.c1
 have f1:=h.fr 1
 rw [hr.st] at p1
 have M:=Mid.refl h
 have hground:s.st≠0→FdPost B g (Blk g r) [] pa0 w (.returned (.slice none 0 0)) (w.setCell ⟨g,1,none⟩ (.int .i64 0)):=fun h0=>FdPost.none (s:=pa0) ht (M.set1 hB 0) (Rel.pa0 rfl (by show r.o=[];rw [hr.o,hr.od h0]))
 have hstay:=FdPost.none ht M hr
 unfold seqP at hL
 rcases hs with h1 | h1 | h1 | h1
 · rw [if_pos h1] at hL
   have X:=Lib.hid (inEscape_any ht hB h hr h1 hL)
   rw [h1] at p1
   clear ht hB h hr M hground hstay h1 hL
   go_enter Tryz.func87,Tryz.ntmps87
   go_wp2_with fail
   refine X.out.mono ?_
   intro e w1 hX
   obtain ⟨v,rfl,hX⟩:=hX.ret
   have Y:=Lib.hid hX
   clear hX X
   go_wp2_with fail
   go_ret
   exact Y.out
 · rw [if_neg (by omega),if_pos h1] at hL
   rw [h1] at p1
   by_cases hb:48≤b
   · rw [if_pos hb] at hL
     injection hL with e1 e2
     subst e1
     subst e2
     have X:=Lib.hid (hground (by omega))
     clear ht hB h hr M hground hstay h1
     go_enter Tryz.func87,Tryz.ntmps87
     go_wp2_with fail
     go_ret
     exact X.out
   · rw [if_neg hb] at hL
     injection hL with e1 e2
     subst e1
     subst e2
     have X:=Lib.hid hstay
     clear ht hB h hr M hground hstay h1
     go_enter Tryz.func87,Tryz.ntmps87
     go_wp2_with fail
     go_ret
     exact X.out
 · rw [if_neg (by omega),if_neg (by omega),if_neg (by omega)] at hL
   have X:=Lib.hid (inControl_any ht hB h hr h1 h8 hL)
   rw [h1] at p1
   clear ht hB h hr M hground hstay h1 hL
   go_enter Tryz.func87,Tryz.ntmps87
   go_wp2_with fail
   refine X.out.mono ?_
   intro e w1 hX
   obtain ⟨v,rfl,hX⟩:=hX.ret
   have Y:=Lib.hid hX
   clear hX X
   go_wp2_with fail
   go_ret
   exact Y.out
 · rw [if_neg (by omega),if_neg (by omega),if_pos h1] at hL
   rw [h1] at p1
   by_cases hb:64≤b
   · rw [if_pos hb] at hL
     injection hL with e1 e2
     subst e1
     subst e2
     have X:=Lib.hid (hground (by omega))
     clear ht hB h hr M hground hstay h1
     go_enter Tryz.func87,Tryz.ntmps87
     go_wp2_with fail
     go_ret
     exact X.out
   · rw [if_neg hb] at hL
     injection hL with e1 e2
     subst e1
     subst e2
     have X:=Lib.hid hstay
     clear ht hB h hr M hground hstay h1
     go_enter Tryz.func87,Tryz.ntmps87
     go_wp2_with fail
     go_ret
     exact X.out
end
theorem pNew_any {w:World} (hT:Known w):Calls Tryz.prog 72 #[] w fun e w'=>∃ g S,e=.returned (.pointer (some ⟨g,0,none⟩))∧Pz w.heap.size w' g pa0 S∧Below w.heap.size w w':=by
 have HT:=Lib.hid hT.bound
 clear hT
 go_enter Tryz.func72,Tryz.ntmps72
 go_wp2_with fail
 refine (new_any' w).mono ?_
 rintro e w1 ⟨rfl,hD,hb⟩
 have X:=Lib.hid (And.intro hD hb)
 clear hD hb
 go_wp2_with fail
 go_ret
 have hal:Below w1.heap.size w1 (w1.alloc (.cells (paA ⟨w.heap.size,0,0,none,0,0,[],none,0,0,[],[]⟩) 137)):=(Below.refl _ _).alloc (Nat.le_refl _) _
 exact ⟨w1.heap.size,Blk w1.heap.size ⟨w.heap.size,0,0,none,0,0,[],none,0,0,[],[]⟩,rfl,⟨HT.out,⟨w.heap.size,0,0,none,0,0,[],none,0,0,[],[]⟩,⟨heap_alloc_new w1 _,X.out.2.size,X.out.1.below hal,Nat.le_refl _,World.ownsRow_nil _ _ _ _,World.ownsRow_nil _ _ _ _⟩,Rel.pa0 rfl rfl,rfl⟩,X.out.2.trans (hal.mono X.out.2.size)⟩
set_option maxHeartbeats 6400000 in
theorem pFeed_any {B:Nat} {w:World} {g:Nat} {s:PaS} {S:Nat→Prop} {b:Int} (hT:Known w) (h:Pz B w g s S) (hB:B≤w.heap.size) (h8:0≤b∧b≤255) :
  Calls Tryz.prog 40 #[.pointer (some ⟨g,0,none⟩),.int .u8 b] w (FdPost B g S (feedP s b).1 (feedP s b).2 w):=by
 obtain ⟨L,s',hL⟩:∃ L s',feedP s b=(L,s'):=⟨_,_,rfl⟩
 rw [hL]
 obtain ⟨ht,r,h,hr,rfl⟩:=h
 have p1:=h.c1
 have f1:=h.fr 1
 rw [hr.st] at p1
 have M:=Mid.refl h
 unfold feedP at hL
 have hle:=hr.le
 by_cases h27:b=27
 · subst h27
   have X:=Lib.hid (show Calls Tryz.prog 84 #[.pointer (some ⟨g,0,none⟩)] w (FdPost B g (Blk g r) L s' w) from by
    have h1:=begin_any ht hB h hr
    rw [if_neg (fun e=>e.2 rfl),if_neg (by decide),if_pos rfl] at hL
    injection hL with e1 e2
    rw [← e1,← e2]
    exact h1)
   clear ht hB h hr M hL f1
   go_enter Tryz.func40,Tryz.ntmps40
   go_wp2_with fail
   refine X.out.mono ?_
   intro e w1 hX
   obtain ⟨v,rfl,hX⟩:=hX.ret
   have Y:=Lib.hid hX
   clear hX X
   go_wp2_with fail
   go_ret
   exact Y.out
 by_cases h0:s.st=0
 · rw [if_pos ⟨h0,h27⟩,← hr.o] at hL
   have X:=Lib.hid (show Calls Tryz.prog 86 #[.pointer (some ⟨g,0,none⟩),.int .u8 b] w (FdPost B g (Blk g r) L s' w) from by
    have h1:=inGround_any ht hB hT h (by rw [hr.st,h0];rfl) (by rw [hr.o];exact hr.op) h8
    rw [hL] at h1
    exact h1)
   rw [h0] at p1
   have hset:=Lib.hid (show 128≤b→Calls Tryz.prog 86 #[.pointer (some ⟨g,0,none⟩),.int .u8 b] (w.setCell ⟨g,1,none⟩ (.int .i64 0)) (FdPost B g (Blk g r) L s' w) from fun _=>by
    have M1:=M.set1 hB 0
    have hT1:Tabs (w.setCell ⟨g,1,none⟩ (.int .i64 0)):=by
     have hne:∀ q,q<B→(w.setCell ⟨g,1,none⟩ (.int .i64 0)).heap[q]?=w.heap[q]?:=fun q hq=>heap_setCell_other w _ q _ (fun e=>by have h1:=h.gB;have e:q=g:=e;omega)
     exact ⟨⟨fun c hc=>(World.cell?_of_block (hne _ ht.1)).trans (hT.u8.1 c hc),fun i hi=>⟨(World.cell?_of_block (hne _ ht.2.1)).trans (hT.u8.2 i hi).1,(World.cell?_of_block (hne _ ht.2.1)).trans (hT.u8.2 i hi).2⟩⟩,by obtain ⟨t,fr,h⟩:=hT.st;exact ⟨t,fr,(hne _ ht.2.2).trans h⟩⟩
    have h1:=inGround_any (b:=b) ht (by simpa using hB) hT1 M1.pm rfl (by show Op r.o;rw [hr.o];exact hr.op) h8
    simp only at h1
    rw [hL] at h1
    exact h1.mono fun e w' hX=>FdPost.after M1 hX)
   clear ht hB h hr M hL h0 hT
   by_cases h128:128≤b
   · have Z:=Lib.hid (hset.out h128)
     clear X hset
     go_enter Tryz.func40,Tryz.ntmps40
     go_wp2_with fail
     refine Z.out.mono ?_
     intro e w1 hX
     obtain ⟨v,rfl,hX⟩:=hX.ret
     have Y:=Lib.hid hX
     clear hX Z
     go_wp2_with fail
     go_ret
     exact Y.out
   · clear hset
     go_enter Tryz.func40,Tryz.ntmps40
     go_wp2_with fail
     refine X.out.mono ?_
     intro e w1 hX
     obtain ⟨v,rfl,hX⟩:=hX.ret
     have Y:=Lib.hid hX
     clear hX X
     go_wp2_with fail
     go_ret
     exact Y.out
 have ho:r.o=[]:=by rw [hr.o,hr.od h0]
 rw [if_neg (fun e=>h0 e.1)] at hL
 by_cases h24:b=24∨b=26
 · rw [if_pos h24] at hL
   injection hL with e1 e2
   subst e1
   subst e2
   have X:=Lib.hid (FdPost.none (s:=pa0) ht (M.set1 hB 0) (Rel.pa0 rfl ho))
   obtain ⟨k,hk⟩:∃ k:Int,k=s.st:=⟨_,rfl⟩
   have hk0:¬ k=0:=by omega
   have hkb:(k != 0)=true:=bne_iff_ne.2 hk0
   rw [← hk] at p1
   clear ht hB h hr M h0 hT hk hle ho
   rcases h24 with rfl | rfl
   · go_enter Tryz.func40,Tryz.ntmps40
     go_wp2_with fail
     go_ret
     exact X.out
   · go_enter Tryz.func40,Tryz.ntmps40
     go_wp2_with fail
     go_ret
     exact X.out
 rw [if_neg h24,if_neg h27] at hL
 have h24a:¬ b=24:=fun e=>h24 (.inl e)
 have h26a:¬ b=26:=fun e=>h24 (.inr e)
 have t24:(b == 24)=false:=beq_eq_false_iff_ne.2 h24a
 have t26:(b == 26)=false:=beq_eq_false_iff_ne.2 h26a
 have t25:(b == 24 || b == 26)=false:=by rw [t24,t26];rfl
 by_cases h5:s.st=5∨s.st=6
 · have X:=Lib.hid (inString_any (b:=b) ht hB h hr h5 (L:=L) (s':=s') (by
    rw [← hL]
    rcases h5 with h5 | h5
    · rw [if_neg (by omega),if_pos h5]
    · rw [if_pos h5,if_neg (by omega),if_pos h5]))
   clear ht hB h hr M h0 hT hL ho f1 hle
   rcases h5 with h5 | h5
   · rw [h5] at p1
     have p1:w.cell? ⟨g,1,none⟩=some (.int .i64 5):=p1
     clear h5
     go_enter Tryz.func40,Tryz.ntmps40
     go_wp2_with fail
     refine X.out.mono ?_
     intro e w1 hX
     obtain ⟨v,rfl,hX⟩:=hX.ret
     have Y:=Lib.hid hX
     clear hX X
     go_wp2_with fail
     go_ret
     exact Y.out
   · rw [h5] at p1
     have p1:w.cell? ⟨g,1,none⟩=some (.int .i64 6):=p1
     clear h5
     go_enter Tryz.func40,Tryz.ntmps40
     go_wp2_with fail
     refine X.out.mono ?_
     intro e w1 hX
     obtain ⟨v,rfl,hX⟩:=hX.ret
     have Y:=Lib.hid hX
     clear hX X
     go_wp2_with fail
     go_ret
     exact Y.out
 rw [if_neg (fun e=>h5 (.inl e)),if_neg (fun e=>h5 (.inr e))] at hL
 have h14:s.st=1∨s.st=2∨s.st=3∨s.st=4:=by omega
 obtain ⟨k,hk⟩:∃ k:Int,k=s.st:=⟨_,rfl⟩
 have hk0:¬ k=0:=by omega
 have hk5:¬ k=5:=by omega
 have hk6:¬ k=6:=by omega
 have hkb:(k != 0)=true:=bne_iff_ne.2 hk0
 have t5:(k == 5)=false:=beq_eq_false_iff_ne.2 hk5
 have t6:(k == 6)=false:=beq_eq_false_iff_ne.2 hk6
 have t56:(k == 5 || k == 6)=false:=by rw [t5,t6];rfl
 have t0:(k == 0)=false:=beq_eq_false_iff_ne.2 hk0
 rw [← hk] at p1
 by_cases h32:b<32
 · rw [if_pos h32] at hL
   injection hL with e1 e2
   subst e1
   subst e2
   have hal:Below w.heap.size w (w.alloc (.cells (rowV acV [⟨acC0 b,none,0,0,none,0,0⟩]).toArray 62)):=(Below.refl _ _).alloc (Nat.le_refl _) _
   have X:=Lib.hid (FdPost.bare (R:=[⟨acC0 b,none,0,0,none,0,0⟩]) (n:=1) (c:=1) ht (M.below hB hal) hr (lit_ac w _) (c0_bare b) (fun ad e=>by injection e with e;rw [← e];exact Nat.le_refl _) (fun ad e hq=>by injection e with e;rw [← e] at hq;exact Nat.lt_irrefl _ (M.pm.hi _ hq)))
   clear ht hB h hr M h0 hT hk hle ho h5 h14 h24 hal f1
   go_enter Tryz.func40,Tryz.ntmps40
   go_wp2_with fail
   go_ret
   exact X.out
 rw [if_neg h32] at hL
 by_cases h127:b=127
 · subst h127
   rw [if_pos rfl] at hL
   injection hL with e1 e2
   subst e1
   subst e2
   have X:=Lib.hid (FdPost.none ht M hr)
   clear ht hB h hr M h0 hT hk hle ho h5 h14 h24 f1 h32 h24a h26a h27 t24 t26 t25
   go_enter Tryz.func40,Tryz.ntmps40
   go_wp2_with fail
   go_ret
   exact X.out
 rw [if_neg h127] at hL
 by_cases h128:128≤b
 · rw [if_pos h128] at hL
   have Z:=Lib.hid (show Calls Tryz.prog 86 #[.pointer (some ⟨g,0,none⟩),.int .u8 b] (w.setCell ⟨g,1,none⟩ (.int .i64 0)) (FdPost B g (Blk g r) L s' w) from by
    have M1:=M.set1 hB 0
    have hT1:Tabs (w.setCell ⟨g,1,none⟩ (.int .i64 0)):=by
     have hne:∀ q,q<B→(w.setCell ⟨g,1,none⟩ (.int .i64 0)).heap[q]?=w.heap[q]?:=fun q hq=>heap_setCell_other w _ q _ (fun e=>by have h1:=h.gB;have e:q=g:=e;omega)
     exact ⟨⟨fun c hc=>(World.cell?_of_block (hne _ ht.1)).trans (hT.u8.1 c hc),fun i hi=>⟨(World.cell?_of_block (hne _ ht.2.1)).trans (hT.u8.2 i hi).1,(World.cell?_of_block (hne _ ht.2.1)).trans (hT.u8.2 i hi).2⟩⟩,by obtain ⟨t,fr,h⟩:=hT.st;exact ⟨t,fr,(hne _ ht.2.2).trans h⟩⟩
    have h1:=inGround_any (b:=b) ht (by simpa using hB) hT1 M1.pm rfl (by show Op r.o;rw [ho];exact op_nil) h8
    simp only at h1
    rw [ho,hL] at h1
    exact h1.mono fun e w' hX=>FdPost.after M1 hX)
   clear ht hB h hr M h0 hT hk hle ho h5 h14 h24 hL h32 h127
   go_enter Tryz.func40,Tryz.ntmps40
   go_wp2_with fail
   refine Z.out.mono ?_
   intro e w1 hX
   obtain ⟨v,rfl,hX⟩:=hX.ret
   have Y:=Lib.hid hX
   clear hX Z
   go_wp2_with fail
   go_ret
   exact Y.out
 · rw [if_neg h128] at hL
   have X:=Lib.hid (inSequence_any ht hB h hr h14 (by omega) hL)
   clear ht hB h hr M h0 hT hk hle ho h5 h14 h24 hL f1
   go_enter Tryz.func40,Tryz.ntmps40
   go_wp2_with fail
   refine X.out.mono ?_
   intro e w1 hX
   obtain ⟨v,rfl,hX⟩:=hX.ret
   have Y:=Lib.hid hX
   clear hX X
   go_wp2_with fail
   go_ret
   exact Y.out
open Go.RowKit
theorem feedP_len (s:PaS) (b:Int):(feedP s b).1.length≤2:=by
 have hg:∀ o,(groundP o b).1.length≤2:=by
  intro o
  unfold groundP prS
  have h1:=feedS_len o b
  have h2:(endS o).length≤1:=by unfold endS;split<;>simp
  split
  · simp;omega
  · split<;>simp<;>omega
 have hE:(endS s.dec).length≤1:=by unfold endS;split<;>simp
 unfold feedP
 by_cases h1:s.st=0∧b≠27
 · rw [if_pos h1];exact hg _
 rw [if_neg h1]
 by_cases h2:b=24∨b=26
 · rw [if_pos h2];simp
 rw [if_neg h2]
 by_cases h3:b=27
 · rw [if_pos h3]
   show (prS (endS s.dec) ++ _).length≤2
   rw [List.length_append]
   have h4:(prS (endS s.dec)).length≤1:=by unfold prS;rw [List.length_map];exact hE
   have h5:(if s.st=5∧s.tx.length≤256 then [acOsc s.tx] else []).length≤1:=by split<;>simp
   omega
 rw [if_neg h3]
 by_cases h4:s.st=5
 · rw [if_pos h4]
   by_cases h5:b=7
   · rw [if_pos h5]
     show (if s.tx.length≤256 then [acOsc s.tx] else []).length≤2
     split<;>simp
   · rw [if_neg h5];split<;>simp
 rw [if_neg h4]
 by_cases h5:s.st=6
 · rw [if_pos h5];simp
 rw [if_neg h5]
 by_cases h6:b<32
 · rw [if_pos h6];simp
 rw [if_neg h6]
 by_cases h7:b=127
 · rw [if_pos h7];simp
 rw [if_neg h7]
 by_cases h8:128≤b
 · rw [if_pos h8];exact hg _
 rw [if_neg h8]
 by_cases h9:s.st=1
 · rw [if_pos h9]
   unfold escP
   repeat' split
   all_goals simp
 rw [if_neg h9]
 by_cases h10:s.st=2
 · rw [if_pos h10];split<;>simp
 rw [if_neg h10]
 by_cases h11:s.st=4
 · rw [if_pos h11];split<;>simp
 rw [if_neg h11]
 unfold ctlP
 repeat' split
 all_goals simp
theorem run_take {l:List Int} {k:Nat} (s:PaS) (h:k<l.length):runP s (l.take (k+1))=((runP s (l.take k)).1 ++ (feedP (runP s (l.take k)).2 (l.getD k 0)).1,(feedP (runP s (l.take k)).2 (l.getD k 0)).2):=by
 rw [List.take_succ_eq_append_getElem h,runP_snoc,getD_lt h]
structure Told (B:Nat) (w:World) (g:Nat) (S:Nat→Prop) (k m:Nat) (M:List AcR) (ys:List Int):Prop where
 pz:Pz B w g (runP pa0 (ys.take k)).2 S
 eq:acts M=(runP pa0 (ys.take k)).1
 len:M.length=m
 few:m≤2*k
 each:∀ x∈M,RdA w x∧Ap w S x
theorem Told.nil {B:Nat} {w:World} {g:Nat} {S:Nat→Prop} (ys:List Int) (h:Pz B w g pa0 S):Told B w g S 0 0 [] ys :=
 ⟨by rw [List.take_zero];exact h,by rw [List.take_zero];rfl,rfl,by omega,fun x hx=>by cases hx⟩
theorem Told.next {B:Nat} {w w' w2:World} {g:Nat} {S S':Nat→Prop} {k m:Nat} {M R:List AcR} {ys:List Int} {v:Value} {n:Nat} {xs:List Value} (h:Told B w g S k m M ys) (hk:k<ys.length)
  (hp:Pz B w2 g (feedP (runP pa0 (ys.take k)).2 (ys.getD k 0)).2 S') (ho:OutB B S w w2) (hS:∀ q,S' q→S q∨w.heap.size≤q) (hR:acts R=(feedP (runP pa0 (ys.take k)).2 (ys.getD k 0)).1) (hA:∀ x∈R,RdA w2 x∧Ap w2 S' x)
  (hv:w2.ownsRow B 62 6 v n xs) (hg:w2.grownBy w' v.ownBlock):Told B w' g S' (k+1) (m+R.length) (M ++ R) ys:=by
 have hl:R.length≤2:=by rw [← acts_len,hR];exact feedP_len _ _
 have hf:=h.few
 have hk2:∀ q,q<w2.heap.size→NoA w2 q→w'.heap[q]?=w2.heap[q]?:=fun q hq hn=>hg.block q hq (fun e=>(row_act hv q e.symm).2 hn)
 refine ⟨?_,?_,by rw [List.length_append,h.len],by omega,fun x hx=>?_⟩
 · rw [run_take pa0 hk]
   exact hp.kept hg.size fun q hq=>hk2 q (hp.hi q hq) (hp.na q hq)
 · rw [run_take pa0 hk,acts,List.map_append]
   exact congr (congrArg _ h.eq) hR
 · have hx2:RdA w2 x∧Ap w2 S' x:=by
    rcases List.mem_append.1 hx with hx | hx
    · exact (h.each x hx).1.move (h.each x hx).2 ho.bel.size (fun q h1 h2 _=>ho.keep q h1 h2) hS
    · exact hA x hx
   exact hx2.1.move hx2.2 hg.size (fun q h1 _ h3=>hk2 q h1 h3) (fun q hq=>.inl hq)
end Go.Proofs.YtlcipgdnpilkfaaGreatDoor
