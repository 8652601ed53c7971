/-
  Part 36 of what the laws of emul want: EmulStepIn, EmulLinkS, EmulOtherS.
-/
import Derived.Deep.Fields
import Derived.Deep.Slices
import Derived.OpenShut
import Derived.Maps.RangeWalk
import Derived.SliceStrings
import Derived.ChangeMaps5
import Derived.Test.YtlcipgdnpilkfaaGreatDoorPr01
import Derived.Test.YtlcipgdnpilkfaaGreatDoorPr03
import Derived.Test.YtlcipgdnpilkfaaGreatDoorPr04
import Derived.Test.YtlcipgdnpilkfaaGreatDoorPr05
import Derived.Test.YtlcipgdnpilkfaaGreatDoorPr06
import Derived.Test.YtlcipgdnpilkfaaGreatDoorPr07
import Derived.Test.YtlcipgdnpilkfaaGreatDoorPr08
import Derived.Test.YtlcipgdnpilkfaaGreatDoorPr10
import Derived.Test.YtlcipgdnpilkfaaGreatDoorPr14
import Derived.Test.YtlcipgdnpilkfaaGreatDoorPr15
import Derived.Test.YtlcipgdnpilkfaaGreatDoorPr16
import Derived.Test.YtlcipgdnpilkfaaGreatDoorPr17
import Derived.Test.YtlcipgdnpilkfaaGreatDoorPr34
import Derived.Test.YtlcipgdnpilkfaaGreatDoorPr35
namespace Go.Proofs.YtlcipgdnpilkfaaGreatDoor
open Go.ChangeShapes Go.WideShapes Go.ChangeAt Go.RowKit Go.Deep
structure StR where
 sz:Bool
 c:Int
 r:Int
 T:Option Addr
 n:Nat
 k:Nat
 bs:List Int
def stpV (s:StR):List Value:=[.bool s.sz,.int .i64 s.c,.int .i64 s.r,.slice s.T s.n s.k]
def stpA (s:StR):Array Value:=#[.bool s.sz,.int .i64 s.c,.int .i64 s.r,.slice s.T s.n s.k]
theorem stpV_len (x:StR):(stpV x).length=4:=rfl
theorem cellsStp:Tryz.prog.cellsOf 47=4:=by kernel_rfl
theorem cellsBoolS:Tryz.prog.cellsOf 4=1:=by kernel_rfl
structure StIn (w:World) (s:StR):Prop where
 sm:s.n≤140737488351232
 rd:Sb w s.T s.n s.bs
 u8:U8s s.bs
 le:s.n≤s.k
 mx:s.k≤maxLen
section
variable {H:Type} {enc:TypeId × Value→H} {W:World} {fuel:Nat} {cs:List Value} {x:DataW H × List MemPlace}
theorem bytesU8s:Tryz.prog.bytesOf 5=1:=by kernel_rfl
theorem nums_small (hw:∀ y∈x.1.weights Tryz.prog 36,y≤reachBytes) (h:DataW.trod enc Tryz.prog W 0 (fun _=>true) true fuel 36 cs=some x):∀ A n c,cs=[.slice A n c]→n≤140737488351232:=by
 intro A n c hc
 rcases open_ints Tryz.underlying36 Tryz.underlying5 cellsU8P h with ⟨hcs,_⟩ | ⟨a,len,cap,zs,hcs,_,hl,_,hz,hx,hcell,hwz⟩
 · rw [hcs] at hc
   simp at hc
   omega
 · rw [hcs] at hc
   simp at hc
   obtain ⟨_,rfl,rfl⟩:=hc
   have hzl:zs.length=cap:=by simpa using hz
   subst hx
   have:=hw (((lits (H:=H) .u8 (zs.take len)).length+(lits (H:=H) .u8 (zs.drop len)).length)*1) (by
    simp only [DataW.weights,Tryz.underlying36,bytesU8s]
    exact List.mem_cons_self)
   simp only [lits,List.length_map,List.length_take,List.length_drop,reachBytes] at this
   omega
set_option maxRecDepth 100000 in
theorem trod_step (hw:∀ y∈x.1.weights Tryz.prog 47,y≤reachBytes) (h:DataW.trod enc Tryz.prog W 0 (fun _=>true) true fuel 47 cs=some x):∃ x:StR,cs=stpV x∧StIn W x:=by
 obtain ⟨ys,n1,hn1,hys,hcl,hyl,hf⟩:=DataW.trod_struct Tryz.underlying47 h
 rw [cellsStp] at hcl
 match cs,hcl with
 | [v0,v1,v2,v3],_ =>
  match ys,hyl with
  | [y0,y1,y2,y3],_ =>
   have f0:DataW.trod enc Tryz.prog W 0 (fun _=>true) true n1 4 [v0]=some y0:=by simpa [cellsBoolS] using hf 0 _ rfl
   have f1:DataW.trod enc Tryz.prog W 0 (fun _=>true) true n1 3 [v1]=some y1:=by simpa [cellsIntP] using hf 1 _ rfl
   have f2:DataW.trod enc Tryz.prog W 0 (fun _=>true) true n1 3 [v2]=some y2:=by simpa [cellsIntP] using hf 2 _ rfl
   have f3:DataW.trod enc Tryz.prog W 0 (fun _=>true) true n1 36 [v3]=some y3:=by simpa [cellsU8sP] using hf 3 _ rfl
   simp only [hys,List.map_cons,List.map_nil] at hw
   have hw3:∀ y∈y3.1.weights Tryz.prog 36,y≤reachBytes:=fun y hy=>hw y (by
    simp only [DataW.weights,Tryz.underlying47]
    simp [DataW.weightsEach,hy])
   obtain ⟨b,e0,_⟩:=DataW.trod_bool Tryz.underlying4 f0
   obtain ⟨k,e1,_,w1⟩:=DataW.trod_int Tryz.underlying3 f1
   obtain ⟨r,e2,_,w2⟩:=DataW.trod_int Tryz.underlying3 f2
   have hsm:=nums_small hw3 f3
   obtain ⟨T,nt,ct,tx,e3,ht,htw,ht1,ht2⟩:=trod_nums Tryz.underlying36 Tryz.underlying5 cellsU8P f3
   injection e0 with e0
   injection e1 with e1
   injection e2 with e2
   injection e3 with e3
   subst e0 e1 e2 e3
   exact ⟨⟨b,k,r,T,nt,ct,tx⟩,rfl,⟨hsm T nt ct rfl,sb_of_ik ht,fun z hz=>bounds_u8 (htw z hz),ht1,ht2⟩⟩
end
section
variable {H:Type} {enc:TypeId × Value→H} {W:World} {base:Nat} {v:Value} {d:DataW H} {p:List MemPlace}
theorem mem_all {P:Program} {e:TypeId} {dd:DataW H}:∀ {l:List (DataW H)},dd∈l→∀ {y:Nat},y∈dd.weights P e→y∈DataW.weightsAll P e l
 | a :: l,h,y,hy=>by
  unfold DataW.weightsAll
  rcases List.mem_cons.1 h with rfl | h
  · exact List.mem_append_left _ hy
  · exact List.mem_append_right _ (mem_all h hy)
set_option maxRecDepth 100000 in
theorem open_steps (hw:∀ y∈d.weights Tryz.prog 22,y≤reachBytes) (hv:Value.okWide Tryz.prog W .any base 22 v) (h:DataW.Trod enc Tryz.prog W 0 (fun _=>true) true 22 v d p):∃ A n c R,v=.slice A n c∧Vs stpV W A n R∧(∀ x∈R,StIn W x)∧n≤c∧c≤maxLen:=by
 obtain ⟨A,n,c,rfl⟩:=okWide_slice Tryz.underlying22 hv
 obtain ⟨fuel,hx⟩:=h
 rcases open_slice Tryz.underlying22 hx with ⟨hcs,_⟩ | ⟨a,len,cap,m,n1,D,Pl,hcs,hb,hl,hm,hmm,he,hi⟩
 · simp [Value.cells] at hcs
   obtain ⟨rfl,rfl,rfl⟩:=hcs
   exact ⟨none,0,0,[],rfl,Vs.nil _ _,(fun _ h=>by cases h),Nat.le_refl _,by unfold maxLen;omega⟩
 · simp [Value.cells] at hcs
   obtain ⟨rfl,rfl,rfl⟩:=hcs
   simp only [if_true] at hmm
   subst hmm
   simp only [Prod.mk.injEq] at he
   have hwD:∀ k,k<n→∀ y∈(D k).weights Tryz.prog 47,y≤reachBytes:=fun k hk y hy=>hw y (by
    rw [he.1]
    simp only [DataW.weights,Tryz.underlying22]
    exact List.mem_cons_of_mem _ (List.mem_append_left _ (mem_all (List.mem_map.2 ⟨k,List.mem_range.2 hk,rfl⟩) hy)))
   obtain ⟨L,h1,h2,h3⟩:=vs_of stpV_len (w:=W) (ad:=a) (Q:=StIn W) n fun k hk=>by
    obtain ⟨cs',hc,ht'⟩:=hi k (by omega)
    rw [cellsStp] at hc
    obtain ⟨_,hcl,hat⟩:=World.cells?_some hc
    obtain ⟨q,e1,hq⟩:=trod_step (hwD k hk) ht'
    refine ⟨q,hq,fun j v hj=>?_⟩
    have hjl:j<4:=by
     have:=(List.getElem?_eq_some_iff.1 hj).1
     rwa [stpV_len] at this
    rw [← Go.Deep.add_add,hat j hjl,e1]
    exact hj
   refine ⟨some a,n,_,L,rfl,⟨h1,fun hn=>⟨a,rfl,?_,h3⟩⟩,h2,hl,hm⟩
   have hr:0<(rowV stpV L).length:=by rw [rowV_len stpV_len,h1];exact Nat.mul_pos hn (by omega)
   have h0:=h3 0 _ (List.getElem?_eq_getElem hr)
   have:=World.block_lt_of_cell? W _ h0
   rwa [addBlock] at this
end
def PRow (P:Int→Prop) (L:List Ce):Prop:=∀ c∈L,P c.p.lk
def PRws (P:Int→Prop) (LL:Rws):Prop:=∀ L∈LL,PRow P L
section
variable {P:Int→Prop} {L M:List Ce} {LL:Rws}
theorem prow_nil:PRow P []:=fun _ h=>by cases h
theorem prow_app (h:PRow P L) (k:PRow P M):PRow P (L ++ M):=fun c hc=>(List.mem_append.1 hc).elim (h c) (k c)
theorem prow_rep {n:Nat} {c:Ce} (h:P c.p.lk):PRow P (List.replicate n c):=fun d hd=>by rw [List.eq_of_mem_replicate hd];exact h
theorem prow_set (h:PRow P L) {k:Nat} {c:Ce} (hc:P c.p.lk):PRow P (L.set k c):=fun d hd=>by
 rcases List.mem_or_eq_of_mem_set hd with hd | rfl
 · exact h d hd
 · exact hc
theorem prow_take (h:PRow P L) (k:Nat):PRow P (L.take k):=fun c hc=>h c (List.mem_of_mem_take hc)
theorem prow_drop (h:PRow P L) (k:Nat):PRow P (L.drop k):=fun c hc=>h c (List.mem_of_mem_drop hc)
theorem prow_cut (h:PRow P L) (h0:P 0) (x:Nat):PRow P (cutS L x):=by
 unfold cutS
 split
 · exact prow_set (prow_set h h0) h0
 · exact h
theorem prow_over (h:PRow P L) (k:PRow P M) (x:Nat):PRow P (overS L x M):=prow_app (prow_take h _) (prow_app k (prow_drop h _))
theorem prow_lett {p:Pn} (hp:P p.lk) (r:Int):PRow P (lettS r p):=by
 unfold lettS
 split
 · intro c hc;rw [List.mem_singleton.1 hc];exact hp
 · split
   · intro c hc
     simp only [List.mem_cons,List.not_mem_nil,or_false] at hc
     rcases hc with rfl | rfl<;>exact hp
   · exact prow_nil
theorem prow_put (h:PRow P L) (h0:P 0) {p:Pn} (hp:P p.lk) (x r:Int):PRow P (putS L x r p):=by
 unfold putS
 dsimp only
 split
 · exact prow_over (prow_cut (prow_cut h h0 _) h0 _) (prow_lett hp r) _
 · exact h
theorem prow_erase (h:PRow P L) (h0:P 0) (a b:Int) (p:Pn):PRow P (eraseS L a b p):=by
 unfold eraseS
 dsimp only
 split
 · exact prow_over (prow_cut (prow_cut h h0 _) h0 _) (prow_rep h0) _
 · exact h
theorem prow_insert (h:PRow P L) (h0:P 0) (x n:Int) (p:Pn):PRow P (insertS L x n p):=by
 have hM:=prow_cut (prow_cut h h0 x.toNat) h0 (L.length-(min n (L.length-x)).toNat)
 unfold insertS
 dsimp only
 split
 · exact prow_over (prow_over hM (prow_take (prow_drop hM _) _) _) (prow_rep h0) _
 · exact h
theorem prow_delete (h:PRow P L) (h0:P 0) (x n:Int) (p:Pn):PRow P (deleteS L x n p):=by
 have hM:=prow_cut (prow_cut h h0 x.toNat) h0 (x.toNat+(min n (L.length-x)).toNat)
 unfold deleteS
 dsimp only
 split
 · exact prow_over (prow_over hM (prow_drop hM _) _) (prow_rep h0) _
 · exact h
theorem prws_at (h:PRws P LL) (y:Nat):PRow P (lAt LL y):=by
 by_cases hy:y<LL.length
 · rw [lAt_lt hy];exact h _ (List.getElem_mem hy)
 · rw [lAt_ge (by omega)];exact prow_nil
theorem prws_map {r:Nat} {f:Nat→List Ce} (h:∀ y,PRow P (f y)):PRws P ((List.range r).map f):=fun L hL=>by
 obtain ⟨y,_,rfl⟩:=List.mem_map.1 hL
 exact h y
theorem prws_row (h:PRws P LL) {f:List Ce→List Ce} (hf:∀ L,PRow P L→PRow P (f L)) (y:Int):PRws P (inRowS f y LL):=by
 unfold inRowS
 split
 · intro L hL
   rcases List.mem_or_eq_of_mem_set hL with hL | rfl
   · exact h L hL
   · exact hf _ (prws_at h _)
 · exact h
theorem prws_clear (h:PRws P LL) (h0:P 0) (c:Nat) (a b:Int) (p:Pn):PRws P (clearS c LL a b p):=prws_map fun y=>prow_erase (prws_at h y) h0 _ _ p
theorem prws_scroll (h:PRws P LL) (h0:P 0) (c:Nat) (a b n:Int) (p:Pn):PRws P (scrollS c LL a b n p):=by
 unfold scrollS
 split
 · exact h
 · refine prws_map fun y=>?_
   unfold scrollAt
   split
   · split
     · exact prws_at h _
     · exact prow_rep h0
   · exact prws_at h y
theorem prws_blank (h0:P 0) (c r:Nat):PRws P (blankR c r):=fun L hL=>by rw [List.eq_of_mem_replicate hL];exact prow_rep h0
theorem prws_flat (h:PRws P LL):∀ c∈LL.flatten,P c.p.lk:=fun c hc=>by
 obtain ⟨L,hL,hc⟩:=List.mem_flatten.1 hc
 exact h L hL c hc
end
theorem pensF_lk:∀ (f:Nat) (p:Pn) (l:List Int),(pensF f p l).lk=p.lk
 | 0,p,l=>by unfold pensF;rfl
 | f+1,p,[]=>by unfold pensF;rfl
 | f+1,p,n :: l=>by
  unfold pensF
  by_cases h0:n=0
  · rw [if_pos h0,pensF_lk f]
  rw [if_neg h0]
  by_cases h1:n=38∨n=48
  · rw [if_pos h1]
    cases hc:colourS l with
    | none=>rfl
    | some u =>
     obtain ⟨c,l'⟩:=u
     show (pensF f (if n=38 then { p with fg:=c } else { p with bg:=c }) l').lk=p.lk
     rw [pensF_lk f]
     split<;>rfl
  rw [if_neg h1,pensF_lk f]
  repeat' split
  all_goals rfl
theorem pens_lk (p:Pn) (l:List Int):(pensP p l).lk=p.lk:=by
 unfold pensP
 split<;>exact pensF_lk _ _ _
def Tm.back (t:Tm):Rws:=if t.isO then t.main else t.other
structure Stp (t u:Tm):Prop where
 tb:u.table=t.table
 o:u.isO=t.isO
 bk:u.back=t.back
 sv:u.sav=t.sav
 c:u.c=t.c
 r:u.r=t.r
 p:u.p=t.p
 lks:∀ P:Int→Prop,P 0→P t.now.pen.lk→P t.sav.pen.lk→PRws P t.shown→P u.now.pen.lk∧PRws P u.shown
namespace Stp
variable {t u v:Tm}
theorem refl (t:Tm):Stp t t:=⟨rfl,rfl,rfl,rfl,rfl,rfl,rfl,fun _ _ h1 _ h3=>⟨h1,h3⟩⟩
theorem trans (h:Stp t u) (k:Stp u v):Stp t v :=
 ⟨k.tb.trans h.tb,k.o.trans h.o,k.bk.trans h.bk,k.sv.trans h.sv,k.c.trans h.c,k.r.trans h.r,k.p.trans h.p,fun P h0 h1 h2 h3=>by
  obtain ⟨a,b⟩:=h.lks P h0 h1 h2 h3
  exact k.lks P h0 a (by rw [h.sv];exact h2) b⟩
theorem put (t:Tm) {g:Rws} (hg:∀ P:Int→Prop,P 0→P t.now.pen.lk→PRws P t.shown→PRws P g):Stp t (t.put g):=by
 have hs:(t.put g).shown=g:=by
  unfold Tm.put Tm.shown
  by_cases h:t.isO=true<;>simp [h]
 have e:(t.put g).table=t.table∧(t.put g).isO=t.isO∧(t.put g).back=t.back∧(t.put g).sav=t.sav∧(t.put g).c=t.c∧(t.put g).r=t.r∧(t.put g).p=t.p∧(t.put g).now=t.now:=by
  unfold Tm.put Tm.back
  by_cases h:t.isO=true<;>simp [h]
 obtain ⟨e1,e2,e3,e4,e5,e6,e7,e8⟩:=e
 exact ⟨e1,e2,e3,e4,e5,e6,e7,fun P h0 h1 _ h3=>by rw [e8,hs];exact ⟨h1,hg P h0 h1 h3⟩⟩
theorem scrolled (t:Tm) (a b n:Int):Stp t (t.scrolled a b n):=put t fun _ h0 _ h3=>prws_scroll h3 h0 _ _ _ _ _
theorem erased (t:Tm) (a b:Int):Stp t (t.erased a b):=put t fun _ h0 _ h3=>prws_clear h3 h0 _ _ _ _
theorem atX (t:Tm) (x:Int):Stp t (t.atX x):=⟨rfl,rfl,rfl,rfl,rfl,rfl,rfl,fun _ _ h1 _ h3=>⟨h1,h3⟩⟩
theorem atY (t:Tm) (y:Int):Stp t (t.atY y):=⟨rfl,rfl,rfl,rfl,rfl,rfl,rfl,fun _ _ h1 _ h3=>⟨h1,h3⟩⟩
theorem same (h1:u.table=t.table) (h2:u.isO=t.isO) (h3:u.main=t.main) (h4:u.other=t.other) (h5:u.sav=t.sav) (h6:u.c=t.c) (h7:u.r=t.r) (h8:u.p=t.p) (h9:u.now.pen.lk=t.now.pen.lk∨u.now.pen.lk=0∨u.now.pen.lk=t.sav.pen.lk):Stp t u:=by
 have e1:u.shown=t.shown:=by unfold Tm.shown;rw [h2,h3,h4]
 have e2:u.back=t.back:=by unfold Tm.back;rw [h2,h3,h4]
 exact ⟨h1,h2,e2,h5,h6,h7,h8,fun P p0 p1 p2 p3=>⟨by rcases h9 with e | e | e<;>rw [e]<;>assumption,by rw [e1];exact p3⟩⟩
theorem down (t:Tm):Stp t t.down:=by
 unfold Tm.down
 split
 · exact scrolled _ _ _ _
 · split
   · exact atY _ _
   · exact refl t
theorem up (t:Tm):Stp t t.up:=by
 unfold Tm.up
 split
 · exact scrolled _ _ _ _
 · split
   · exact atY _ _
   · exact refl t
theorem home (t:Tm):Stp t t.home:=(atX t 0).trans (atY _ _)
theorem restored (t:Tm):Stp t t.restored:=same rfl rfl rfl rfl rfl rfl rfl rfl (.inr (.inr rfl))
theorem letter (t:Tm) (r:Int):Stp t (t.letter r):=by
 have key:∀ u:Tm,Stp u (let t:=u.put (inRowS (fun l=>putS l u.now.x r u.now.pen) u.now.y u.shown);if t.now.x+widthS r≥t.c then { t.atX (t.c-1) with last:=r,full:=true } else { t.atX (t.now.x+widthS r) with last:=r,full:=false }):=by
  intro u
  have h2:Stp u (u.put (inRowS (fun l=>putS l u.now.x r u.now.pen) u.now.y u.shown)):=put u fun _ h0 h1 h3=>prws_row h3 (fun _ hL=>prow_put hL h0 h1 _ _) _
  dsimp only
  split
  · exact h2.trans (same rfl rfl rfl rfl rfl rfl rfl rfl (.inl rfl))
  · exact h2.trans (same rfl rfl rfl rfl rfl rfl rfl rfl (.inl rfl))
 unfold Tm.letter
 dsimp only
 split
 · exact (put t fun _ h0 _ h3=>prws_row h3 (fun _ hL=>prow_insert hL h0 _ _ _) _).trans (key _)
 · exact key _
theorem print (t:Tm) (r:Int):Stp t (t.print r):=by
 unfold Tm.print
 dsimp only
 split
 · exact refl t
 · split
   · exact ((atX t 0).trans (down _)).trans (letter _ r)
   · split
     · exact refl t
     · exact letter t r
theorem tab (t:Tm):Stp t t.tab:=atX t _
theorem tabBack (t:Tm):Stp t t.tabBack:=atX t _
theorem c0 (t:Tm) (b:Int):Stp t (t.c0 b):=by
 unfold Tm.c0
 repeat' split
 · exact atX _ _
 · exact tab t
 · exact down t
 · exact atX _ _
 · exact refl t
theorem esc (t:Tm) {b:Int} (h1:b≠55) (h2:b≠99):Stp t (t.esc b):=by
 unfold Tm.esc
 rw [if_neg h1,if_neg h2]
 repeat' split
 · exact restored t
 · exact down t
 · exact (atX t 0).trans (down _)
 · exact up t
 · exact same rfl rfl rfl rfl rfl rfl rfl rfl (.inl rfl)
 · exact refl t
theorem iter {f:Tm→Tm} (hf:∀ t,Stp t (f t)):∀ (n:Nat) (t:Tm),Stp t (iterS f n t)
 | 0,t=>refl t
 | n+1,t=>(hf t).trans (iter hf n (f t))
theorem ite {c:Prop} [Decidable c] {a b:Tm} (ha:Stp t a) (hb:Stp t b):Stp t (if c then a else b):=by split;exact ha;exact hb
theorem edit (t:Tm) (a:AcS) (n:Int):Stp t (t.edit a n):=by
 unfold Tm.edit
 dsimp only
 repeat' with_reducible refine ite ?_ ?_
 all_goals first
  | exact refl t
  | exact erased _ _ _
  | exact scrolled _ _ _ _
  | exact (atX t 0).trans (scrolled _ _ _ _)
  | exact put t fun _ h0 _ h3=>prws_row h3 (fun _ hL=>prow_insert hL h0 _ _ _) _
  | exact put t fun _ h0 _ h3=>prws_row h3 (fun _ hL=>prow_delete hL h0 _ _ _) _
  | exact iter (fun u=>print u u.last) _ t
  | exact same rfl rfl rfl rfl rfl rfl rfl rfl (.inl rfl)
theorem csi (t:Tm) {a:AcS} (h1:a.m≠63) (h2:a.m≠33) (h3:a.fin≠115):Stp t (t.csi a):=by
 unfold Tm.csi
 dsimp only
 rw [if_neg (fun e=>h1 e.1),if_neg (fun e=>h2 e.1),if_neg h3]
 repeat' with_reducible refine ite ?_ ?_
 all_goals first
  | exact refl t
  | exact atY _ _
  | exact atX _ _
  | exact (atY t _).trans (atX _ _)
  | exact iter (fun u=>tab u) _ t
  | exact iter (fun u=>tabBack u) _ t
  | exact Stp.trans (u:={ t with top:=numP a.ps 0 1-1,bot:=min (numP a.ps 1 t.r) t.r-1 }) (same rfl rfl rfl rfl rfl rfl rfl rfl (.inl rfl)) (home _)
  | exact restored t
  | exact same rfl rfl rfl rfl rfl rfl rfl rfl (.inl (pens_lk _ _))
  | exact edit t a _
end Stp
/-! ### Tables -/
theorem lastN_after:∀ (l:List ByteArray) {j:Nat},lastN l≤j→sAt l j=eT
 | [],j,_=>rfl
 | a :: l,j,h=>by
  unfold lastN at h
  by_cases h0:lastN l=0
  · rw [if_pos h0] at h
    cases j with
    | zero =>
     by_cases ha:a=eT
     · exact ha
     · rw [if_neg ha] at h;omega
    | succ j=>exact lastN_after l (j:=j) (by omega)
  · rw [if_neg h0] at h
    cases j with
    | zero=>omega
    | succ j=>exact lastN_after l (j:=j) (by omega)
theorem leads_zero (t:List ByteArray):leadsS t 0=eT:=leads_out (.inl (by omega))
theorem leads_text {t t':List ByteArray} {n:Int} (h:textI t' n=textI t n):leadsS t' n=leadsS t n:=by unfold leadsS;rw [h]
theorem text_of {t:List ByteArray} {k:Nat} (h:k<t.length):textI t ((k:Int)+1)=sAt t k:=by
 unfold textI
 rw [if_neg (by omega),show ((k:Int)+1).toNat-1=k by omega]
theorem leads_inv {t:List ByteArray} {n:Int} (h:leadsS t n≠eT):∃ k:Nat,n=(k:Int)+1∧k<t.length∧sAt t k≠eT:=by
 by_cases h1:n<1∨(t.length:Int)<n
 · exact absurd (leads_out h1) h
 · refine ⟨n.toNat-1,by omega,by omega,fun e=>h ?_⟩
   unfold leadsS textI
   rw [if_neg h1,e,if_neg (by rw [eT_not];simp)]
theorem intern_keep {tb tb':List ByteArray} {s:ByteArray} {n:Int} (h:internS tb s=(tb',n,0)):(∀ m,leadsS tb m≠eT→leadsS tb' m=leadsS tb m)∧leadsS tb' n≠eT:=by
 unfold internS at h
 by_cases hm:mayT s=false
 · rw [if_pos hm] at h;injection h with _ h;injection h with _ h;cases h
 rw [if_neg hm] at h
 have hm':mayT s=true:=by simpa using hm
 have lead_s:∀ {T:List ByteArray} {k:Nat},k<T.length→sAt T k=s→leadsS T ((k:Int)+1)≠eT:=fun {T k} hk e=>by
  unfold leadsS
  rw [text_of hk,e,if_pos hm']
  exact mayT_ne hm'
 by_cases h1:placeI tb s≠-1
 · rw [if_pos h1] at h
   injection h with h2 h
   injection h with h3 _
   subst h2
   subst h3
   obtain ⟨k,hk,e1,e2,_⟩:=placeI_mem (mem_place.1 h1)
   exact ⟨fun _ _=>rfl,by rw [e1];exact lead_s hk e2⟩
 rw [if_neg h1] at h
 by_cases h2:placeI tb eT≠-1
 · rw [if_pos h2] at h
   injection h with h3 h
   injection h with h4 _
   obtain ⟨k,hk,e1,e2,_⟩:=placeI_mem (mem_place.1 h2)
   rw [e1,Int.toNat_natCast] at h3
   rw [e1] at h4
   subst h3
   subst h4
   refine ⟨fun m hmm=>?_,lead_s (by rw [List.length_set];exact hk) (by rw [sAt_lt (by rw [List.length_set];exact hk)];simp)⟩
   obtain ⟨j,rfl,hj,hne⟩:=leads_inv hmm
   apply leads_text
   rw [text_of (by rw [List.length_set];exact hj),text_of hj,sAt_lt (by rw [List.length_set];exact hj),sAt_lt hj,List.getElem_set_ne]
   exact fun e=>hne (by rw [← e];exact e2)
 rw [if_neg h2] at h
 by_cases h3:tb.length<16
 · rw [if_pos h3] at h
   injection h with h4 h
   injection h with h5 _
   subst h4
   subst h5
   refine ⟨fun m hmm=>?_,lead_s (by simp) (sAt_append_last tb s)⟩
   obtain ⟨j,rfl,hj,hne⟩:=leads_inv hmm
   apply leads_text
   rw [text_of (by simp;omega),text_of hj,sAt_append_lt hj]
 · rw [if_neg h3] at h;injection h with _ h;injection h with _ h;cases h
theorem sweep_keep (tb:List ByteArray) {used:List Int} {n:Int} (hn:n∈used):leadsS (sweepS tb used) n=leadsS tb n:=by
 apply leads_text
 have hl:=sweepS_len tb used
 by_cases h1:n<1∨(tb.length:Int)<n
 · unfold textI
   rw [if_pos (by omega),if_pos h1]
 · obtain ⟨k,rfl⟩:∃ k:Nat,n=(k:Int)+1:=⟨n.toNat-1,by omega⟩
   have hk:k<tb.length:=by omega
   rw [text_of hk]
   have e1:sAt (sweepM tb used) k=sAt tb k:=by rw [sweepM_at hk,if_pos hn]
   by_cases h2:k<(sweepS tb used).length
   · rw [text_of h2,← e1]
     unfold sweepS at h2 ⊢
     rw [List.length_take] at h2
     unfold sAt
     rw [List.getD,List.getD,List.getElem?_take,if_pos (by omega)]
   · have h3:lastN (sweepM tb used)≤k:=by
      unfold sweepS at h2
      rw [List.length_take,sweepM_len] at h2
      omega
     rw [← e1,lastN_after _ h3]
     unfold textI
     rw [if_pos (by omega)]
/-! ### Links that lead somewhere -/
def LkP (tb:List ByteArray) (n:Int):Prop:=n=0∨leadsS tb n≠eT
structure LkOk (t:Tm):Prop where
 main:PRws (LkP t.table) t.main
 other:PRws (LkP t.table) t.other
 pen:LkP t.table t.now.pen.lk
 sav:LkP t.table t.sav.pen.lk
namespace LkOk
variable {t u:Tm}
theorem shown (h:LkOk t):PRws (LkP t.table) t.shown:=by unfold Tm.shown;split;exact h.other;exact h.main
theorem back (h:LkOk t):PRws (LkP t.table) t.back:=by unfold Tm.back;split;exact h.main;exact h.other
theorem step (h:LkOk t) (s:Stp t u):LkOk u:=by
 obtain ⟨h1,h2⟩:=s.lks (LkP t.table) (.inl rfl) h.pen h.sav h.shown
 have h3:=h.back
 rw [← s.bk] at h3
 unfold Tm.shown at h2
 unfold Tm.back at h3
 rw [← s.tb] at h1 h2 h3
 by_cases ho:u.isO=true
 · rw [if_pos ho] at h2 h3
   exact ⟨h3,h2,h1,by rw [s.tb,s.sv];exact h.sav⟩
 · rw [if_neg ho] at h2 h3
   exact ⟨h2,h3,h1,by rw [s.tb,s.sv];exact h.sav⟩
theorem fresh (c r:Nat):LkOk (tmNew c r):=⟨prws_blank (.inl rfl) c r,prws_blank (.inl rfl) c r,.inl rfl,.inl rfl⟩
theorem with_p (h:LkOk t) (q:PaS):LkOk { t with p:=q }:={ h with }
theorem saved (h:LkOk t):LkOk { t with sav:=t.now }:={ h with sav:=h.pen }
theorem showO (h:LkOk t) (o:Bool):LkOk (t.showO o):=by
 unfold Tm.showO
 split
 · exact { h with other:=prws_blank (.inl rfl) _ _ }
 · exact { h with }
theorem reset (h:LkOk t):LkOk t.reset:={ h with pen:=.inl rfl,sav:=.inl rfl }
theorem mode (h:LkOk t) (n:Int) (on:Bool):LkOk (t.mode n on):=by
 unfold Tm.mode
 repeat' split
 all_goals first
  | exact LkOk.step (t:={ t with now:={ t.now with org:=on } }) { h with } (Stp.home _)
  | exact h.showO on
  | exact h.saved.showO true
  | exact (h.showO false).step (Stp.restored _)
  | exact h
  | exact { h with }
theorem modes (on:Bool):∀ (l:List Int) {t:Tm},LkOk t→LkOk (l.foldl (fun t n=>t.mode n on) t)
 | [],_,h=>h
 | n :: l,_,h=>modes on l (h.mode n on)
theorem lead (h:LkOk t) (s:ByteArray):LkOk (t.lead s)∧(∀ n,n∈t.sav.pen.lk :: (t.main.flatten.map (·.p.lk) ++ t.other.flatten.map (·.p.lk))→leadsS (t.lead s).table n=leadsS t.table n)∧(t.lead s).main=t.main∧(t.lead s).other=t.other∧(t.lead s).sav=t.sav∧(t.lead s).isO=t.isO∧(t.lead s).c=t.c∧(t.lead s).r=t.r∧(t.lead s).p=t.p:=by
 have h0:LkOk { t with now:={ t.now with pen:={ t.now.pen with lk:=0 } } }:={ h with pen:=.inl rfl }
 unfold Tm.lead
 dsimp only
 by_cases hs:s=eT
 · rw [if_pos hs]
   exact ⟨h0,fun _ _=>rfl,rfl,rfl,rfl,rfl,rfl,rfl,rfl⟩
 rw [if_neg hs]
 generalize hU:(t.sav.pen.lk :: (t.main.flatten.map (·.p.lk) ++ t.other.flatten.map (·.p.lk)))=used
 have hP:∀ n∈used,LkP t.table n:=by
  intro n hn
  rw [← hU] at hn
  rcases List.mem_cons.1 hn with rfl | hn
  · exact h.sav
  · rcases List.mem_append.1 hn with hn | hn
    · obtain ⟨c,hc,rfl⟩:=List.mem_map.1 hn
      exact prws_flat h.main c hc
    · obtain ⟨c,hc,rfl⟩:=List.mem_map.1 hn
      exact prws_flat h.other c hc
 have key:∀ (tb':List ByteArray) (n:Int),(∀ m∈used,leadsS tb' m=leadsS t.table m)→leadsS tb' n≠eT →
   LkOk { t with table:=tb',now:={ t.now with pen:={ t.now.pen with lk:=n } } }:=by
  intro tb' n h1 h2
  have h3:∀ m∈used,LkP tb' m:=fun m hm=>by
   rcases hP m hm with e | e
   · exact .inl e
   · exact .inr (by rw [h1 m hm];exact e)
  refine ⟨fun L hL c hc=>h3 _ ?_,fun L hL c hc=>h3 _ ?_,.inr h2,h3 _ ?_⟩
  · rw [← hU]
    exact List.mem_cons_of_mem _ (List.mem_append_left _ (List.mem_map.2 ⟨c,List.mem_flatten.2 ⟨L,hL,hc⟩,rfl⟩))
  · rw [← hU]
    exact List.mem_cons_of_mem _ (List.mem_append_right _ (List.mem_map.2 ⟨c,List.mem_flatten.2 ⟨L,hL,hc⟩,rfl⟩))
  · rw [← hU];exact List.mem_cons_self
 have fin:∀ (tb:List ByteArray),(∀ m∈used,leadsS tb m=leadsS t.table m)→∀ v,internS tb s=v→v.2.2=0 →
   LkOk { t with table:=v.1,now:={ t.now with pen:={ t.now.pen with lk:=v.2.1 } } }∧∀ n∈used,leadsS v.1 n=leadsS t.table n:=by
  intro tb h1 v hv h2
  obtain ⟨tb',n,e⟩:=v
  simp only at h2
  subst h2
  obtain ⟨k1,k2⟩:=intern_keep hv
  have k3:∀ m∈used,leadsS tb' m=leadsS t.table m:=fun m hm=>by
   rcases hP m hm with e | e
   · rw [e,leads_zero,leads_zero]
   · rw [k1 m (by rw [h1 m hm];exact e),h1 m hm]
  exact ⟨key tb' n k3 k2,k3⟩
 by_cases h11:(internS t.table s).2.2=11
 · rw [if_pos h11]
   by_cases hz:(internS (sweepS t.table used) s).2.2=0
   · rw [if_pos hz]
     obtain ⟨a,b⟩:=fin (sweepS t.table used) (fun m hm=>sweep_keep t.table hm) _ rfl hz
     exact ⟨a,b,rfl,rfl,rfl,rfl,rfl,rfl,rfl⟩
   · rw [if_neg hz]
     exact ⟨h0,fun _ _=>rfl,rfl,rfl,rfl,rfl,rfl,rfl,rfl⟩
 · rw [if_neg h11]
   by_cases hz:(internS t.table s).2.2=0
   · rw [if_pos hz]
     obtain ⟨a,b⟩:=fin t.table (fun _ _=>rfl) _ rfl hz
     exact ⟨a,b,rfl,rfl,rfl,rfl,rfl,rfl,rfl⟩
   · rw [if_neg hz]
     exact ⟨h0,fun _ _=>rfl,rfl,rfl,rfl,rfl,rfl,rfl,rfl⟩
end LkOk
theorem osc_is (t:Tm) (b:List Int):(∃ s,t.osc b=t.lead s)∨Stp t (t.osc b):=by
 unfold Tm.osc
 split
 · exact .inr (Stp.refl t)
 · dsimp only
   split
   · exact .inr (Stp.same rfl rfl rfl rfl rfl rfl rfl rfl (.inl rfl))
   · split
     · split
       · exact .inr (Stp.refl t)
       · exact .inl ⟨_,rfl⟩
     · exact .inr (Stp.refl t)
def savesA (a:AcS):Bool:=(decide (a.k=3) && (decide (a.fin=55) || decide (a.fin=99))) || (decide (a.k=4) && (decide (a.m=63) || decide (a.m=33) || decide (a.fin=115)))
theorem act_is (t:Tm) {a:AcS} (h:savesA a=false):(∃ s,t.doA a=t.lead s)∨Stp t (t.doA a):=by
 have hf:Stp t { t with full:=false }:=Stp.same rfl rfl rfl rfl rfl rfl rfl rfl (.inl rfl)
 unfold Tm.doA
 split
 · exact .inr (Stp.refl t)
 · split
   · exact .inr (Stp.print t _)
   · split
     · exact .inr (hf.trans (Stp.c0 _ _))
     · split
       · rename_i hk
         have hb:a.fin≠55∧a.fin≠99:=by simpa [savesA,hk] using h
         split
         · exact .inr (hf.trans (Stp.esc _ hb.1 hb.2))
         · exact .inr hf
       · split
         · rename_i hk
           have hb:(a.m≠63∧a.m≠33)∧a.fin≠115:=by simpa [savesA,hk] using h
           split
           · exact .inr (hf.trans (Stp.csi _ hb.1.1 hb.1.2 hb.2))
           · exact .inr (Stp.csi _ hb.1.1 hb.1.2 hb.2)
         · split
           · exact osc_is t _
           · exact .inr (Stp.refl t)
namespace LkOk
variable {t:Tm}
theorem csi (h:LkOk t) (a:AcS):LkOk (t.csi a):=by
 by_cases h1:a.m=63
 · unfold Tm.csi
   by_cases h2:a.m=63∧(a.fin=104∨a.fin=108)
   · rw [if_pos h2];exact modes _ _ h
   · rw [if_neg h2,if_neg (fun e=>by have:=e.1;omega),if_pos (by omega)];exact h
 by_cases h2:a.m=33
 · unfold Tm.csi
   rw [if_neg (fun e=>h1 e.1)]
   by_cases h3:a.m=33∧a.fin=112
   · rw [if_pos h3];exact h.reset
   · rw [if_neg h3,if_pos (by omega)];exact h
 by_cases h3:a.fin=115
 · unfold Tm.csi
   rw [if_neg (fun e=>h1 e.1),if_neg (fun e=>h2 e.1)]
   obtain ⟨k,r,m,f,ps,tx⟩:=a
   simp only at h3
   subst h3
   by_cases hm:m=0
   · rw [if_neg (fun e=>e hm)]
     dsimp only
     repeat rw [if_neg (by decide)]
     rw [if_pos rfl]
     exact h.saved
   · rw [if_pos hm]
     exact h
 · exact h.step (Stp.csi t h1 h2 h3)
theorem esc (h:LkOk t) (b:Int):LkOk (t.esc b):=by
 by_cases h1:b=55
 · unfold Tm.esc;rw [if_pos h1];exact h.saved
 by_cases h2:b=99
 · subst h2
   exact (fresh t.c t.r).with_p t.p
 · exact h.step (Stp.esc t h1 h2)
theorem doA (h:LkOk t) (a:AcS):LkOk (t.doA a):=by
 have hf:LkOk { t with full:=false }:={ h with }
 cases hs:savesA a
 · rcases act_is t hs with ⟨s,e⟩ | e
   · rw [e];exact (h.lead s).1
   · exact h.step e
 · unfold Tm.doA
   split
   · exact h
   · split
     · exact h.step (Stp.print t _)
     · split
       · exact hf.step (Stp.c0 _ _)
       · split
         · split
           · exact hf.esc _
           · exact hf
         · split
           · split
             · exact hf.csi _
             · exact h.csi _
           · split
             · rcases osc_is t a.tx with ⟨s,e⟩ | e
               · rw [e];exact (h.lead s).1
               · exact h.step e
             · exact h
end LkOk
end Go.Proofs.YtlcipgdnpilkfaaGreatDoor
