/-
  Part 17 of what the laws of emul want: LinksMem, ParseMem, ParseOut, ParseBackS, UtfFeed, ParseCopy.
-/
import Derived.Laws.CopyOwn
import Derived.Deep.OwnRows
import Derived.RegionTactic
import Derived.Deep.RegionHeld3
import Derived.Lib.SmallJoins
import Derived.Laws.Concat
import Derived.Laws.OwnMore
import Derived.Deep.CutBlock
import Derived.Test.YtlcipgdnpilkfaaGreatDoorPo02
import Derived.Test.YtlcipgdnpilkfaaGreatDoorPo03
import Derived.Test.YtlcipgdnpilkfaaGreatDoorPo04
import Derived.Test.YtlcipgdnpilkfaaGreatDoorPo09
import Derived.Test.YtlcipgdnpilkfaaGreatDoorPo10
import Derived.Test.YtlcipgdnpilkfaaGreatDoorPo11
namespace Go.Proofs.YtlcipgdnpilkfaaGreatDoor
open Go.RowKit
theorem eqBB (a b:ByteArray):(a.toList == b.toList)=decide (a=b):=by
 rw [Bool.eq_iff_iff]
 simp only [ByteArray.toList_eq,beq_iff_eq,decide_eq_true_eq]
 exact ⟨fun h=>WideShapes.bytes_inj h,fun h=>by rw [h]⟩
theorem eqBB_yes {a b:ByteArray} (h:(a.toList == b.toList)=true):a=b:=by rw [eqBB] at h;exact of_decide_eq_true h
theorem eqBB_no {a b:ByteArray} (h:(a.toList == b.toList)=false):a≠b:=by rw [eqBB] at h;exact of_decide_eq_false h
theorem empB (x:ByteArray):x.toList.isEmpty=decide (x=eT):=by
 rw [Bool.eq_iff_iff,decide_eq_true_eq,List.isEmpty_iff,ByteArray.toList_eq]
 exact ⟨fun h=>WideShapes.bytes_inj h,fun h=>by rw [h];rfl⟩
theorem emp_yes {x:ByteArray} (h:x=eT):(!x.toList.isEmpty)=false:=by rw [empB,decide_eq_true h];rfl
theorem emp_no {x:ByteArray} (h:x≠eT):(!x.toList.isEmpty)=true:=by rw [empB,decide_eq_false h];rfl
def stV (s:ByteArray):List Value:=[.string s]
theorem stV_len (s:ByteArray):(stV s).length=1:=rfl
theorem rowT_len (L:List ByteArray):(rowV stV L).length=L.length:=by rw [rowV_len stV_len,Nat.mul_one]
theorem one_st (L:List ByteArray):∀ v∈rowV stV L,v.oneCell'=true:=by
 induction L with
 | nil=>intro v hv;cases hv
 | cons c L ih =>
  intro v hv
  rcases List.mem_append.1 hv with hv | hv
  · rw [List.mem_singleton.1 hv];rfl
  · exact ih v hv
theorem rowT_map (L:List ByteArray):rowV stV L=L.map Value.string:=by
 induction L with
 | nil=>rfl
 | cons c L ih=>rw [rowV,ih];rfl
theorem rowT_get {L:List ByteArray} {k:Nat} (h:k<L.length):(rowV stV L)[k]?=some (.string (sAt L k)):=by
 rw [rowT_map,List.getElem?_map,getElem?_sAt h]
 rfl
theorem rowT_set (L:List ByteArray) (k:Nat) (s:ByteArray):(rowV stV L).set k (.string s)=rowV stV (L.set k s):=by
 rw [rowT_map,rowT_map,List.map_set]
theorem Vs.str {w:World} {ad:Addr} {n:Nat} {L:List ByteArray} (h:Vs stV w (some ad) n L) {k:Nat} (hk:k<n):w.cell? (ad.add k)=some (.string (sAt L k)) :=
 h.news _ _ (rowT_get (by rw [h.len];exact hk))
theorem infoTx:(Tryz.prog.info? 9).map (fun i=>(i.zero,i.size,i.bytes))=some (some (.string eT),1,16):=by kernel_rfl
structure Tx (base:Nat) (w:World) (A:Option Addr) (n c:Nat) (L:List ByteArray):Prop where
 len:L.length=n
 le:n≤c
 max:c≤maxLen
 own:w.ownsRow base 9 1 (.slice A n c) n (rowV stV L)
section
variable {base:Nat} {w w':World} {A:Option Addr} {n c:Nat} {L:List ByteArray}
theorem Tx.mk' (h:w.ownsRow base 9 1 (.slice A n c) n (rowV stV L)):Tx base w A n c L:=by
 obtain ⟨A',c',e,h1,h2⟩:=own_shape h
 injection e with e1 e2 e3
 subst e1 e3
 exact ⟨by have:=h.1;rw [rowT_len] at this;omega,h1,h2,h⟩
theorem Tx.vs (h:Tx base w A n c L):Vs stV w A n L:=own_vs h.len h.own
theorem Tx.lower {B:Nat} (h:Tx base w A n c L) (hB:B≤base):Tx B w A n c L:=⟨h.len,h.le,h.max,own_base h.own hB⟩
theorem Tx.nil (base:Nat) (w:World):Tx base w none 0 0 []:=⟨rfl,Nat.le_refl _,by unfold maxLen;omega,World.ownsRow_nil _ _ _ _⟩
theorem Tx.keep (h:Tx base w A n c L) (hs:∀ g,base≤g→g<w.heap.size→w'.heap[g]?=w.heap[g]?):Tx base w' A n c L:=by
 refine ⟨h.len,h.le,h.max,h.own.1,?_⟩
 rcases h.own.2 with h1 | ⟨g,cap,cur,hv,hb,hg,hr⟩
 · exact .inl h1
 · exact .inr ⟨g,cap,cur,hv,hb,(hs g hb (Array.getElem?_eq_some_iff.1 hg).1).trans hg,hr⟩
theorem Tx.below (h:Tx base w A n c L) (hb:Below w.heap.size w w'):Tx base w' A n c L:=h.keep fun g _ hg=>hb.block g hg
theorem Tx.blk (h:Tx base w A n c L) (hn:0<n):∃ g,A=Option.some ⟨g,0,none⟩∧base≤g∧g<w.heap.size∧(∀ k,w.frozen? ⟨g,k,none⟩=false):=by
 obtain ⟨g,e,hb,_,_,hR⟩:=own_some hn h.own
 exact ⟨g,e,hb,hR.lt,fun k=>hR.free k⟩
theorem Tx.grown (h:Tx base w A n c L) {row:Option Nat} (hg:w.grownBy w' row) (hne:∀ g,A=Option.some ⟨g,0,none⟩→row≠Option.some g):Tx base w' A n c L:=by
 refine ⟨h.len,h.le,h.max,h.own.1,?_⟩
 rcases h.own.2 with h1 | ⟨g,cap,cur,hv,hb,hgg,hr⟩
 · exact .inl h1
 · injection hv with hA
   exact .inr ⟨g,cap,cur,by rw [hA];simp_all,hb,(hg.block g (Array.getElem?_eq_some_iff.1 hgg).1 (fun e=>hne g hA e.symm)).trans hgg,hr⟩
theorem Tx.ownB (h:Tx base w A n c L):∀ k,(Value.slice A n c).ownBlock=Option.some k→base≤k:=by
 intro k hk
 rcases h.own.2 with ⟨h1,_⟩ | ⟨g,cap,cur,hv,hb,_⟩
 · rw [h1] at hk
   cases hk
 · rw [hv] at hk
   injection hk with hk
   rw [← hk]
   exact hb
theorem Tx.stored {g:Nat} (h:Tx base w (Option.some ⟨g,0,none⟩) n c L) (k:Nat) (s:ByteArray) :
  Tx base (w.setCell ⟨g,k,none⟩ (.string s)) (Option.some ⟨g,0,none⟩) n c (L.set k s)∧w.grownBy (w.setCell ⟨g,k,none⟩ (.string s)) (Option.some g):=by
 refine ⟨⟨by rw [List.length_set];exact h.len,h.le,h.max,by rw [rowT_len,List.length_set];have:=h.len;omega,?_⟩,grownBy_set w ⟨g,k,none⟩ _⟩
 rcases h.own.2 with ⟨h1,_⟩ | ⟨g',cap,cur,hv,hb,hgg,hle,hm,hs,ht⟩
 · cases h1
 · injection hv with hA _ hc
   injection hA with hA
   injection hA with hA
   subst hA
   subst hc
   refine .inr ⟨g,c,cur.setIfInBounds k (.string s),rfl,hb,?_,hle,hm,by simpa using hs,?_⟩
   · exact heap_setCell_same w g k _ _ _ hgg
   · rw [← rowT_set,← ht,Array.toList_setIfInBounds,List.take_set]
theorem Tx.front (h:Tx base w A n c L) {k:Nat} (hk:k≤n):Tx base w A k c (L.take k):=by
 have hl:=h.len
 refine ⟨by rw [List.length_take];omega,Nat.le_trans hk h.le,h.max,by rw [rowT_len,List.length_take];omega,?_⟩
 rcases h.own.2 with ⟨h1,h2⟩ | ⟨g',cap,cur,hv,hb,hgg,hle,hm,hs,ht⟩
 · injection h1 with hA _ hc
   exact .inl ⟨by rw [hA,hc,show k=0 by omega],by omega⟩
 · injection hv with hA _ hc
   refine .inr ⟨g',cap,cur,by rw [hA,hc],hb,hgg,by omega,hm,hs,?_⟩
   rw [Nat.mul_one] at ht ⊢
   have e:=rowV_take stV_len L k
   rw [Nat.mul_one] at e
   rw [← e,← ht,List.take_take,Nat.min_eq_left hk]
end
theorem litT (w:World) (u:ByteArray):Vs stV (w.alloc (.cells #[.string u] 9)) (some ⟨w.heap.size,0,none⟩) 1 [u]:=(made_rw (f:=stV) w 9 [u]).vs
def TxPost (L:List ByteArray) (w:World) (v:Value) (w':World):Prop:=Below w.heap.size w w'∧∃ A c,v=.slice A L.length c∧Tx w.heap.size w' A L.length c L
theorem Tx.post {w w':World} {A:Option Addr} {n c:Nat} {L:List ByteArray} (h:Tx w.heap.size w' A n c L) (hb:Below w.heap.size w w'):TxPost L w (.slice A n c) w':=by
 obtain rfl:=h.len
 exact ⟨hb,A,c,rfl,h⟩
theorem wpList_appT (w:World) {ops:Array Oper} {rest:List Oper} {o:Oper} {a:Act} {Q:Exit→Act→World→Prop} (hgd:o.guard=none) (s x:Operand)
  (ho:o.op=.call { callee:=.builtin .append,args:=#[s,x],argTypes:=#[35,35] }) (base:Nat)
  (A0:Option Addr) (n c0:Nat) (L:List ByteArray) (hs:a.eval s=.slice A0 n c0) (hown:Tx base w A0 n c0 L)
  (A:Option Addr) (m c k:Nat) (hk:n+m=k) (M:List ByteArray) (hx:a.eval x=.slice A m c) (hr:Vs stV w A m M) (h63:k≤1000000) (hbase:base≤w.heap.size)
  (h:∀ A' c' w',Tx base w' A' k c' (L ++ M)→w.grownBy w' (Value.slice A0 n c0).ownBlock→wpList Tryz.prog ops Q rest (a.put o.dst (.slice A' k c')) w'):wpList Tryz.prog ops Q (o :: rest) a w :=
 wpList_app_V w hgd s x _ ho stV_len one_st base 9 (.string eT) 16 (by omega) Tryz.underlying35 infoTx rfl (by omega) _ n L hs hown.own A m c k hk M hx hr h63 hbase
  fun A' c' w' h1 h2=>h A' c' w' (Tx.mk' h1) h2
theorem made_texts (n:Nat):madeCells (Value.string eT).cells (n*1)=(rowV stV (List.replicate n eT)).toArray:=made_cells stV_len (by omega) eT n
theorem make_texts (n:Nat) (hn:n≤1000000) (w:World) :
  (Instr.makeSlice 35 (.int .i64 (n:Int)) (.int .i64 (n:Int))).run Tryz.prog w=.ok (.slice (some ⟨w.heap.size,0,none⟩) n n) (w.alloc (.cells (rowV stV (List.replicate n eT)).toArray 9)):=by
 obtain ⟨i0,hi,hz0,hz1,hz2⟩:=info_parts infoTx
 have hr:=run_make (P:=Tryz.prog) w 35 9 i0 _ Tryz.underlying35 hi hz0 .i64 .i64 n n (by omega) (Int.le_refl _) (by rw [hz2];omega) (by omega)
 rw [hr,hz1]
 simp only [Int.toNat_natCast]
 rw [made_texts]
theorem Tx.made (w:World) (n:Nat) (hn:n≤1000000):Tx w.heap.size (w.alloc (.cells (rowV stV (List.replicate n eT)).toArray 9)) (some ⟨w.heap.size,0,none⟩) n n (List.replicate n eT):=by
 have h:=World.ownsRow_lit (base:=w.heap.size) (e:=9) (size:=1) w (rowV stV (List.replicate n eT)).toArray n (Nat.le_refl _) (by unfold maxLen;omega) (by simp [rowT_len])
 exact Tx.mk' h
open Go.RowKit
structure AcR where
 a:AcS
 P:Option Addr
 np:Nat
 cp:Nat
 T:Option Addr
 nt:Nat
 ct:Nat
def acV (x:AcR):List Value:=[.int .i64 x.a.k,.int .i32 x.a.r,.int .u8 x.a.m,.int .u8 x.a.fin,.slice x.P x.np x.cp,.slice x.T x.nt x.ct]
def acA (x:AcR):Array Value:=#[.int .i64 x.a.k,.int .i32 x.a.r,.int .u8 x.a.m,.int .u8 x.a.fin,.slice x.P x.np x.cp,.slice x.T x.nt x.ct]
theorem acV_len (x:AcR):(acV x).length=6:=rfl
theorem one_ac (L:List AcR):∀ v∈rowV acV L,v.oneCell'=true:=by
 induction L with
 | nil=>intro v hv;cases hv
 | cons c L ih =>
  intro v hv
  rcases List.mem_append.1 hv with hv | hv
  · simp only [acV,List.mem_cons,List.not_mem_nil,or_false] at hv
    rcases hv with rfl | rfl | rfl | rfl | rfl | rfl<;>rfl
  · exact ih v hv
structure RdA (w:World) (x:AcR):Prop where
 p:Ik .i64 w x.P x.np x.a.ps
 t:Sb w x.T x.nt x.a.tx
 lp:x.np≤x.cp
 mp:x.cp≤maxLen
 lt:x.nt≤x.ct
 mt:x.ct≤maxLen
theorem RdA.below {w w':World} {x:AcR} (h:RdA w x) (hb:Below w.heap.size w w'):RdA w' x:=⟨h.p.below hb,h.t.below hb,h.lp,h.mp,h.lt,h.mt⟩
structure Ats (w:World) (A:Option Addr) (n:Nat) (R:List AcR):Prop where
 row:Vs acV w A n R
 rd:∀ x∈R,RdA w x
def acts (R:List AcR):List AcS:=R.map (·.a)
theorem acts_len (R:List AcR):(acts R).length=R.length:=by simp [acts]
theorem acts_get {R:List AcR} {k:Nat} {x:AcR} (h:R[k]?=some x):(acts R)[k]?=some x.a:=by simp [acts,h]
theorem addStepP (ad:Addr) (j:Nat):ad.add (j+1)=⟨ad.block,ad.off+(j+1),none⟩:=rfl
theorem addZeroP (ad:Addr):ad.add 0=ad:=rfl
structure Sxa (w:World) (ad:Addr) (x:AcR):Prop where
 c0:w.cell? ad=some (.int .i64 x.a.k)
 c1:w.cell? ⟨ad.block,ad.off+1,none⟩=some (.int .i32 x.a.r)
 c2:w.cell? ⟨ad.block,ad.off+2,none⟩=some (.int .u8 x.a.m)
 c3:w.cell? ⟨ad.block,ad.off+3,none⟩=some (.int .u8 x.a.fin)
 c4:w.cell? ⟨ad.block,ad.off+4,none⟩=some (.slice x.P x.np x.cp)
 c5:w.cell? ⟨ad.block,ad.off+5,none⟩=some (.slice x.T x.nt x.ct)
theorem Vs.sxa {w:World} {ad:Addr} {n:Nat} {L:List AcR} (h:Vs acV w (some ad) n L) {k:Nat} {x:AcR} (hk:L[k]?=some x):Sxa w (ad.add (k*6)) x:=by
 have h1:=h.get acV_len hk
 exact ⟨by simpa [addZeroP] using h1 0 _ rfl,by simpa [addStepP] using h1 1 _ rfl,by simpa [addStepP] using h1 2 _ rfl,by simpa [addStepP] using h1 3 _ rfl,by simpa [addStepP] using h1 4 _ rfl,by simpa [addStepP] using h1 5 _ rfl⟩
structure Sxb (w:World) (b:Nat) (x:AcR):Prop where
 lt:b<w.heap.size
 c0:w.cell? ⟨b,0,none⟩=some (.int .i64 x.a.k)
 c1:w.cell? ⟨b,1,none⟩=some (.int .i32 x.a.r)
 c2:w.cell? ⟨b,2,none⟩=some (.int .u8 x.a.m)
 c3:w.cell? ⟨b,3,none⟩=some (.int .u8 x.a.fin)
 c4:w.cell? ⟨b,4,none⟩=some (.slice x.P x.np x.cp)
 c5:w.cell? ⟨b,5,none⟩=some (.slice x.T x.nt x.ct)
theorem Sxb.new (w:World) (x:AcR) (t:TypeId):Sxb (w.alloc (.cells (acA x) t)) w.heap.size x:=by
 have hb:=heap_alloc_new w (.cells (acA x) t)
 refine ⟨by simp,?_,?_,?_,?_,?_,?_⟩<;>rw [cell_of_row _ _ _ _ _ _ hb]<;>rfl
open Go.RowKit
def NoA (w:World) (q:Nat):Prop:=∀ cs fr,w.heap[q]?≠some (.cells cs 62 fr)
theorem NoA.same {w w':World} {q:Nat} (h:NoA w q) (he:w'.heap[q]?=w.heap[q]?):NoA w' q:=fun cs fr=>by rw [he];exact h cs fr
structure Ap (w:World) (S:Nat→Prop) (x:AcR):Prop where
 p:∀ ad,x.P=some ad→0<x.np→¬ S ad.block∧NoA w ad.block
 t:∀ ad,x.T=some ad→0<x.nt→¬ S ad.block∧NoA w ad.block
structure OutB (B:Nat) (S:Nat→Prop) (w w':World):Prop where
 bel:Below B w w'
 keep:∀ q,q<w.heap.size→¬ S q→w'.heap[q]?=w.heap[q]?
theorem RdA.move {w w':World} {S S':Nat→Prop} {x:AcR} (h:RdA w x) (ha:Ap w S x) (hs:w.heap.size≤w'.heap.size) (hk:∀ q,q<w.heap.size→¬ S q→NoA w q→w'.heap[q]?=w.heap[q]?) (hS:∀ q,S' q→S q∨w.heap.size≤q):RdA w' x∧Ap w' S' x:=by
 have one:∀ (ad:Addr),ad.block<w.heap.size→¬ S ad.block∧NoA w ad.block→w'.heap[ad.block]?=w.heap[ad.block]?∧¬ S' ad.block∧NoA w' ad.block:=by
  intro ad hl hh
  have he:=hk _ hl hh.1 hh.2
  exact ⟨he,fun hq=>by rcases hS _ hq with hq | hq;exact hh.1 hq;omega,hh.2.same he⟩
 refine ⟨⟨h.p.keep hs fun p hn hA hp=>?_,h.t.keep hs fun p hn hA hp=>?_,h.lp,h.mp,h.lt,h.mt⟩,⟨fun ad e hn=>?_,fun ad e hn=>?_⟩⟩
 · cases hP:x.P with
   | none=>rw [hP] at hA;cases hA
   | some ad =>
    rw [hP] at hA
    have hA:ad.block=p.block:=by injection hA
    exact World.cell?_of_block (by rw [← hA];exact (one ad (by rw [hA];exact hp) (ha.p ad hP hn)).1)
 · cases hP:x.T with
   | none=>rw [hP] at hA;cases hA
   | some ad =>
    rw [hP] at hA
    have hA:ad.block=p.block:=by injection hA
    exact World.cell?_of_block (by rw [← hA];exact (one ad (by rw [hA];exact hp) (ha.t ad hP hn)).1)
 · obtain ⟨ad',e',hb,_⟩:=h.p.at_ hn
   obtain rfl:ad=ad':=by rw [e] at e';injection e'
   exact (one ad hb (ha.p ad e hn)).2
 · obtain ⟨ad',e',hb,_⟩:=h.t.at_ hn
   obtain rfl:ad=ad':=by rw [e] at e';injection e'
   exact (one ad hb (ha.t ad e hn)).2
theorem row_same {w w':World} {base:Nat} {e:TypeId} {size:Nat} {v:Value} {n:Nat} {xs:List Value} (h:w.ownsRow base e size v n xs) (hs:∀ g,v.ownBlock=some g→w'.heap[g]?=w.heap[g]?):w'.ownsRow base e size v n xs:=by
 refine ⟨h.1,?_⟩
 rcases h.2 with h1 | ⟨g,cap,cur,hv,hb,hg,hr⟩
 · exact .inl h1
 · exact .inr ⟨g,cap,cur,hv,hb,(hs g (by rw [hv];rfl)).trans hg,hr⟩
theorem row_act {w:World} {base:Nat} {size:Nat} {v:Value} {n:Nat} {xs:List Value} (h:w.ownsRow base 62 size v n xs):∀ g,v.ownBlock=some g→g<w.heap.size∧¬ NoA w g:=by
 intro g hg
 rcases h.2 with ⟨h1,_⟩ | ⟨g',cap,cur,hv,hb,hg',hr⟩
 · rw [h1] at hg;cases hg
 · rw [hv] at hg
   injection hg with hg
   rw [← hg]
   exact ⟨(Array.getElem?_eq_some_iff.1 hg').1,fun hn=>hn _ _ hg'⟩
theorem f27:feedP pa0 27=([],paIn 1):=by decide
open Go.RowKit
def Dc (w:World) (d:Nat) (o:List Int):Prop:=∃ s:ByteArray,w.heap[d]?=some (.cells #[.string s] 198 (0,0))∧sL s=o
theorem Dc.lt {w:World} {d:Nat} {o:List Int} (h:Dc w d o):d<w.heap.size:=by obtain ⟨s,h1,_⟩:=h;exact (Array.getElem?_eq_some_iff.1 h1).1
theorem Dc.below {w w':World} {d:Nat} {o:List Int} (h:Dc w d o) (hb:Below w.heap.size w w'):Dc w' d o:=by
 have hl:=h.lt
 obtain ⟨s,h1,h2⟩:=h
 exact ⟨s,(hb.block d hl).trans h1,h2⟩
theorem sL_empty:sL (⟨#[]⟩:ByteArray)=[]:=rfl
theorem new_any' (w:World):Calls Tryz.prog 141 #[] w fun e w'=>e=.returned (.pointer (some ⟨w.heap.size,0,none⟩))∧Dc w' w.heap.size []∧Below w.heap.size w w':=by
 go_enter Tryz.func141,Tryz.ntmps141
 go_wp2_with fail
 go_ret
 exact ⟨rfl,⟨_,heap_alloc_new _ _,sL_empty⟩,(Below.refl _ _).alloc (Nat.le_refl _) _⟩
theorem conv_one (w:World) (b:Int):(convert 36 9 (.slice (some ⟨w.heap.size,0,none⟩) 1 1)).run Tryz.prog (w.alloc (.cells #[.int .u8 b] 5))=.ok (.string (strOfNums [b])) (w.alloc (.cells #[.int .u8 b] 5)) :=
 conv_any (Sb.one w 5 b) _ Tryz.underlying9
theorem beg_not_whole {L:List Int} (h:begS L=true):wholeS L=none:=by
 rcases L with _ | ⟨a,_ | ⟨b,_ | ⟨c,_ | ⟨d,t⟩⟩⟩⟩<;>simp [begS] at h<;>simp [wholeS]<;>(intros;omega)
theorem feed_more {o:List Int} {b:Int} (h:begS (o ++ [b])=true):feedS o b=([],o ++ [b]):=by simp [feedS,beg_not_whole h,h]
theorem feed_done {o:List Int} {b r:Int} (h:wholeS (o ++ [b])=some r):feedS o b=([r],[]):=by simp [feedS,h]
theorem feed_bad {b:Int} (h:wholeS [b]=none) (h':begS [b]=false):feedS [] b=([65533],[]):=by simp [feedS,h,h']
theorem feed_fall {o:List Int} {b:Int} (h:wholeS (o ++ [b])=none) (h':begS (o ++ [b])=false) (ho:o≠[]):feedS o b=(65533 :: (feed1 b).1,(feed1 b).2):=by simp [feedS,h,h',ho]
def FeedPost (w:World) (d:Nat) (o:List Int) (b:Int) (e:Ending) (w':World):Prop :=
 ∃ A n c,e=.returned (.slice A n c)∧Ik .i32 w' A n (feedS o b).1∧Dc w' d (feedS o b).2∧w.grownBy w' (some d)∧w.heap.size≤w'.heap.size
theorem sL_append (s u:ByteArray):sL (s ++ u)=sL s ++ sL u:=by simp [sL,ByteArray.data_append]
set_option maxHeartbeats 1600000 in
set_option maxRecDepth 100000 in
theorem feed_gen {w0 w:World} {d:Nat} {o:List Int} {b:Int} (hrec:o≠[]→∀ wx,Below w0.heap.size w0 wx→Dc wx d []→Calls Tryz.prog 150 #[.pointer (some ⟨d,0,none⟩),.int .u8 b] wx (FeedPost wx d [] b)) (hT:Tabs w0) (hb:Below w0.heap.size w0 w) (hd:w0.heap.size≤d) (hD:Dc w d o) (ho:Op o) (h8:0≤b∧b≤255) :
  Calls Tryz.prog 150 #[.pointer (some ⟨d,0,none⟩),.int .u8 b] w (FeedPost w d o b):=by
 obtain ⟨s,hs,hso⟩:=hD
 have hl:s.size≤3:=by have:=ho.len;rw [← hso,sL_len] at this;exact this
 have hc:w.cell? ⟨d,0,none⟩=some (.string s):=by rw [cell_of_row _ _ 0 _ _ _ hs];rfl
 have H:=Lib.hid (show Tabs w0∧Below w0.heap.size w0 w∧w0.heap.size≤d∧sL s=o∧Op o∧w.heap[d]?=some (.cells #[.string s] 198 (0,0)) from ⟨hT,hb,hd,hso,ho,hs⟩)
 clear hT hb hd hso ho hs
 have k1:(strOfNums [b]).size=1:=strOfNums_size [b]
 obtain ⟨u,hu⟩:∃ u,strOfNums [b]=u:=⟨_,rfl⟩
 have kc:=conv_one w b
 have kc2:(convert 36 9 (.slice (some ⟨w.heap.size,0,none⟩) 1 1)).run Tryz.prog (w.alloc (.cells #[.int .u8 b] 5)).drew=.ok (.string (strOfNums [b])) (w.alloc (.cells #[.int .u8 b] 5)).drew:=conv_any (Sb.one w 5 b).drew _ Tryz.underlying9
 rw [hu] at k1 kc kc2
 have hc2:(w.alloc (.cells #[.int .u8 b] 5)).drew.cell? ⟨d,0,none⟩=some (.string s):=by
  have h1:=heap_alloc_old w (.cells #[.int .u8 b] 5) (Array.getElem?_eq_some_iff.1 H.out.2.2.2.2.2).1
  exact (cell_of_row _ d 0 _ _ _ (h1.trans H.out.2.2.2.2.2)).trans rfl
 have hc3:(w.alloc (.cells #[.int .u8 b] 5)).cell? ⟨d,0,none⟩=some (.string s):=hc2
 have ksz1:¬ 9223372036854775807<s.size+1:=by omega
 have ksz:s.size+u.size≤9223372036854775807:=by omega
 go_enter Tryz.func150,Tryz.ntmps150
 go_wp2_with fail
 go_region
 have hdl:=(Array.getElem?_eq_some_iff.1 H.out.2.2.2.2.2).1
 have Y1:=Lib.hid (show Below w.heap.size w (w.alloc (.cells #[.int .u8 b] 5)).drew∧(w.alloc (.cells #[.int .u8 b] 5)).drew.heap[d]?=some (.cells #[.string s] 198 (0,0)) from
  ⟨((Below.refl _ _).alloc (Nat.le_refl _) _).drew,(heap_alloc_old w _ hdl).trans H.out.2.2.2.2.2⟩)
 clear hc hc2 hc3 kc kc2
 generalize (w.alloc (.cells #[.int .u8 b] 5)).drew=w1 at Y1 ⊢
 have htl:sL (s ++ u)=o ++ [b]:=by rw [sL_append,H.out.2.2.2.1,← hu,sL_nums (fun z hz=>by simp at hz;subst hz;exact h8)]
 have htz:(s ++ u).size=o.length+1:=by rw [← sL_len,htl];simp
 have ho3:=H.out.2.2.2.2.1.len
 clear ksz ksz1 hl hu k1
 generalize s ++ u=t at htl htz ⊢
 have HU:=Lib.hid (unfinished_any (w:=w1) t (H.out.1.below (H.out.2.1.trans (Y1.out.1.mono H.out.2.1.size)) (Nat.le_refl _)) (by omega))
 rw [htl] at HU
 have HT:=Lib.hid (And.intro htl (And.intro htz ho3))
 clear htl htz ho3
 cases hbg:begS (o ++ [b])
 · rw [hbg] at HU
   have HB:=Lib.hid hbg
   clear hbg
   go_wp2_with fail
   refine HU.out.mono ?_
   rintro e w2 ⟨rfl,hb2⟩
   have Y2:=Lib.hid (show Below w.heap.size w w2∧w2.heap[d]?=some (.cells #[.string s] 198 (0,0)) from ⟨Y1.out.1.trans (hb2.mono Y1.out.1.size),(hb2.block d (Array.getElem?_eq_some_iff.1 Y1.out.2).1).trans Y1.out.2⟩)
   clear hb2 Y1 HU
   have hc:w2.cell? ⟨d,0,none⟩=some (.string s):=by rw [cell_of_row _ _ 0 _ _ _ Y2.out.2];rfl
   have hf:w2.frozen? ⟨d,0,none⟩=false:=frozen_of_row _ _ 0 _ _ Y2.out.2
   have hset:=heap_setCell_same w2 d 0 _ _ (.string ⟨#[]⟩) Y2.out.2
   go_wp2_with fail
   have Y3:=Lib.hid (show w.grownBy (w2.setCell ⟨d,0,none⟩ (.string ⟨#[]⟩)) (some d)∧Dc (w2.setCell ⟨d,0,none⟩ (.string ⟨#[]⟩)) d []∧w.heap.size≤(w2.setCell ⟨d,0,none⟩ (.string ⟨#[]⟩)).heap.size∧Below w0.heap.size w0 (w2.setCell ⟨d,0,none⟩ (.string ⟨#[]⟩)) from
    ⟨grownBy_trans (grownBy_below Y2.out.1) (grownBy_set w2 ⟨d,0,none⟩ _),⟨_,hset.trans rfl,sL_empty⟩,Nat.le_trans Y2.out.1.size (Nat.le_of_eq (World.size_setCell _ _ _).symm),
     (H.out.2.1.trans (Y2.out.1.mono H.out.2.1.size)).setCell H.out.2.2.1 _⟩)
   clear hset hc hf Y2
   generalize w2.setCell ⟨d,0,none⟩ (.string ⟨#[]⟩)=w3 at Y3 ⊢
   have HD:=Lib.hid (dec_any (w:=w3) t (H.out.1.below Y3.out.2.2.2 (Nat.le_refl _)) (by have:=HT.out;omega))
   rw [HT.out.1] at HD
   have hhead:=head_op H.out.2.2.2.2.1 HB.out
   cases hwh:wholeS (o ++ [b]) with
   | some r =>
    rw [hwh] at hhead
    have hds:decS (o ++ [b])=(r,o.length+1):=by unfold decS;rw [hhead];rfl
    rw [hds] at HD
    have HF:=Lib.hid (feed_done hwh)
    have hts:((o.length+1:Nat):Int)=(t.size:Int):=by rw [HT.out.2.1]
    have hts2:t.size=o.length+1:=HT.out.2.1
    clear hds hhead hwh hrec
    refine HD.out.mono ?_
    rintro e w4 ⟨rfl,hb4⟩
    generalize ((o.length+1:Nat):Int)=K at hts ⊢
    subst hts
    clear hts2
    go_wp2_with fail
    go_ret
    refine ⟨_,_,_,rfl,?_,?_,?_,?_⟩
    · rw [HF.out];exact Ik.one _ _ _ _
    · rw [HF.out];exact (Y3.out.2.1.below hb4).below ((Below.refl _ _).alloc (Nat.le_refl _) _)
    · exact grownBy_trans Y3.out.1 (grownBy_below (hb4.alloc hb4.size _))
    · have:=(hb4.alloc hb4.size (.cells #[.int .i32 r] 21)).size;exact Nat.le_trans Y3.out.2.2.1 this
   | none =>
    rw [hwh] at hhead
    have hds:decS (o ++ [b])=(65533,1):=by unfold decS;rw [hhead];rfl
    rw [hds] at HD
    by_cases hoe:o=[]
    · subst hoe
      have HF:=Lib.hid (feed_bad hwh HB.out)
      have hts:(1:Int)=(t.size:Int):=by rw [HT.out.2.1];rfl
      clear hds hhead hwh hrec
      refine HD.out.mono ?_
      rintro e w4 ⟨rfl,hb4⟩
      go_wp2_with fail
      go_ret
      refine ⟨_,_,_,rfl,?_,?_,?_,?_⟩
      · rw [HF.out];exact Ik.one _ _ _ _
      · rw [HF.out];exact (Y3.out.2.1.below hb4).below ((Below.refl _ _).alloc (Nat.le_refl _) _)
      · exact grownBy_trans Y3.out.1 (grownBy_below (hb4.alloc hb4.size _))
      · have:=(hb4.alloc hb4.size (.cells #[.int .i32 65533] 21)).size;exact Nat.le_trans Y3.out.2.2.1 this
    · have HF:=Lib.hid (feed_fall hwh HB.out hoe)
      have hts:¬ (1:Int)=(t.size:Int):=by have:=HT.out.2.1;have:o.length≠0:=fun h=>hoe (List.eq_nil_of_length_eq_zero h);omega
      have HR:=Lib.hid (hrec hoe)
      clear hds hhead hwh hrec
      refine HD.out.mono ?_
      rintro e w4 ⟨rfl,hb4⟩
      go_wp2_with fail
      have hd4:d<w4.heap.size:=(Y3.out.2.1.below hb4).lt
      have hb5:Below w4.heap.size w4 (w4.alloc (.cells #[.int .i32 65533] 21)):=(Below.refl _ _).alloc (Nat.le_refl _) _
      refine (HR.out (w4.alloc (.cells #[.int .i32 65533] 21)) ((Y3.out.2.2.2.trans (hb4.mono Y3.out.2.2.2.size)).alloc (Nat.le_trans Y3.out.2.2.2.size hb4.size) _) ((Y3.out.2.1.below hb4).below hb5)).mono ?_
      rintro e w5 ⟨A,n,c,rfl,hk,hdc,hg,hz⟩
      rw [feedS_nil] at hk hdc
      have hown:(w4.alloc (.cells #[.int .i32 65533] 21)).ownsRow w4.heap.size 21 1 (.slice (some ⟨w4.heap.size,0,none⟩) 1 1) 1 [.int .i32 65533] :=
       World.ownsRow_lit w4 #[.int .i32 65533] 1 (Nat.le_refl _) (by unfold maxLen;omega) rfl
      have hown5:=hown.kept hg (.inr (fun e=>by simp [Value.ownBlock] at e;omega))
      have hz5:w4.heap.size+1≤w5.heap.size:=by simp [World.size_alloc] at hz;omega
      have hnl:n≤1:=by rw [← hk.len];exact feed1_len b
      have hgg:w.grownBy w5 (some d):=grownBy_trans (grownBy_trans Y3.out.1 (grownBy_below (hb4.alloc hb4.size _))) hg
      have Y5:=Lib.hid (And.intro hk (And.intro hdc (And.intro hown5 (And.intro hz5 (And.intro hgg (And.intro hnl (And.intro hd4 hb4.size)))))))
      clear hk hdc hg hz hown hown5 hz5 hgg hnl hb4 hb5 hd4
      go_wp2_with (refine wpList_appI _ rfl (.tmp 38) (.tmp 41) 72 rfl w4.heap.size 21 .i32 4 (by omega) Tryz.underlying72 info32 (.slice (some ⟨w4.heap.size,0,none⟩) 1 1) 1 _ rfl Y5.out.2.2.1 A n c (1+n) rfl (feed1 b).1 rfl Y5.out.1 (by have:=Y5.out.2.2.2.2.2.1;omega) (by have:=Y5.out.2.2.2.1;omega) ?_;intro A' c' w6 hown6 hg6)
      go_ret
      have hne:Value.ownBlock (.slice (some ⟨w4.heap.size,0,none⟩) 1 1)≠some d:=fun e=>by have:=Y5.out.2.2.2.2.2.2.1;simp [Value.ownBlock] at e;omega
      have hdl5:=Y5.out.2.1.lt
      obtain ⟨s5,h51,h52⟩:=Y5.out.2.1
      refine ⟨_,_,_,rfl,?_,?_,?_,?_⟩
      · rw [HF.out];exact Ik.own (by simpa using hown6)
      · rw [HF.out];exact ⟨s5,(hg6.block d hdl5 (fun e=>hne e.symm)).trans h51,h52⟩
      · refine ⟨hg6.os.trans Y5.out.2.2.2.2.1.os,hg6.tape.trans Y5.out.2.2.2.2.1.tape,hg6.output.trans Y5.out.2.2.2.2.1.output,Nat.le_trans Y5.out.2.2.2.2.1.size hg6.size,fun k hk hkd=>?_⟩
        have h1:=Y5.out.2.2.2.2.1
        have h3:=Y3.out.2.2.1
        have h4:=Y5.out.2.2.2.2.2.2.2
        exact (hg6.block k (Nat.lt_of_lt_of_le hk h1.size) (fun e=>by simp [Value.ownBlock] at e;omega)).trans (h1.block k hk hkd)
      · exact Nat.le_trans Y5.out.2.2.2.2.1.size hg6.size
 · rw [hbg] at HU
   have HB:=Lib.hid (feed_more hbg)
   clear hbg
   go_wp2_with fail
   refine HU.out.mono ?_
   rintro e w2 ⟨rfl,hb2⟩
   have Y2:=Lib.hid (show Below w.heap.size w w2∧w2.heap[d]?=some (.cells #[.string s] 198 (0,0)) from ⟨Y1.out.1.trans (hb2.mono Y1.out.1.size),(hb2.block d (Array.getElem?_eq_some_iff.1 Y1.out.2).1).trans Y1.out.2⟩)
   clear hb2 Y1 HU
   have hc:w2.cell? ⟨d,0,none⟩=some (.string s):=by rw [cell_of_row _ _ 0 _ _ _ Y2.out.2];rfl
   have hf:w2.frozen? ⟨d,0,none⟩=false:=frozen_of_row _ _ 0 _ _ Y2.out.2
   go_wp2_with fail
   go_ret
   have hset:=heap_setCell_same w2 d 0 _ _ (.string t) Y2.out.2
   refine ⟨none,0,0,rfl,?_,?_,?_,?_⟩
   · rw [HB.out];exact Ik.nil _ _ _
   · rw [HB.out];exact ⟨t,hset.trans rfl,HT.out.1⟩
   · exact grownBy_trans (grownBy_below Y2.out.1) (grownBy_set w2 ⟨d,0,none⟩ _)
   · exact Nat.le_trans Y2.out.1.size (Nat.le_of_eq (World.size_setCell _ _ _).symm)
theorem feed_open {w0 w:World} {d:Nat} {b:Int} (hT:Tabs w0) (hb:Below w0.heap.size w0 w) (hd:w0.heap.size≤d) (hD:Dc w d []) (h8:0≤b∧b≤255) :
  Calls Tryz.prog 150 #[.pointer (some ⟨d,0,none⟩),.int .u8 b] w (FeedPost w d [] b) :=
 feed_gen (fun h=>absurd rfl h) hT hb hd hD (.inl rfl) h8
theorem feed_any {w0 w:World} {d:Nat} {o:List Int} {b:Int} (hT:Tabs w0) (hb:Below w0.heap.size w0 w) (hd:w0.heap.size≤d) (hD:Dc w d o) (ho:Op o) (h8:0≤b∧b≤255) :
  Calls Tryz.prog 150 #[.pointer (some ⟨d,0,none⟩),.int .u8 b] w (FeedPost w d o b) :=
 feed_gen (fun _ _ hb' hD'=>feed_open hT hb' hd hD' h8) hT hb hd hD ho h8
theorem end_any' {w:World} {d:Nat} {o:List Int} (hD:Dc w d o) :
  Calls Tryz.prog 148 #[.pointer (some ⟨d,0,none⟩)] w fun e w'=>∃ A n c,e=.returned (.slice A n c)∧Ik .i32 w' A n (endS o)∧Dc w' d []∧w.grownBy w' (some d):=by
 obtain ⟨s,hs,hso⟩:=hD
 have hc:w.cell? ⟨d,0,none⟩=some (.string s):=by rw [cell_of_row _ _ 0 _ _ _ hs];rfl
 have hf:w.frozen? ⟨d,0,none⟩=false:=frozen_of_row _ _ 0 _ _ hs
 have H:=Lib.hid (And.intro hs hso)
 clear hs hso
 have hz:=sL_len s
 rw [H.out.2] at hz
 by_cases ho:o=[]
 · have he:s=⟨#[]⟩:=by
    subst ho
    cases s with
    | mk dt =>
     have:dt.size=0:=hz.symm
     rw [Array.size_eq_zero_iff] at this
     rw [this]
   subst he
   have HZ:=Lib.hid ho
   clear hz ho
   go_enter Tryz.func148,Tryz.ntmps148
   go_wp2_with fail
   go_ret
   refine ⟨none,0,0,rfl,?_,?_,World.grownBy.refl w _⟩
   · rw [HZ.out];exact Ik.nil _ _ _
   · exact ⟨_,H.out.1,sL_empty⟩
 · have hne:s.toList.isEmpty=false:=by
    rw [Lib.toList_data]
    cases h:s.data.toList with
    | nil=>exact absurd (H.out.2.symm.trans (by unfold sL;rw [h];rfl)) ho
    | cons _ _=>rfl
   have HO:=Lib.hid ho
   have hset:=heap_setCell_same w d 0 _ _ (.string ⟨#[]⟩) H.out.1
   have HS:=Lib.hid (show (w.setCell ⟨d,0,none⟩ (.string ⟨#[]⟩)).heap[d]?=some (.cells #[.string ⟨#[]⟩] 198 (0,0)) from hset.trans rfl)
   clear ho hz hset
   go_enter Tryz.func148,Tryz.ntmps148
   go_wp2_with fail
   go_ret
   refine ⟨_,_,_,rfl,?_,?_,?_⟩
   · have h1:=Ik.one .i32 (w.setCell ⟨d,0,none⟩ (.string ⟨#[]⟩)) 21 65533
     rw [World.size_setCell] at h1
     rw [endS,if_neg HO.out];exact h1
   · exact ⟨_,(heap_alloc_old _ _ (Array.getElem?_eq_some_iff.1 HS.out).1).trans HS.out,sL_empty⟩
   · exact grownBy_trans (grownBy_set w ⟨d,0,none⟩ _) (grownBy_below ((Below.refl _ _).alloc (Nat.le_refl _) _))
open Go.RowKit
def ac0:AcR:=⟨⟨0,0,0,0,[],[]⟩,none,0,0,none,0,0⟩
theorem infoAc:(Tryz.prog.info? 62).map (fun i=>(i.zero,i.size,i.bytes))=some (some (.agg (acA ac0)),6,64):=by kernel_rfl
theorem infoInt3:(Tryz.prog.info? 3).map (fun i=>(i.zero,i.size,i.bytes))=some (some (.int .i64 0),1,8):=by kernel_rfl
theorem own_ge {w:World} {base:Nat} {e:TypeId} {size:Nat} {A:Option Addr} {n c:Nat} {xs:List Value} (h:w.ownsRow base e size (.slice A n c) n xs):∀ ad,A=some ad→base≤ad.block:=by
 rintro ad rfl
 rcases h.2 with ⟨h1,_⟩ | ⟨g,cap,cur,hv,hb,_⟩
 · cases h1
 · injection hv with hv
   injection hv with hv
   rw [hv]
   exact hb
end Go.Proofs.YtlcipgdnpilkfaaGreatDoor
