/-
  Part 3 of what the laws of emul want: CellSpec, Recs, CellMem, CellLeaf, CellEq.
-/
import Derived.Deep.MidRow
import Derived.Laws.MakeOwn
import Derived.BigQuiet
import Derived.Laws.StructEq
import Derived.Test.YtlcipgdnpilkfaaGreatDoorPo01
import Derived.Test.YtlcipgdnpilkfaaGreatDoorPo02
namespace Go.Proofs.YtlcipgdnpilkfaaGreatDoor
structure Pn where
 fg:Int
 bg:Int
 st:Int
 lk:Int
structure Ce where
 r:Int
 wd:Int
 p:Pn
theorem Pn.ext' {a b:Pn} (h1:a.fg=b.fg) (h2:a.bg=b.bg) (h3:a.st=b.st) (h4:a.lk=b.lk):a=b:=by cases a;cases b;simp_all
theorem Ce.ext' {a b:Ce} (h1:a.r=b.r) (h2:a.wd=b.wd) (h3:a.p=b.p):a=b:=by cases a;cases b;simp_all
instance:DecidableEq Pn:=fun a b =>
 if h:a.fg=b.fg∧a.bg=b.bg∧a.st=b.st∧a.lk=b.lk then isTrue (Pn.ext' h.1 h.2.1 h.2.2.1 h.2.2.2) else isFalse fun e=>h (by rw [e];exact ⟨rfl,rfl,rfl,rfl⟩)
instance:DecidableEq Ce:=fun a b =>
 if h:a.r=b.r∧a.wd=b.wd∧a.p=b.p then isTrue (Ce.ext' h.1 h.2.1 h.2.2) else isFalse fun e=>h (by rw [e];exact ⟨rfl,rfl,rfl⟩)
def pn0:Pn:=⟨0,0,0,0⟩
def ce0:Ce:=⟨0,0,pn0⟩
def colMay (c:Int):Bool:=decide (c≤256∨(16777216≤c∧c≤33554431))
def penMayS (p:Pn):Bool:=colMay p.fg && colMay p.bg
def cellMay (c:Ce):Bool:=penMayS c.p && ((decide (c.wd=0) && decide (widthS c.r=1)) || (decide (c.wd=1) && decide (widthS c.r=2)) || (decide (c.wd=2) && decide (c.r=0)))
def blankS (p:Pn):Ce:=⟨32,0,⟨0,p.bg,0,0⟩⟩
def rightS (c:Ce):Ce:=⟨0,2,c.p⟩
def cAt (L:List Ce) (i:Nat):Ce:=L.getD i ce0
def OkAt (L:List Ce) (i:Nat):Prop :=
 cellMay (cAt L i)=true∧((cAt L i).wd=1→i+1<L.length∧cAt L (i+1)=rightS (cAt L i))∧((cAt L i).wd=2→0<i∧(cAt L (i-1)).wd=1)
structure RowOk (L:List Ce):Prop where
 pos:1≤L.length
 le:L.length≤80
 at_:∀ i,i<L.length→OkAt L i
noncomputable def rowMay (L:List Ce):Bool:=@decide (RowOk L) (Classical.propDecidable _)
theorem rowMay_iff (L:List Ce):rowMay L=true↔RowOk L:=by unfold rowMay;exact @decide_eq_true_iff _ (Classical.propDecidable _)
theorem rowMay_not (L:List Ce):rowMay L=false↔¬ RowOk L:=by rw [← rowMay_iff];simp
theorem cAt_lt {L:List Ce} {i:Nat} (h:i<L.length):cAt L i=L[i]:=by simp [cAt,List.getD,List.getElem?_eq_getElem h]
theorem row_ext {L M:List Ce} (hl:L.length=M.length) (h:∀ i,i<L.length→cAt L i=cAt M i):L=M:=by
 apply List.ext_getElem hl
 intro i h1 h2
 rw [← cAt_lt h1,← cAt_lt h2,h i h1]
theorem cAt_set (L:List Ce) (k:Nat) (c:Ce) (i:Nat):cAt (L.set k c) i=if i=k∧i<L.length then c else cAt L i:=by
 unfold cAt
 simp only [List.getD,List.getElem?_set]
 by_cases h:k=i
 · subst h
   by_cases h2:k<L.length
   · simp [h2]
   · simp [h2]
 · simp [h,Ne.symm h]
theorem cAt_append (L M:List Ce) (i:Nat):cAt (L ++ M) i=if i<L.length then cAt L i else cAt M (i-L.length):=by
 unfold cAt
 simp only [List.getD]
 by_cases h:i<L.length
 · rw [List.getElem?_append_left h,if_pos h]
 · rw [List.getElem?_append_right (by omega),if_neg h]
theorem cAt_take (L:List Ce) (k i:Nat):cAt (L.take k) i=if i<k then cAt L i else ce0:=by
 unfold cAt
 simp only [List.getD,List.getElem?_take]
 split<;>simp
theorem cAt_drop (L:List Ce) (k i:Nat):cAt (L.drop k) i=cAt L (k+i):=by
 unfold cAt
 simp [List.getD]
theorem cAt_replicate (n:Nat) (c:Ce) (i:Nat):cAt (List.replicate n c) i=if i<n then c else ce0:=by
 unfold cAt
 simp only [List.getD,List.getElem?_replicate]
 split<;>simp
def cutS (L:List Ce) (x:Nat):List Ce :=
 if x<L.length∧(cAt L x).wd=2 then (L.set (x-1) (blankS (cAt L (x-1)).p)).set x (blankS (cAt L x).p) else L
def overS (L:List Ce) (x:Nat) (M:List Ce):List Ce:=L.take x ++ (M ++ L.drop (x+M.length))
theorem cutS_length (L:List Ce) (x:Nat):(cutS L x).length=L.length:=by unfold cutS;split<;>simp
theorem overS_length {L:List Ce} {x:Nat} {M:List Ce} (h:x+M.length≤L.length):(overS L x M).length=L.length:=by simp [overS];omega
theorem cAt_cutS (L:List Ce) (x i:Nat):cAt (cutS L x) i=if x<L.length∧(cAt L x).wd=2∧(i=x∨i=x-1) then blankS (cAt L i).p else cAt L i:=by
 unfold cutS
 by_cases h:x<L.length∧(cAt L x).wd=2
 · rw [if_pos h,cAt_set,cAt_set]
   simp only [List.length_set]
   by_cases h1:i=x
   · subst h1
     rw [if_pos ⟨rfl,h.1⟩,if_pos ⟨h.1,h.2,.inl rfl⟩]
   · rw [if_neg (fun e=>h1 e.1)]
     by_cases h2:i=x-1
     · subst h2
       rw [if_pos ⟨rfl,by omega⟩,if_pos ⟨h.1,h.2,.inr rfl⟩]
     · rw [if_neg (fun e=>h2 e.1),if_neg (by omega)]
 · rw [if_neg h,if_neg (fun e=>h ⟨e.1,e.2.1⟩)]
theorem cAt_overS {L:List Ce} {x:Nat} {M:List Ce} (h:x+M.length≤L.length) (i:Nat):cAt (overS L x M) i=if x≤i∧i<x+M.length then cAt M (i-x) else cAt L i:=by
 unfold overS
 rw [cAt_append,cAt_append,List.length_take,cAt_take,cAt_drop,Nat.min_eq_left (by omega)]
 by_cases h1:i<x
 · simp only [h1,if_true]
   rw [if_neg (by omega)]
 · rw [if_neg h1]
   by_cases h2:i<x+M.length
   · rw [if_pos (by omega),if_pos ⟨by omega,h2⟩]
   · rw [if_neg (by omega),if_neg (by omega)]
     congr 1
     omega
def lettS (r:Int) (p:Pn):List Ce:=if widthS r=1 then [⟨r,0,p⟩] else if widthS r=2 then [⟨r,1,p⟩,⟨0,2,p⟩] else []
def putS (L:List Ce) (x r:Int) (p:Pn):List Ce :=
 let k:=(lettS r p).length
 if 0≤x∧x<L.length∧0<k∧(k:Int)≤L.length-x then overS (cutS (cutS L x.toNat) (x.toNat+k)) x.toNat (lettS r p) else L
def eraseS (L:List Ce) (a b:Int) (p:Pn):List Ce :=
 let f:=(max a 0).toNat
 let t:=(min b L.length).toNat
 if f<t then overS (cutS (cutS L f) t) f (List.replicate (t-f) (blankS p)) else L
def insertS (L:List Ce) (x n:Int) (p:Pn):List Ce :=
 let k:=(min n (L.length-x)).toNat
 let M:=cutS (cutS L x.toNat) (L.length-k)
 if 0≤x∧x<L.length∧1≤n then overS (overS M (x.toNat+k) ((M.drop x.toNat).take (L.length-(x.toNat+k)))) x.toNat (List.replicate k (blankS p)) else L
def deleteS (L:List Ce) (x n:Int) (p:Pn):List Ce :=
 let k:=(min n (L.length-x)).toNat
 let M:=cutS (cutS L x.toNat) (x.toNat+k)
 if 0≤x∧x<L.length∧1≤n then overS (overS M x.toNat (M.drop (x.toNat+k))) (L.length-k) (List.replicate k (blankS p)) else L
abbrev Pc:=Ce × Int
def pAt (P:List Pc) (i:Nat):Pc:=P.getD i (ce0,0)
def torn (P:List Pc) (i:Nat):Bool :=
 decide (((pAt P i).1.wd=1∧(i+1=P.length∨(pAt P (i+1)).1.wd≠2∨(pAt P (i+1)).2≠(pAt P i).2+1)) ∨
  ((pAt P i).1.wd=2∧(i=0∨(pAt P (i-1)).1.wd≠1∨(pAt P (i-1)).2≠(pAt P i).2-1)))
def mendC (P:List Pc) (i:Nat):Ce:=if torn P i then blankS (pAt P i).1.p else (pAt P i).1
def mendS (P:List Pc):List Ce:=(List.range P.length).map (mendC P)
def piecesS (L:List Ce):List Pc:=(List.range L.length).map fun i=>(cAt L i,(i:Int))
theorem mendS_length (P:List Pc):(mendS P).length=P.length:=by simp [mendS]
theorem piecesS_length (L:List Ce):(piecesS L).length=L.length:=by simp [piecesS]
theorem cAt_mendS {P:List Pc} {i:Nat} (h:i<P.length):cAt (mendS P) i=mendC P i:=by
 unfold cAt mendS
 simp [List.getD,h]
theorem pAt_piecesS {L:List Ce} {i:Nat} (h:i<L.length):pAt (piecesS L) i=(cAt L i,(i:Int)):=by
 unfold pAt piecesS
 simp [List.getD,h]
theorem pAt_set (P:List Pc) (k:Nat) (c:Pc) (i:Nat):pAt (P.set k c) i=if i=k∧i<P.length then c else pAt P i:=by
 unfold pAt
 simp only [List.getD,List.getElem?_set]
 by_cases h:k=i
 · subst h
   by_cases h2:k<P.length
   · simp [h2]
   · simp [h2]
 · simp [h,Ne.symm h]
theorem pAt_append (L M:List Pc) (i:Nat):pAt (L ++ M) i=if i<L.length then pAt L i else pAt M (i-L.length):=by
 unfold pAt
 simp only [List.getD]
 by_cases h:i<L.length
 · rw [List.getElem?_append_left h,if_pos h]
 · rw [List.getElem?_append_right (by omega),if_neg h]
theorem pAt_take (L:List Pc) (k i:Nat):pAt (L.take k) i=if i<k then pAt L i else (ce0,0):=by
 unfold pAt
 simp only [List.getD,List.getElem?_take]
 split<;>simp
theorem pAt_drop (L:List Pc) (k i:Nat):pAt (L.drop k) i=pAt L (k+i):=by
 unfold pAt
 simp [List.getD]
theorem pAt_replicate (n:Nat) (c:Pc) (i:Nat):pAt (List.replicate n c) i=if i<n then c else (ce0,0):=by
 unfold pAt
 simp only [List.getD,List.getElem?_replicate]
 split<;>simp
def putR (L:List Ce) (x r:Int) (p:Pn):List Pc :=
 if 0≤x∧x<L.length∧widthS r=1 then (piecesS L).set x.toNat (⟨r,0,p⟩,-10)
 else if 0≤x∧x<L.length-1∧widthS r=2 then ((piecesS L).set x.toNat (⟨r,1,p⟩,-10)).set (x.toNat+1) (⟨0,2,p⟩,-9)
 else piecesS L
def eraseR (L:List Ce) (a b:Int) (p:Pn):List Pc:=(List.range L.length).map fun (i:Nat)=>if a≤(i:Int)∧(i:Int)<b then (blankS p,-10) else (cAt L i,(i:Int))
def insertR (L:List Ce) (x k:Nat) (p:Pn):List Pc:=(piecesS L).take x ++ (List.replicate k (blankS p,-10) ++ ((piecesS L).drop x).take (L.length-(x+k)))
def deleteR (L:List Ce) (x k:Nat) (p:Pn):List Pc:=(piecesS L).take x ++ ((piecesS L).drop (x+k) ++ List.replicate k (blankS p,-10))
theorem pAt_eraseR {L:List Ce} {a b:Int} {p:Pn} {i:Nat} (h:i<L.length):pAt (eraseR L a b p) i=if a≤(i:Int)∧(i:Int)<b then (blankS p,-10) else (cAt L i,(i:Int)):=by
 unfold pAt eraseR
 simp [List.getD,h]
theorem eraseR_length (L:List Ce) (a b:Int) (p:Pn):(eraseR L a b p).length=L.length:=by simp [eraseR]
open Go.RowKit
section
variable {α:Type} {f:α→List Value} {d:Nat} {w w':World} {A:Option Addr} {n:Nat} {L:List α}
def rowV (f:α→List Value):List α→List Value
 | []=>[]
 | a :: L=>f a ++ rowV f L
theorem rowV_append (f:α→List Value) (L M:List α):rowV f (L ++ M)=rowV f L ++ rowV f M:=by
 induction L with
 | nil=>rfl
 | cons a L ih=>simp [rowV,ih]
theorem rowV_len (hf:∀ a,(f a).length=d) (L:List α):(rowV f L).length=L.length*d:=by
 induction L with
 | nil=>simp [rowV]
 | cons a L ih=>simp [rowV,ih,hf,Nat.succ_mul];omega
theorem rowV_get (hf:∀ a,(f a).length=d) {k:Nat} {a:α} (hk:L[k]?=some a) {j:Nat} {v:Value} (hj:(f a)[j]?=some v):(rowV f L)[k*d+j]?=some v:=by
 have hlt:j<(f a).length:=(List.getElem?_eq_some_iff.1 hj).1
 induction L generalizing k with
 | nil=>simp at hk
 | cons b L ih =>
  cases k with
  | zero =>
   simp at hk
   subst hk
   rw [rowV,Nat.zero_mul,Nat.zero_add,List.getElem?_append_left hlt,hj]
  | succ k =>
   have:=ih (k:=k) (by simpa using hk)
   rw [rowV,List.getElem?_append_right (by rw [hf,Nat.succ_mul];omega),hf,← this]
   congr 1
   rw [Nat.succ_mul]
   omega
theorem rowV_take (hf:∀ a,(f a).length=d) (L:List α) (k:Nat):(rowV f L).take (k*d)=rowV f (L.take k):=by
 induction L generalizing k with
 | nil=>simp [rowV]
 | cons a L ih =>
  cases k with
  | zero=>simp [rowV]
  | succ k =>
   rw [rowV,List.take_append,hf,List.take_of_length_le (by rw [hf,Nat.succ_mul];omega),show (k+1)*d-d=k*d by rw [Nat.succ_mul];omega,ih]
   simp [rowV]
theorem rowV_drop (hf:∀ a,(f a).length=d) (L:List α) (k:Nat):(rowV f L).drop (k*d)=rowV f (L.drop k):=by
 induction L generalizing k with
 | nil=>simp [rowV]
 | cons a L ih =>
  cases k with
  | zero=>simp [rowV]
  | succ k =>
   rw [rowV,List.drop_append,hf,List.drop_eq_nil_of_le (by rw [hf,Nat.succ_mul];omega),show (k+1)*d-d=k*d by rw [Nat.succ_mul];omega,ih]
   simp
structure Vs (f:α→List Value) (w:World) (A:Option Addr) (n:Nat) (L:List α):Prop where
 len:L.length=n
 at_:0<n→∃ ad,A=some ad∧ad.block<w.heap.size∧∀ j v,(rowV f L)[j]?=some v→w.cell? (ad.add j)=some v
theorem Vs.nil (w:World) (A:Option Addr):Vs f w A 0 []:=⟨rfl,fun h=>absurd h (by omega)⟩
theorem Vs.keep (h:Vs f w A n L) (hs:w.heap.size≤w'.heap.size) (hk:∀ p:Addr,0<n→A.map (·.block)=some p.block→p.block<w.heap.size→w'.cell? p=w.cell? p):Vs f w' A n L :=
 ⟨h.len,fun hn=>by
  obtain ⟨ad,rfl,hb,hc⟩:=h.at_ hn
  exact ⟨ad,rfl,by omega,fun j v hj=>(hk (ad.add j) hn (by simp [addBlock]) (by rw [addBlock];exact hb)).trans (hc j v hj)⟩⟩
theorem Vs.below (h:Vs f w A n L) (hb:Below w.heap.size w w'):Vs f w' A n L:=h.keep hb.size fun _ _ _ hp=>hb.cell hp
theorem Vs.alloc (h:Vs f w A n L) (o:Obj):Vs f (w.alloc o) A n L:=h.below ((Below.refl _ _).alloc (Nat.le_refl _) o)
theorem Vs.grown (h:Vs f w A n L) {row:Option Nat} (hg:w.grownBy w' row) (hne:∀ ad,A=some ad→0<n→row≠some ad.block):Vs f w' A n L :=
 h.keep hg.size fun p hn hA hp=>World.cell?_of_block (hg.block p.block hp (fun e=>by
  cases A with
  | none=>simp at hA
  | some ad=>simp at hA;exact hne ad rfl hn (by rw [← e,hA])))
theorem Vs.addr (h:Vs f w A n L) (hn:0<n):∃ ad,A=some ad:=by obtain ⟨ad,e,_⟩:=h.at_ hn;exact ⟨ad,e⟩
theorem Vs.lt {ad:Addr} (h:Vs f w (some ad) n L) (hn:0<n):ad.block<w.heap.size:=by
 obtain ⟨ad',e,hb,_⟩:=h.at_ hn
 injection e with e
 subst e
 exact hb
theorem Vs.news {ad:Addr} (h:Vs f w (some ad) n L):∀ j v,(rowV f L)[j]?=some v→w.cell? (ad.add j)=some v:=by
 intro j v hj
 by_cases hn:0<n
 · obtain ⟨ad',e,_,hc⟩:=h.at_ hn
   injection e with e
   subst e
   exact hc j v hj
 · obtain rfl:L=[]:=List.eq_nil_of_length_eq_zero (by rw [h.len];omega)
   simp [rowV] at hj
theorem Vs.get (hf:∀ a,(f a).length=d) {ad:Addr} (h:Vs f w (some ad) n L) {k:Nat} {a:α} (hk:L[k]?=some a):∀ j v,(f a)[j]?=some v→w.cell? ((ad.add (k*d)).add j)=some v:=fun j v hj=>by
 rw [addAdd]
 exact h.news _ _ (rowV_get hf hk hj)
theorem Vs.front (hf:∀ a,(f a).length=d) (h:Vs f w A n L) {k:Nat} (hk:k≤n):Vs f w A k (L.take k):=by
 refine ⟨by rw [List.length_take,h.len];omega,fun hn=>?_⟩
 obtain ⟨ad,rfl,hb,hc⟩:=h.at_ (by omega)
 refine ⟨ad,rfl,hb,fun j v hj=>hc j v ?_⟩
 rw [← rowV_take hf,List.getElem?_take] at hj
 split at hj
 · exact hj
 · cases hj
theorem Vs.cut (hf:∀ a,(f a).length=d) (h:Vs f w A n L) {k c:Nat} (hk:k≤n) (hc:n≤c):Vs f w (if c=k then A else A.map (·.add (k*d))) (n-k) (L.drop k):=by
 refine ⟨by rw [List.length_drop,h.len],fun hn=>?_⟩
 obtain ⟨ad,rfl,hb,hcell⟩:=h.at_ (by omega)
 rw [if_neg (by omega)]
 refine ⟨ad.add (k*d),rfl,by rw [addBlock];exact hb,fun j v hj=>?_⟩
 rw [addAdd]
 rw [← rowV_drop hf,List.getElem?_drop] at hj
 exact hcell _ _ hj
def Rw (f:α→List Value) (t:TypeId) (w:World) (g:Nat) (L:List α):Prop:=∃ rest:List Value,w.heap[g]?=some (.cells (rowV f L ++ rest).toArray t (0,0))
theorem Rw.lt {t:TypeId} {g:Nat} (h:Rw f t w g L):g<w.heap.size:=by obtain ⟨r,h⟩:=h;exact (Array.getElem?_eq_some_iff.1 h).1
theorem Rw.kept {t:TypeId} {g:Nat} (h:Rw f t w g L) (hb:w'.heap[g]?=w.heap[g]?):Rw f t w' g L:=by obtain ⟨r,h⟩:=h;exact ⟨r,hb.trans h⟩
theorem Rw.below {t:TypeId} {g:Nat} (h:Rw f t w g L) (hb:Below w.heap.size w w'):Rw f t w' g L:=h.kept (hb.block _ h.lt)
theorem Rw.grown {t:TypeId} {g:Nat} (h:Rw f t w g L) {row:Option Nat} (hg:w.grownBy w' row) (hne:row≠some g):Rw f t w' g L:=h.kept (hg.block _ h.lt fun e=>hne e.symm)
theorem Rw.cell {t:TypeId} {g:Nat} (h:Rw f t w g L) {j:Nat} {v:Value} (hj:(rowV f L)[j]?=some v):w.cell? ⟨g,j,none⟩=some v:=by
 obtain ⟨r,h⟩:=h
 rw [cell_of_row w g j _ t (0,0) h]
 have hlt:j<(rowV f L).length:=(List.getElem?_eq_some_iff.1 hj).1
 rw [List.getElem?_toArray,List.getElem?_append_left hlt,hj]
theorem Rw.vs {t:TypeId} {g:Nat} (h:Rw f t w g L):Vs f w (some ⟨g,0,none⟩) L.length L:=⟨rfl,fun _=>⟨_,rfl,h.lt,fun j v hj=>by rw [addHead];exact h.cell hj⟩⟩
theorem Rw.get (hf:∀ a,(f a).length=d) {t:TypeId} {g:Nat} (h:Rw f t w g L) {k:Nat} {a:α} (hk:L[k]?=some a):w.rangeAt g (k*d) (f a):=fun _ _ hj=>h.cell (rowV_get hf hk hj)
theorem Rw.free {t:TypeId} {g:Nat} (h:Rw f t w g L) (j:Nat):w.frozen? ⟨g,j,none⟩=false:=by obtain ⟨r,h⟩:=h;simp [World.frozen?,h]
theorem Rw.there (hf:∀ a,(f a).length=d) {t:TypeId} {g:Nat} (h:Rw f t w g L) {k m:Nat} (hk:k+m≤L.length):w.there g (k*d) (m*d):=fun j hj=>by
 refine ⟨?_,h.free _⟩
 have hl:=rowV_len hf L
 have h2:(k+m)*d≤L.length*d:=Nat.mul_le_mul_right _ hk
 have h3:k*d+j<(rowV f L).length:=by rw [hl];rw [Nat.add_mul] at h2;omega
 rw [h.cell (List.getElem?_eq_getElem h3)]
 rfl
theorem own_rw {base:Nat} {e:TypeId} {g c:Nat} (h:w.ownsRow base e d (.slice (some ⟨g,0,none⟩) n c) n (rowV f L)):Rw f e w g L:=by
 rcases h.2 with ⟨h3,h4⟩ | ⟨g',cap,cur,hv,hb,hg,hle,hm,hs,ht⟩
 · cases h3
 · injection hv with hA _ hc
   injection hA with hA
   injection hA with hA
   subst hA
   refine ⟨cur.toList.drop (n*d),?_⟩
   rw [← ht,List.take_append_drop,Array.toArray_toList]
   exact hg
theorem setCells_row (g:Nat) (t:TypeId):∀ (vs:List Value) (o:Nat) (cur:List Value) (w:World),w.heap[g]?=some (.cells cur.toArray t (0,0))→o+vs.length≤cur.length →
  (w.setCells g o vs).heap[g]?=some (.cells (cur.take o ++ (vs ++ cur.drop (o+vs.length))).toArray t (0,0))∧(∀ k,k≠g→(w.setCells g o vs).heap[k]?=w.heap[k]?)∧(w.setCells g o vs).heap.size=w.heap.size ∧
   (w.setCells g o vs).os=w.os∧(w.setCells g o vs).tape=w.tape∧(w.setCells g o vs).output=w.output:=by
 intro vs
 induction vs with
 | nil=>intro o cur w h _;exact ⟨by simpa [World.setCells] using h,fun _ _=>rfl,rfl,rfl,rfl,rfl⟩
 | cons v vs ih =>
  intro o cur w h hl
  simp only [List.length_cons] at hl
  have h1:(w.setCell ⟨g,o,none⟩ v).heap[g]?=some (.cells (cur.set o v).toArray t (0,0)):=by
   rw [heap_setCell_same w _ _ _ _ _ h]
   simp
  obtain ⟨e1,e2,e3,e4,e5,e6⟩:=ih (o+1) (cur.set o v) (w.setCell ⟨g,o,none⟩ v) h1 (by simp;omega)
  have e0:w.setCells g o (v :: vs)=(w.setCell ⟨g,o,none⟩ v).setCells g (o+1) vs:=rfl
  rw [e0]
  refine ⟨?_,fun k hk=>(e2 k hk).trans (heap_setCell_other w _ k v hk),by rw [e3];simp,e4,e5,e6⟩
  rw [e1]
  congr 3
  have:=list_seg_step cur o v vs (by simpa using hl)
  simpa [Nat.add_assoc] using this
theorem Rw.stored (hf:∀ a,(f a).length=d) {t:TypeId} {g:Nat} (h:Rw f t w g L) {k:Nat} {M:List α} (hk:k+M.length≤L.length) :
  Rw f t (w.setCells g (k*d) (rowV f M)) g (L.take k ++ (M ++ L.drop (k+M.length)))∧w.grownBy (w.setCells g (k*d) (rowV f M)) (some g):=by
 obtain ⟨r,h⟩:=h
 have hl:=rowV_len hf L
 have hm:=rowV_len hf M
 have h2:(k+M.length)*d≤L.length*d:=Nat.mul_le_mul_right _ hk
 rw [Nat.add_mul] at h2
 obtain ⟨e1,e2,e3,e4,e5,e6⟩:=setCells_row g t (rowV f M) (k*d) _ w h (by rw [List.length_append];omega)
 refine ⟨⟨r,?_⟩,e4,e5,e6,by omega,fun i _ hne=>e2 i fun e=>hne (by rw [e])⟩
 rw [e1]
 congr 2
 rw [List.take_append_of_le_length (by omega),List.drop_append_of_le_length (by omega),hm,← Nat.add_mul,rowV_take hf,rowV_drop hf,rowV_append,rowV_append]
 simp only [List.append_assoc]
end
open Go.RowKit
def ceV (c:Ce):List Value:=[.int .i32 c.r,.int .u8 c.wd,.int .u32 c.p.fg,.int .u32 c.p.bg,.int .u8 c.p.st,.int .u16 c.p.lk]
def ceA (c:Ce):Array Value:=#[.int .i32 c.r,.int .u8 c.wd,.int .u32 c.p.fg,.int .u32 c.p.bg,.int .u8 c.p.st,.int .u16 c.p.lk]
def pnA (p:Pn):Array Value:=#[.int .u32 p.fg,.int .u32 p.bg,.int .u8 p.st,.int .u16 p.lk]
theorem ceV_len (c:Ce):(ceV c).length=6:=rfl
theorem getElem?_cAt {L:List Ce} {k:Nat} (h:k<L.length):L[k]?=some (cAt L k):=by rw [cAt_lt h,List.getElem?_eq_getElem h]
theorem one_ce (L:List Ce):∀ v∈rowV ceV L,v.oneCell'=true:=by
 induction L with
 | nil=>intro v hv;cases hv
 | cons c L ih =>
  intro v hv
  rcases List.mem_append.1 hv with hv | hv
  · simp only [ceV,List.mem_cons,List.not_mem_nil,or_false] at hv
    rcases hv with rfl | rfl | rfl | rfl | rfl | rfl<;>rfl
  · exact ih v hv
open Go.RowKit
theorem colMay_any (c:Int) (w:World):Calls Tryz.prog 247 #[.int .u32 c] w fun e w'=>e=.returned (.bool (colMay c))∧w=w':=by
 obtain ⟨B,hB⟩:∃ B,colMay c=B:=⟨_,rfl⟩
 rw [hB]
 have HB:=Lib.hid hB
 clear hB
 by_cases h1:c≤256
 · have hb:B=true:=by rw [← HB.out];simp [colMay];omega
   subst hb
   go_enter Tryz.func247,Tryz.ntmps247
   go_wp2_with fail
   go_ret
   exact ⟨rfl,rfl⟩
 · by_cases h2:16777216≤c
   · by_cases h3:c≤33554431
     · have hb:B=true:=by rw [← HB.out];simp [colMay];omega
       subst hb
       go_enter Tryz.func247,Tryz.ntmps247
       go_wp2_with fail
       go_ret
       exact ⟨rfl,rfl⟩
     · have hb:B=false:=by rw [← HB.out];simp [colMay];omega
       subst hb
       go_enter Tryz.func247,Tryz.ntmps247
       go_wp2_with fail
       go_ret
       exact ⟨rfl,rfl⟩
   · have hb:B=false:=by rw [← HB.out];simp [colMay];omega
     subst hb
     go_enter Tryz.func247,Tryz.ntmps247
     go_wp2_with fail
     go_ret
     exact ⟨rfl,rfl⟩
theorem penMay_any (p:Pn) (w:World):Calls Tryz.prog 210 #[.agg (pnA p)] w fun e w'=>e=.returned (.bool (penMayS p))∧Below w.heap.size w w':=by
 obtain ⟨fg,bg,st,lk⟩:=p
 unfold pnA
 obtain ⟨x,hx⟩:∃ x,colMay fg=x:=⟨_,rfl⟩
 have e:penMayS ⟨fg,bg,st,lk⟩=(x && colMay bg):=by unfold penMayS;rw [hx]
 rw [e]
 have HX:=Lib.hid hx
 clear e hx
 cases x
 · go_enter Tryz.func210,Tryz.ntmps210
   go_wp2_with fail
   refine (colMay_any _ _).mono ?_
   rintro e w1 ⟨rfl,rfl⟩
   rw [HX.out]
   go_wp2_with fail
   go_ret
   exact ⟨rfl,(Below.refl _ _).alloc (Nat.le_refl _) _⟩
 · go_enter Tryz.func210,Tryz.ntmps210
   go_wp2_with fail
   refine (colMay_any _ _).mono ?_
   rintro e w1 ⟨rfl,rfl⟩
   rw [HX.out]
   go_wp2_with fail
   refine (colMay_any _ _).mono ?_
   rintro e w1 ⟨rfl,rfl⟩
   go_wp2_with fail
   go_ret
   exact ⟨by simp,(Below.refl _ _).alloc (Nat.le_refl _) _⟩
theorem beqD (a b:Int):(a == b)=decide (a=b):=by rw [Bool.eq_iff_iff];simp
theorem alloc2_new (w:World) (o1 o2:Obj):((w.alloc o1).alloc o2).heap[w.heap.size+1]?=some o2:=by
 have:=heap_alloc_new (w.alloc o1) o2
 simpa using this
theorem infoCe:(Tryz.prog.info? 66).map (·.size)=some 6:=by kernel_rfl
theorem blank_any (p:Pn) (w:World):Calls Tryz.prog 209 #[.agg (pnA p)] w fun e w'=>e=.returned (.agg (ceA (blankS p)))∧Below w.heap.size w w':=by
 obtain ⟨fg,bg,st,lk⟩:=p
 unfold pnA
 go_enter Tryz.func209,Tryz.ntmps209
 go_wp2_with fail
 exact bodyPost_ret (results_cell_row Tryz.results209 _ _ (w.heap.size+1) 66 _ (0,0) _ rfl (alloc2_new _ _ _) Tryz.underlying66 rfl infoCe) rfl ⟨rfl,((Below.refl _ _).alloc (Nat.le_refl _) _).alloc (by simp) _⟩
theorem refBlank_any (p:Pn) (w:World):Calls Tryz.prog 77 #[.agg (pnA p)] w fun e w'=>e=.returned (.agg (ceA (blankS p)))∧Below w.heap.size w w':=by
 obtain ⟨fg,bg,st,lk⟩:=p
 unfold pnA
 go_enter Tryz.func77,Tryz.ntmps77
 go_wp2_with fail
 exact bodyPost_ret (results_cell_row Tryz.results77 _ _ (w.heap.size+1) 66 _ (0,0) _ rfl (alloc2_new _ _ _) Tryz.underlying66 rfl infoCe) rfl ⟨rfl,((Below.refl _ _).alloc (Nat.le_refl _) _).alloc (by simp) _⟩
theorem rightOf_any (c:Ce) (w:World):Calls Tryz.prog 204 #[.agg (ceA c)] w fun e w'=>e=.returned (.agg (ceA (rightS c)))∧Below w.heap.size w w':=by
 obtain ⟨r,wd,fg,bg,st,lk⟩:=c
 unfold ceA
 go_enter Tryz.func204,Tryz.ntmps204
 go_wp2_with fail
 exact bodyPost_ret (results_cell_row Tryz.results204 _ _ (w.heap.size+1) 66 _ (0,0) _ rfl (alloc2_new _ _ _) Tryz.underlying66 rfl infoCe) rfl ⟨rfl,((Below.refl _ _).alloc (Nat.le_refl _) _).alloc (by simp) _⟩
theorem ceMay_any (c:Ce) {w:World} (hT:Tabs w):Calls Tryz.prog 203 #[.agg (ceA c)] w fun e w'=>e=.returned (.bool (cellMay c))∧Below w.heap.size w w':=by
 obtain ⟨B,hB⟩:∃ B,cellMay c=B:=⟨_,rfl⟩
 rw [hB]
 obtain ⟨r,wd,p⟩:=c
 obtain ⟨V,hV⟩:∃ V,widthS r=V:=⟨_,rfl⟩
 obtain ⟨M,hM⟩:∃ M,penMayS p=M:=⟨_,rfl⟩
 unfold cellMay at hB
 simp only [hV,hM] at hB
 have HV:=Lib.hid (And.intro hV hM)
 have HB:=Lib.hid hB
 have HT:=Lib.hid hT
 clear hV hM hB hT
 obtain ⟨fg,bg,st,lk⟩:=p
 unfold ceA
 dsimp only
 go_enter Tryz.func203,Tryz.ntmps203
 go_wp2_with fail
 refine (penMay_any ⟨fg,bg,st,lk⟩ _).mono ?_
 rintro e w1 ⟨rfl,hb⟩
 rw [HV.out.2]
 have c0:w1.cell? ⟨w.heap.size,0,none⟩=some (.int .i32 r):=(hb.cell (by simp)).trans (cell_of_row _ _ 0 _ _ _ (heap_alloc_new w _))
 have c1:w1.cell? ⟨w.heap.size,1,none⟩=some (.int .u8 wd):=(hb.cell (by simp)).trans (cell_of_row _ _ 1 _ _ _ (heap_alloc_new w _))
 have X:=Lib.hid (show Below w.heap.size w w1 from ((Below.refl _ _).alloc (Nat.le_refl _) _).trans (hb.mono (by simp)))
 clear hb
 cases M
 · go_wp2_with fail
   go_ret
   exact ⟨by rw [← HB.out];first | (simp;done) | (simp;exact beqD _ _),X.out⟩
 · by_cases h0:wd=0
   · subst h0
     go_wp2_with fail
     refine (width_any r (HT.out.below X.out (Nat.le_refl _))).mono ?_
     rintro e w2 ⟨rfl,hb⟩
     rw [HV.out.1]
     have X2:=Lib.hid (X.out.trans (hb.mono X.out.size))
     clear hb X
     go_wp2_with fail
     go_ret
     exact ⟨by rw [← HB.out];first | (simp;done) | (simp;exact beqD _ _),X2.out⟩
   · by_cases h1:wd=1
     · subst h1
       go_wp2_with fail
       refine (width_any r (HT.out.below X.out (Nat.le_refl _))).mono ?_
       rintro e w2 ⟨rfl,hb⟩
       rw [HV.out.1]
       have X2:=Lib.hid (X.out.trans (hb.mono X.out.size))
       clear hb X
       go_wp2_with fail
       go_ret
       exact ⟨by rw [← HB.out];first | (simp;done) | (simp;exact beqD _ _),X2.out⟩
     · by_cases h2:wd=2
       · subst h2
         go_wp2_with fail
         go_ret
         exact ⟨by rw [← HB.out];first | (simp;done) | (simp;exact beqD _ _),X.out⟩
       · go_wp2_with fail
         go_ret
         exact ⟨by rw [← HB.out];simp [h0,h1,h2],X.out⟩
open Go.RowKit
theorem fieldsPn:((Tryz.prog.fieldsOf 31).toList.map fun f=>(f.name != "_",f.type,f.offset))=[(true,28,0),(true,28,1),(true,5,2),(true,29,3)]:=by kernel_rfl
theorem fieldsCe:((Tryz.prog.fieldsOf 66).toList.map fun f=>(f.name != "_",f.type,f.offset))=[(true,21,0),(true,5,1),(true,31,2)]:=by kernel_rfl
theorem pn_equal (a b:Pn) (d:Nat) (w:World):(Op.equalIn (d+2) 31 (.agg (pnA a)) (.agg (pnA b))).run Tryz.prog w=.ok (decide (a=b)) w:=by
 rw [run_equalIn_agg w (d+1) 31 _ _ (by kernel_rfl) (by kernel_rfl)]
 have hf:=fieldsPn
 obtain ⟨fs,hfs⟩:∃ fs,fs=(Tryz.prog.fieldsOf 31).toList:=⟨_,rfl⟩
 rw [← hfs] at hf ⊢
 clear hfs
 obtain ⟨f0,f1,f2,f3,rfl⟩:∃ f0 f1 f2 f3,fs=[f0,f1,f2,f3]:=by
  match fs,(show fs.length=4 by simpa using congrArg List.length hf) with
  | [f0,f1,f2,f3],_=>exact ⟨f0,f1,f2,f3,rfl⟩
 simp only [List.map_cons,List.map_nil,List.cons.injEq,Prod.mk.injEq,and_true,bne_iff_ne] at hf
 obtain ⟨⟨h0,h1,h2⟩,⟨h3,h4,h5⟩,⟨h6,h7,h8⟩,h9,h10,h11⟩:=hf
 have p0:∀ (x:Pn) (w:World),(part 28 (pnA x) 0).run Tryz.prog w=.ok (.int .u32 x.fg) w:=fun x w=>by kernel_rfl
 have p1:∀ (x:Pn) (w:World),(part 28 (pnA x) 1).run Tryz.prog w=.ok (.int .u32 x.bg) w:=fun x w=>by kernel_rfl
 have p2:∀ (x:Pn) (w:World),(part 5 (pnA x) 2).run Tryz.prog w=.ok (.int .u8 x.st) w:=fun x w=>by kernel_rfl
 have p3:∀ (x:Pn) (w:World),(part 29 (pnA x) 3).run Tryz.prog w=.ok (.int .u16 x.lk) w:=fun x w=>by kernel_rfl
 have q0:∀ (x y:Int) (w:World),(Op.equalIn (d+1) 28 (.int .u32 x) (.int .u32 y)).run Tryz.prog w=.ok (x == y) w:=fun x y w=>run_equalIn_int w d _ _ _ _ _ Tryz.underlying28
 have q2:∀ (x y:Int) (w:World),(Op.equalIn (d+1) 5 (.int .u8 x) (.int .u8 y)).run Tryz.prog w=.ok (x == y) w:=fun x y w=>run_equalIn_int w d _ _ _ _ _ Tryz.underlying5
 have q3:∀ (x y:Int) (w:World),(Op.equalIn (d+1) 29 (.int .u16 x) (.int .u16 y)).run Tryz.prog w=.ok (x == y) w:=fun x y w=>run_equalIn_int w d _ _ _ _ _ Tryz.underlying29
 simp only [Op.eqFields,h0,h1,h2,h3,h4,h5,h6,h7,h8,h9,h10,h11,ne_eq,not_false_eq_true,if_true,Sem.run_bind,p0,q0,Result.andThen_ok]
 have hab:(a=b)↔(a.fg=b.fg∧a.bg=b.bg∧a.st=b.st∧a.lk=b.lk):=⟨fun e=>by rw [e];exact ⟨rfl,rfl,rfl,rfl⟩,fun h=>Pn.ext' h.1 h.2.1 h.2.2.1 h.2.2.2⟩
 by_cases e0:a.fg=b.fg<;>by_cases e1:a.bg=b.bg<;>by_cases e2:a.st=b.st<;>by_cases e3:a.lk=b.lk<;>simp [e0,e1,e2,e3,hab,p1,p2,p3,q0,q2,q3]
theorem ce_equal (a b:Ce) (d:Nat) (w:World):(Op.equalIn (d+3) 66 (.agg (ceA a)) (.agg (ceA b))).run Tryz.prog w=.ok (decide (a=b)) w:=by
 rw [run_equalIn_agg w (d+2) 66 _ _ (by kernel_rfl) (by kernel_rfl)]
 have hf:=fieldsCe
 obtain ⟨fs,hfs⟩:∃ fs,fs=(Tryz.prog.fieldsOf 66).toList:=⟨_,rfl⟩
 rw [← hfs] at hf ⊢
 clear hfs
 obtain ⟨f0,f1,f2,rfl⟩:∃ f0 f1 f2,fs=[f0,f1,f2]:=by
  match fs,(show fs.length=3 by simpa using congrArg List.length hf) with
  | [f0,f1,f2],_=>exact ⟨f0,f1,f2,rfl⟩
 simp only [List.map_cons,List.map_nil,List.cons.injEq,Prod.mk.injEq,and_true,bne_iff_ne] at hf
 obtain ⟨⟨h0,h1,h2⟩,⟨h3,h4,h5⟩,h6,h7,h8⟩:=hf
 have p0:∀ (x:Ce) (w:World),(part 21 (ceA x) 0).run Tryz.prog w=.ok (.int .i32 x.r) w:=fun x w=>by kernel_rfl
 have p1:∀ (x:Ce) (w:World),(part 5 (ceA x) 1).run Tryz.prog w=.ok (.int .u8 x.wd) w:=fun x w=>by kernel_rfl
 have p2:∀ (x:Ce) (w:World),(part 31 (ceA x) 2).run Tryz.prog w=.ok (.agg (pnA x.p)) w:=fun x w=>by kernel_rfl
 have q0:∀ (x y:Int) (w:World),(Op.equalIn (d+2) 21 (.int .i32 x) (.int .i32 y)).run Tryz.prog w=.ok (x == y) w:=fun x y w=>run_equalIn_int w (d+1) _ _ _ _ _ Tryz.underlying21
 have q1:∀ (x y:Int) (w:World),(Op.equalIn (d+2) 5 (.int .u8 x) (.int .u8 y)).run Tryz.prog w=.ok (x == y) w:=fun x y w=>run_equalIn_int w (d+1) _ _ _ _ _ Tryz.underlying5
 simp only [Op.eqFields,h0,h1,h2,h3,h4,h5,h6,h7,h8,ne_eq,not_false_eq_true,if_true,Sem.run_bind,p0,q0,Result.andThen_ok]
 have hab:(a=b)↔(a.r=b.r∧a.wd=b.wd∧a.p=b.p):=⟨fun e=>by rw [e];exact ⟨rfl,rfl,rfl⟩,fun h=>Ce.ext' h.1 h.2.1 h.2.2⟩
 by_cases e0:a.r=b.r<;>by_cases e1:a.wd=b.wd<;>by_cases e2:a.p=b.p<;>simp [e0,e1,e2,hab,p1,p2,q1,pn_equal]
theorem ce_neq (a b:Ce) (w:World):(binOp .neq 66 (.agg (ceA a)) (.agg (ceA b))).run Tryz.prog w=.ok (.bool (!decide (a=b))) w:=by
 rw [run_neq_struct,ce_equal a b 9997 w];rfl
theorem guardCe:Tryz.prog.eqGuardType Tryz.prog.depth 66=false:=by kernel_rfl
end Go.Proofs.YtlcipgdnpilkfaaGreatDoor
