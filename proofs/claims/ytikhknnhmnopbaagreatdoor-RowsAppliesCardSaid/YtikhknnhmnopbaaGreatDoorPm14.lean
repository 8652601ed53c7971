/-
  Part 14 of what the laws of emul want: GridRefA.
-/
import Derived.LoopTactic
import Derived.StillTailTactics
import Derived.Deep.RegionHeld3
import Derived.Maps.RangeWalk
import Derived.Test.YtikhknnhmnopbaaGreatDoorPm01
import Derived.Test.YtikhknnhmnopbaaGreatDoorPm02
import Derived.Test.YtikhknnhmnopbaaGreatDoorPm05
import Derived.Test.YtikhknnhmnopbaaGreatDoorPm09
namespace Go.Proofs.YtikhknnhmnopbaaGreatDoor
open Go.RowKit
structure Sl where
 A:Option Addr
 n:Nat
 k:Nat
def slV (s:Sl):List Value:=[.slice s.A s.n s.k]
theorem slV_len (s:Sl):(slV s).length=1:=rfl
theorem one_sl (L:List Sl):∀ v∈rowV slV L,v.oneCell'=true:=by
 induction L with
 | nil=>intro v hv;cases hv
 | cons c L ih =>
  intro v hv
  rcases List.mem_append.1 hv with hv | hv
  · simp only [slV,List.mem_cons,List.not_mem_nil,or_false] at hv
    rcases hv with rfl
    rfl
  · exact ih v hv
def sAtG (S:List Sl) (i:Nat):Sl:=S.getD i ⟨none,0,0⟩
theorem getElem?_sAtG {S:List Sl} {k:Nat} (h:k<S.length):S[k]?=some (sAtG S k):=by simp [sAtG,List.getD,List.getElem?_eq_getElem h]
theorem sAt_append (S:List Sl) (s:Sl) (i:Nat):sAtG (S ++ [s]) i=if i<S.length then sAtG S i else if i=S.length then s else ⟨none,0,0⟩:=by
 unfold sAtG
 simp only [List.getD]
 by_cases h:i<S.length
 · rw [List.getElem?_append_left h,if_pos h]
 · rw [List.getElem?_append_right (by omega),if_neg h]
   by_cases e:i=S.length
   · subst e;simp
   · rw [if_neg e,List.getElem?_eq_none (by simp;omega)];rfl
theorem infoSl3:(Tryz.prog.info? 22).map (fun i=>(i.zero,i.size,i.bytes))=some (some (.slice none 0 0),1,24):=by kernel_rfl
theorem rw_apart {α β:Type} {f:α→List Value} {f':β→List Value} {t t':TypeId} {w:World} {g g':Nat} {L:List α} {L':List β} (h:Rw f t w g L) (h':Rw f' t' w g' L') (ht:t≠t'):g≠g':=by
 rintro rfl
 obtain ⟨r,h⟩:=h
 obtain ⟨r',h'⟩:=h'
 rw [h] at h'
 injection h' with h'
 injection h' with _ h3
 exact ht h3
def OwnRow (w:World) (base:Nat) (s:Sl) (L:List Ce):Prop:=∃ g,base≤g∧s.A=some ⟨g,0,none⟩∧s.n=L.length∧s.n≤s.k∧s.k≤maxLen∧Rw ceV 43 w g L
theorem OwnRow.below {w w':World} {base:Nat} {s:Sl} {L:List Ce} (h:OwnRow w base s L) (hb:Below w.heap.size w w'):OwnRow w' base s L:=by
 obtain ⟨g,h1,h2,h3,h4,h5,h6⟩:=h
 exact ⟨g,h1,h2,h3,h4,h5,h6.below hb⟩
theorem OwnRow.grown {w w':World} {base:Nat} {s:Sl} {L:List Ce} (h:OwnRow w base s L) {row:Option Nat} (hg:w.grownBy w' row) (hr:∀ b,row=some b→∃ (α:Type) (f:α→List Value) (t:TypeId) (M:List α),Rw f t w b M∧t≠43):OwnRow w' base s L:=by
 obtain ⟨g,h1,h2,h3,h4,h5,h6⟩:=h
 refine ⟨g,h1,h2,h3,h4,h5,h6.grown hg fun e=>?_⟩
 obtain ⟨α,f,t,M,hM,ht⟩:=hr g e
 exact rw_apart hM h6 ht rfl
theorem OwnRow.vs {w:World} {base:Nat} {s:Sl} {L:List Ce} (h:OwnRow w base s L):Vs ceV w s.A s.n L:=by
 obtain ⟨g,h1,h2,h3,h4,h5,h6⟩:=h
 rw [h2,h3]
 exact h6.vs
theorem OwnRow.mk' {w:World} {base g n k:Nat} {L:List Ce} (h1:base≤g) (h3:n=L.length) (h4:n≤k) (h5:k≤maxLen) (h6:Rw ceV 43 w g L):OwnRow w base ⟨some ⟨g,0,none⟩,n,k⟩ L:=⟨g,h1,rfl,h3,h4,h5,h6⟩
structure Ls (w:World) (base:Nat) (S:List Sl) (LL:Rws):Prop where
 len:S.length=LL.length
 at_:∀ i,i<LL.length→OwnRow w base (sAtG S i) (lAt LL i)
section
variable {w w':World} {base:Nat} {S:List Sl} {LL:Rws}
theorem Ls.nil (w:World) (base:Nat):Ls w base [] []:=⟨rfl,fun i hi=>absurd hi (by simp)⟩
theorem Ls.below (h:Ls w base S LL) (hb:Below w.heap.size w w'):Ls w' base S LL:=⟨h.len,fun i hi=>(h.at_ i hi).below hb⟩
theorem Ls.grown (h:Ls w base S LL) {row:Option Nat} (hg:w.grownBy w' row) (hr:∀ b,row=some b→∃ (α:Type) (f:α→List Value) (t:TypeId) (M:List α),Rw f t w b M∧t≠43):Ls w' base S LL:=⟨h.len,fun i hi=>(h.at_ i hi).grown hg hr⟩
theorem Ls.snoc (h:Ls w base S LL) {s:Sl} {M:List Ce} (hs:OwnRow w base s M):Ls w base (S ++ [s]) (LL ++ [M]):=by
 refine ⟨by rw [List.length_append,List.length_append,h.len];rfl,fun i hi=>?_⟩
 rw [List.length_append] at hi
 simp only [List.length_cons,List.length_nil,Nat.zero_add] at hi
 rw [sAt_append,lAt_append,h.len]
 by_cases e:i<LL.length
 · rw [if_pos e,if_pos e];exact h.at_ i e
 · rw [if_neg e,if_neg e,if_pos (by omega),show i-LL.length=0 by omega];exact hs
end
structure Tb (w:World) (base g:Nat) (S:List Sl) (LL:Rws):Prop where
 rw_:Rw slV 22 w g S
 ls:Ls w base S LL
theorem Tb.below {w w':World} {base g:Nat} {S:List Sl} {LL:Rws} (h:Tb w base g S LL) (hb:Below w.heap.size w w'):Tb w' base g S LL:=⟨h.rw_.below hb,h.ls.below hb⟩
theorem Tb.cell {w:World} {base g:Nat} {S:List Sl} {LL:Rws} (h:Tb w base g S LL) {i:Nat} (hi:i<LL.length):w.cell? ⟨g,i,none⟩=some (.slice (sAtG S i).A (sAtG S i).n (sAtG S i).k):=by
 have h1:=h.rw_.get slV_len (getElem?_sAtG (S:=S) (k:=i) (by rw [h.ls.len];exact hi)) 0 _ rfl
 rw [Nat.mul_one,Nat.add_zero] at h1
 exact h1
def bK (n:Nat) (p:Pn) (k:Nat):List Ce:=List.replicate k (blankS p) ++ List.replicate (n-k) ce0
theorem bK_len {n k:Nat} (p:Pn) (h:k≤n):(bK n p k).length=n:=by simp [bK];omega
theorem bK_zero (n:Nat) (p:Pn):bK n p 0=List.replicate n ce0:=by simp [bK]
theorem bK_all (n:Nat) (p:Pn):bK n p n=blanksS n p:=by simp [bK,blanksS]
theorem bK_set {n k:Nat} (p:Pn) (h:k<n):(bK n p k).set k (blankS p)=bK n p (k+1):=by
 refine row_ext (by rw [List.length_set,bK_len p (by omega),bK_len p (by omega)]) fun i hi=>?_
 rw [List.length_set,bK_len p (by omega)] at hi
 rw [cAt_set,bK_len p (by omega)]
 unfold bK
 rw [cAt_append,cAt_append,List.length_replicate,List.length_replicate,cAt_replicate,cAt_replicate,cAt_replicate,cAt_replicate]
 by_cases e:i=k
 · subst e
   rw [if_pos ⟨rfl,hi⟩,if_pos (by omega),if_pos (by omega)]
 · rw [if_neg (fun e2=>e e2.1)]
   by_cases e2:i<k
   · rw [if_pos e2,if_pos e2,if_pos (by omega),if_pos (by omega)]
   · rw [if_neg e2,if_neg (show ¬ i<k+1 by omega)]
     split<;>split<;>rfl
set_option maxHeartbeats 1600000 in
theorem refBlanks_any {w:World} {n:Nat} (p:Pn) (hn:n≤1000000):Calls Tryz.prog 52 #[.int .i64 (n:Int),.agg (pnA p)] w (MadeC (blanksS n p) w):=by
 have hmk:=make_any (P:=Tryz.prog) 22 Tryz.underlying22 ce0 ceV_len (by omega) (b8:=20) (by omega) infoCe3 n hn
 obtain ⟨w0,hw0⟩:∃ w0,w0=(w.alloc (.cells (pnA p) 41)).alloc (.cells (rowV ceV (List.replicate n ce0)).toArray 43):=⟨_,rfl⟩
 obtain ⟨b,hbe⟩:∃ b,b=w.heap.size:=⟨_,rfl⟩
 have H:=Lib.hid (show Below w.heap.size w w0∧Pen4 w0 b p∧Rw ceV 43 w0 (b+1) (bK n p 0)∧b=w.heap.size from by
  have b1:=below1 w (.cells (pnA p) 41)
  have h1:=pen4_new w p 41
  have h2:=made_rw (f:=ceV) (w.alloc (.cells (pnA p) 41)) 43 (List.replicate n ce0)
  rw [alloc_size] at h2
  rw [hw0,hbe,bK_zero]
  exact ⟨b1.alloc b1.size _,h1.below (below1 _ _),h2,rfl⟩)
 unfold pnA at hw0
 go_enter Tryz.func52,Tryz.ntmps52
 unfold pnA
 go_upto_region 2 with fail
 rw [← hw0,← hbe]
 clear hw0 hbe hmk
 go_wp2_with fail
 go_loopw [11] (fun i wr=>∃ k:Nat,k≤n∧i=.int .i64 k∧Below w.heap.size w wr∧Pen4 wr b p∧Rw ceV 43 wr (b+1) (bK n p k)) (fun i _=>n-(intOf i).toNat)
 case atStart=>exact ⟨0,Nat.zero_le _,rfl,H.out.1,H.out.2.1,H.out.2.2.1⟩
 case round =>
  obtain ⟨k,hk,rfl,hbw,hp,hR⟩:=hrel
  have X:=Lib.hid (And.intro hbw (And.intro hp hR))
  clear hbw hp hR
  by_cases hlt:k<n
  · have hkl:(k:Int)<(n:Int):=by omega
    obtain ⟨d0,d1,d2,d3,_⟩:=X.out.2.1
    go_wp2_with fail
    refine (refBlank_any p _).mono ?_
    rintro e w1 ⟨rfl,hb⟩
    have Y:=Lib.hid (show Below w.heap.size w w1∧Pen4 w1 b p∧Rw ceV 43 w1 (b+1) (bK n p k) from ⟨X.out.1.trans (hb.mono X.out.1.size),X.out.2.1.below hb,X.out.2.2.below hb⟩)
    clear hb d0 d1 d2 d3
    go_wp2_with (refine wpList_store_V rfl 43 (.tmp 18) (.tmp 17) rfl ceV_len one_ce infoCe (b+1) _ k (blankS p) _ rfl rfl rfl rfl 43 _ Y.out.2.2 (by rw [bK_len p (by omega)];exact hlt) ?_;intro w2 hR2 hg2;rw [bK_set p hlt] at hR2)
    have Z:=Lib.hid (show Below w.heap.size w w2∧Pen4 w2 b p∧Rw ceV 43 w2 (b+1) (bK n p (k+1)) from ⟨Y.out.1.grown hg2 Y.out.1.size (by intro j hj;injection hj with hj;have:=H.out.2.2.2;omega),Y.out.2.1.grown hg2 (by simp),hR2⟩)
    clear hR2 hg2
    go_wp2_with fail
    go_roundw
    case rel=>exact ⟨k+1,by omega,by go_num,Z.out⟩
    case measure=>simp [intOf];omega
  · obtain rfl:k=n:=by omega
    have HP:=Lib.hid (show MadeC (blanksS k p) w (.returned (.slice (some ⟨b+1,0,none⟩) k k)) wr from by
     have h1:=X.out.2.2
     rw [bK_all] at h1
     exact ⟨X.out.1,b+1,k,by rw [blanks_len],by have:=H.out.2.2.2;omega,by rw [blanks_len];exact Nat.le_refl _,by unfold maxLen;omega,h1⟩)
    go_wp2_with fail
    go_ret
    exact HP.out
open Go.RowKit
structure Bld (w wr:World) (A:Option Addr) (m c:Nat) (S:List Sl) (LL:Rws):Prop where
 bel:Below w.heap.size w wr
 own:wr.ownsRow w.heap.size 22 1 (.slice A m c) m (rowV slV S)
 ls:Ls wr w.heap.size S LL
 ln:LL.length=m
theorem own_type {w:World} {base:Nat} {e:TypeId} {d:Nat} {v:Value} {n:Nat} {xs:List Value} (h:w.ownsRow base e d v n xs) {g:Nat} (hg:v.ownBlock=some g):Rw slV e w g []:=by
 rcases h.2 with ⟨rfl,_⟩ | ⟨g',cap,cur,rfl,hb,hgg,rest⟩
 · simp [Value.ownBlock] at hg
 · have:g'=g:=by simpa [Value.ownBlock] using hg
   subst this
   exact ⟨cur.toList,by simpa [rowV] using hgg⟩
section
variable {w wr w':World} {A A':Option Addr} {m m' c c':Nat} {S:List Sl} {LL:Rws}
theorem Bld.below (h:Bld w wr A m c S LL) (hb:Below wr.heap.size wr w'):Bld w w' A m c S LL :=
 ⟨h.bel.trans (hb.mono h.bel.size),h.own.kept (grownBy_below (row:=none) hb) (by cases (Value.slice A m c).ownBlock<;>simp),h.ls.below hb,h.ln⟩
theorem Bld.app (h:Bld w wr A m c S LL) {s:Sl} {M:List Ce} (hs:OwnRow wr w.heap.size s M) (ho:w'.ownsRow w.heap.size 22 1 (.slice A' m' c') m' (rowV slV (S ++ [s]))) (hg:wr.grownBy w' (Value.slice A m c).ownBlock) (hm:m'=m+1):Bld w w' A' m' c' (S ++ [s]) (LL ++ [M]) :=
 ⟨Below.grown h.bel hg h.bel.size (fun k hk=>(h.own.lt k hk).1),ho,(h.ls.snoc hs).grown hg (fun b hb=>⟨_,slV,_,[],own_type h.own hb,by decide⟩),by rw [List.length_append,h.ln,hm];rfl⟩
theorem Bld.tb (h:Bld w wr A m c S LL) (hm:0<m):∃ g,A=some ⟨g,0,none⟩∧w.heap.size≤g∧m≤c∧c≤maxLen∧Tb wr w.heap.size g S LL:=by
 obtain ⟨g,h1,h2,h3,h4,h5⟩:=own_some hm h.own
 exact ⟨g,h1,h2,h3,h4,h5,h.ls⟩
end
theorem vs_oneS (w:World) (t:TypeId) (s:Sl):Vs slV (w.alloc (.cells #[.slice s.A s.n s.k] t)) (some ⟨w.heap.size,0,none⟩) 1 [s]:=by
 have h2:=(made_rw (f:=slV) w t [s]).vs
 simpa [rowV,slV] using h2
theorem rowsS_snoc (c q:Nat) (L:List Ce):rowsS c (q+1) L=rowsS c q L ++ [rowAt c L q]:=by unfold rowsS;rw [List.range_succ,List.map_append];rfl
theorem rowsS_len (c q:Nat) (L:List Ce):(rowsS c q L).length=q:=by simp [rowsS]
def RsPost (ok:Bool) (LL:Rws) (w:World) (e:Ending) (w':World):Prop :=
 (ok=true→Below w.heap.size w w'∧∃ g k S,e=.returned (.tuple #[.slice (some ⟨g,0,none⟩) LL.length k,.bool true])∧w.heap.size≤g∧LL.length≤k∧k≤maxLen∧Tb w' w.heap.size g S LL) ∧
 (ok=false→e=.returned (.tuple #[.slice none 0 0,.bool false])∧Below w.heap.size w w')
theorem RsPost.no {LL:Rws} {w:World} {e:Ending} {w':World} {ok:Bool} (hk:ok=false) (h:e=.returned (.tuple #[.slice none 0 0,.bool false])∧Below w.heap.size w w'):RsPost ok LL w e w':=by
 subst hk
 exact ⟨fun e=>(by cases e),fun _=>h⟩
set_option maxHeartbeats 3200000 in
theorem refRows_any {w:World} {A:Option Addr} {n k:Nat} {c r:Int} {L:List Ce} (h:Vs ceV w A n L) (hk:n≤k) (hn:n≤9223372036854775807) {ok:Bool} (hok:gridMay c r L=ok) {LL:Rws} (hLL:rowsS c.toNat r.toNat L=LL) :
  Calls Tryz.prog 43 #[.agg (gV c r A n k)] w (RsPost ok LL w):=by
 obtain ⟨w0,hw0⟩:∃ w0,w0=w.alloc (.cells (gV c r A n k) 58):=⟨_,rfl⟩
 obtain ⟨b,hbe⟩:∃ b,b=w.heap.size:=⟨_,rfl⟩
 have H:=Lib.hid (show Vs ceV w0 A n L∧Gb w0 b ⟨c,r,A,n,k⟩∧Below w.heap.size w w0∧b=w.heap.size from by
  rw [hw0,hbe]
  exact ⟨h.alloc _,gb_new w ⟨c,r,A,n,k⟩,below1 _ _,rfl⟩)
 have HL:=Lib.hid (And.intro h.len (And.intro hok hLL))
 have HT:=Lib.hid h
 clear h hok hLL
 obtain ⟨c0,c1,c2,_⟩:=H.out.2.1.g3
 unfold gV at hw0
 obtain ⟨S,hS⟩:∃ S,sizeOk c r=S:=⟨_,rfl⟩
 cases S
 · have HF:=Lib.hid (show ok=false from by rw [← HL.out.2.1];exact gridMay_sz hS)
   unfold sizeOk at hS
   have hS2:=of_decide_eq_false hS
   clear hS
   by_cases h1:c<1
   · clear hS2
     go_enter Tryz.func43,Tryz.ntmps43
     unfold gV
     go_upto_region 1 with fail
     rw [← hw0,← hbe]
     clear hw0 hbe
     go_wp2_with fail
     exact bodyPost_ret (results_tmp2 Tryz.results43 _ _ _) rfl (RsPost.no HF.out ⟨rfl,H.out.2.2.1⟩)
   · have h1':1≤c:=by omega
     by_cases h2:80<c
     · clear hS2
       go_enter Tryz.func43,Tryz.ntmps43
       unfold gV
       go_upto_region 1 with fail
       rw [← hw0,← hbe]
       clear hw0 hbe
       go_wp2_with fail
       exact bodyPost_ret (results_tmp2 Tryz.results43 _ _ _) rfl (RsPost.no HF.out ⟨rfl,H.out.2.2.1⟩)
     · have h2':c≤80:=by omega
       by_cases h3:r<1
       · clear hS2
         go_enter Tryz.func43,Tryz.ntmps43
         unfold gV
         go_upto_region 1 with fail
         rw [← hw0,← hbe]
         clear hw0 hbe
         go_wp2_with fail
         exact bodyPost_ret (results_tmp2 Tryz.results43 _ _ _) rfl (RsPost.no HF.out ⟨rfl,H.out.2.2.1⟩)
       · have h3':1≤r:=by omega
         have h4:24<r:=by omega
         clear hS2
         go_enter Tryz.func43,Tryz.ntmps43
         unfold gV
         go_upto_region 1 with fail
         rw [← hw0,← hbe]
         clear hw0 hbe
         go_wp2_with fail
         exact bodyPost_ret (results_tmp2 Tryz.results43 _ _ _) rfl (RsPost.no HF.out ⟨rfl,H.out.2.2.1⟩)
 · obtain ⟨c',r',rfl,rfl,h1,h2,h3,h4⟩:=size_nat hS
   have hb4:=And.intro h1 (And.intro h2 (And.intro h3 h4))
   obtain ⟨m,hm⟩:∃ m:Nat,r'*c'=m:=⟨_,rfl⟩
   have hm2:m≤1920:=by rw [← hm];exact Nat.mul_le_mul h4 h2
   have v2:IntKind.i64.wrap ((c':Int)*(r':Int))=(m:Int):=by rw [← Int.natCast_mul,Nat.mul_comm,hm,IntKind.wrap_i64];omega
   have HB4:=Lib.hid (And.intro hb4 hm)
   have i1:(1:Int)≤(c':Int):=by omega
   have i2:(c':Int)≤80:=by omega
   have i3:(1:Int)≤(r':Int):=by omega
   have i4:(r':Int)≤24:=by omega
   clear hb4 hm hS
   by_cases hnm:n=m
   · subst hnm
     go_enter Tryz.func43,Tryz.ntmps43
     unfold gV
     go_upto_region 1 with fail
     rw [← hw0,← hbe]
     clear hw0 hbe
     go_upto_region 4 with fail
     obtain ⟨w1,hw1⟩:∃ w1,w1=w0.alloc (.cells #[] 22):=⟨_,rfl⟩
     obtain ⟨b1,hb1⟩:∃ b1,b1=w0.heap.size:=⟨_,rfl⟩
     have X0:=Lib.hid (show Bld w w1 (some ⟨b1,0,none⟩) 0 0 [] (rowsS c' 0 L)∧Gb w1 b ⟨c',r',A,n,k⟩∧Vs ceV w1 A n L from by
      rw [hw1,hb1]
      exact ⟨⟨H.out.2.2.1.alloc H.out.2.2.1.size _,World.ownsRow_lit w0 #[] 0 H.out.2.2.1.size (by unfold maxLen;omega) rfl,Ls.nil _ _,rfl⟩,H.out.2.1.below (below1 _ _),H.out.1.below (below1 _ _)⟩)
     rw [← hw1,← hb1]
     clear hw1 hb1 c0 c1 c2 v2
     go_wp2_with fail
     go_loopw [4,5] (fun o i wr=>∃ (q:Nat) (Ao:Option Addr) (co:Nat) (S:List Sl),q≤r'∧i=.int .i64 q∧o=.slice Ao q co∧Bld w wr Ao q co S (rowsS c' q L)∧(∀ y,y<q→rowMay (rowAt c' L y)=true)∧Gb wr b ⟨c',r',A,n,k⟩∧Vs ceV wr A n L) (fun _ i _=>r'-(intOf i).toNat)
     case atStart=>exact ⟨0,_,0,[],Nat.zero_le _,rfl,rfl,X0.out.1,fun j hj=>absurd hj (by omega),X0.out.2.1,X0.out.2.2⟩
     case round =>
      obtain ⟨q,Ao,co,S,hq,rfl,rfl,hbl,hall,hg3,hvs⟩:=hrel
      have X:=Lib.hid (And.intro hbl (And.intro hall (And.intro hg3 hvs)))
      clear hbl hall hg3 hvs
      obtain ⟨c0,c1,c2,_⟩:=X.out.2.2.1.g3
      by_cases hlt:q<r'
      · have hkl:(q:Int)<(r':Int):=by omega
        obtain ⟨a,ha⟩:∃ a:Nat,q*c'=a:=⟨_,rfl⟩
        have hfit:=row_fits (c:=c') hlt
        rw [HB4.out.2,ha] at hfit
        have HA:=Lib.hid (And.intro ha hfit)
        have v1:IntKind.i64.wrap ((q:Int)*(c':Int))=(a:Int):=by rw [← Int.natCast_mul,ha,IntKind.wrap_i64];omega
        have v3:IntKind.i64.wrap ((a:Int)+(c':Int))=((a+c':Nat):Int):=by rw [IntKind.wrap_i64];omega
        have k1:(a:Int)≤((a+c':Nat):Int):=by omega
        have k2:((a+c':Nat):Int)≤(k:Int):=by omega
        have k3:¬ (k=a):=by omega
        have k4:a+c'≤k:=by omega
        obtain ⟨ad,rfl⟩:=X.out.2.2.2.addr (by omega)
        have HV:=Lib.hid (show Vs ceV wr (some (ad.add (a*6))) c' (rowAt c' L q) from by
         have h5:=X.out.2.2.2.seg (a:=a) (c:=c') HA.out.2
         rw [← HA.out.1] at h5
         rw [← HA.out.1]
         exact h5)
        clear ha hfit
        go_wp2_with fail
        refine (copyC_any HV.out (by omega)).mono ?_
        rintro e w2 ⟨hb,g2,k2',rfl,hg2,hm1,hm3,hR⟩
        have e9:(rowAt c' L q).length=c':=HV.out.len
        rw [e9] at hm1 ⊢
        have Y:=Lib.hid (show Bld w w2 Ao q co S (rowsS c' q L)∧(∀ y,y<q→rowMay (rowAt c' L y)=true)∧Gb w2 b ⟨c',r',(some ad),n,k⟩∧Vs ceV w2 (some ad) n L∧OwnRow w2 w.heap.size ⟨some ⟨g2,0,none⟩,c',k2'⟩ (rowAt c' L q) from
         ⟨X.out.1.below hb,X.out.2.1,X.out.2.2.1.below hb,X.out.2.2.2.below hb,OwnRow.mk' (Nat.le_trans X.out.1.bel.size hg2) e9.symm hm1 hm3 hR⟩)
        clear hb hg2 hm1 hm3 hR e9 c0 c1 c2 v1 v3 k1 k2 k3 k4 X
        go_wp2_with fail
        refine (refRowMay_any Y.out.2.2.2.2.vs (by simp;omega)).mono ?_
        rintro e w3 ⟨rfl,hb⟩
        obtain ⟨M,hM⟩:∃ M,rowMay (rowAt c' L q)=M:=⟨_,rfl⟩
        rw [hM]
        have HM:=Lib.hid hM
        clear hM
        have Z:=Lib.hid (show Bld w w3 Ao q co S (rowsS c' q L)∧(∀ y,y<q→rowMay (rowAt c' L y)=true)∧Gb w3 b ⟨c',r',(some ad),n,k⟩∧Vs ceV w3 (some ad) n L∧OwnRow w3 w.heap.size ⟨some ⟨g2,0,none⟩,c',k2'⟩ (rowAt c' L q) from
         ⟨Y.out.1.below hb,Y.out.2.1,Y.out.2.2.1.below hb,Y.out.2.2.2.1.below hb,Y.out.2.2.2.2.below hb⟩)
        clear hb Y
        cases M
        · have HF:=Lib.hid (show ok=false from by rw [← HL.out.2.1];exact gridMay_row hlt HM.out)
          go_wp2_with fail
          exact bodyPost_ret (results_tmp2 Tryz.results43 _ _ _) rfl (RsPost.no HF.out ⟨rfl,Z.out.1.bel⟩)
        · have h1w:=below1 w3 (.cells #[.slice (some ⟨g2,0,none⟩) c' k2'] 22)
          have HW:=Lib.hid (show Bld w (w3.alloc (.cells #[.slice (some ⟨g2,0,none⟩) c' k2'] 22)) Ao q co S (rowsS c' q L)∧Gb (w3.alloc (.cells #[.slice (some ⟨g2,0,none⟩) c' k2'] 22)) b ⟨c',r',(some ad),n,k⟩∧Vs ceV (w3.alloc (.cells #[.slice (some ⟨g2,0,none⟩) c' k2'] 22)) (some ad) n L∧OwnRow (w3.alloc (.cells #[.slice (some ⟨g2,0,none⟩) c' k2'] 22)) w.heap.size ⟨some ⟨g2,0,none⟩,c',k2'⟩ (rowAt c' L q)∧Vs slV (w3.alloc (.cells #[.slice (some ⟨g2,0,none⟩) c' k2'] 22)) (some ⟨w3.heap.size,0,none⟩) 1 [⟨some ⟨g2,0,none⟩,c',k2'⟩] from
           ⟨Z.out.1.below h1w,Z.out.2.2.1.below h1w,Z.out.2.2.2.1.below h1w,Z.out.2.2.2.2.below h1w,vs_oneS w3 _ ⟨some ⟨g2,0,none⟩,c',k2'⟩⟩)
          clear h1w
          go_wp2_with (at_builtin;refine wpList_app_V _ rfl (.tmp 61) (.tmp 63) 76 rfl slV_len one_sl w.heap.size 22 _ 24 (by omega) Tryz.underlying76 infoSl3 rfl (by omega) (.slice Ao q co) q S rfl HW.out.1.own (some ⟨w3.heap.size,0,none⟩) 1 1 (q+1) rfl [⟨some ⟨g2,0,none⟩,c',k2'⟩] rfl HW.out.2.2.2.2 (by omega) HW.out.1.bel.size ?_;intro A5 c5 w5 hown hg)
          have Z2:=Lib.hid (show Bld w w5 A5 (q+1) c5 (S ++ [⟨some ⟨g2,0,none⟩,c',k2'⟩]) (rowsS c' (q+1) L)∧(∀ y,y<q+1→rowMay (rowAt c' L y)=true)∧Gb w5 b ⟨c',r',(some ad),n,k⟩∧Vs ceV w5 (some ad) n L from by
           have h9:=HW.out.1.app HW.out.2.2.2.1 hown hg rfl
           rw [← rowsS_snoc] at h9
           have hbw:∀ j,(Value.slice Ao q co).ownBlock=some j→w.heap.size≤j:=fun j hj=>(HW.out.1.own.lt j hj).1
           refine ⟨h9,fun y hy=>?_,HW.out.2.1.grown hg (fun e=>rw_apart (own_type HW.out.1.own e) HW.out.2.1.rw (by decide) rfl),HT.out.below h9.bel⟩
           by_cases e:y=q
           · rw [e];exact HM.out
           · exact Z.out.2.1 y (by omega))
          clear hown hg HW
          go_wp2_with fail
          go_roundw
          case rel=>exact ⟨q+1,A5,c5,_,by omega,by go_num,rfl,Z2.out⟩
          case measure=>simp [intOf];omega
      · obtain rfl:q=r':=by omega
        have HT2:=Lib.hid (show ok=true from by rw [← HL.out.2.1];exact gridMay_all (L:=L) HB4.out.1.1 HB4.out.1.2.1 HB4.out.1.2.2.1 HB4.out.1.2.2.2 (by rw [HL.out.1,HB4.out.2]) (fun y hy=>X.out.2.1 y (by omega)))
        obtain ⟨g,rfl,hg1,hg2,hg3,htb⟩:=X.out.1.tb (by have:=HB4.out.1.2.2.1;omega)
        have e8:rowsS c' q L=LL:=by rw [← HL.out.2.2];rfl
        rw [e8] at htb
        have HTB:=Lib.hid htb
        have e9:LL.length=q:=by rw [← e8,rowsS_len]
        clear htb e8
        go_wp2_with fail
        refine bodyPost_ret (results_tmp2 Tryz.results43 _ _ _) rfl ⟨fun _=>⟨X.out.1.bel,g,co,S,by rw [e9];rfl,hg1,by rw [e9];exact hg2,hg3,HTB.out⟩,fun e=>by rw [HT2.out] at e;cases e⟩
   · have hni:((n:Int) != (m:Int))=true:=by simp;omega
     have HF:=Lib.hid (show ok=false from by rw [← HL.out.2.1];exact gridMay_len (by rw [Int.toNat_natCast,Int.toNat_natCast,HB4.out.2,HL.out.1];exact hnm))
     go_enter Tryz.func43,Tryz.ntmps43
     unfold gV
     go_upto_region 1 with fail
     rw [← hw0,← hbe]
     clear hw0 hbe
     go_wp2_with fail
     exact bodyPost_ret (results_tmp2 Tryz.results43 _ _ _) rfl (RsPost.no HF.out ⟨rfl,H.out.2.2.1⟩)
open Go.RowKit
theorem grown_set1 (w:World) (p:Addr) (v:Value):w.grownBy (w.setCell p v) (some p.block) :=
 ⟨rfl,rfl,rfl,by simp [World.setCell],fun i _ hne=>heap_setCell_other w _ i v (fun e=>hne (by rw [e]))⟩
theorem gb_set0 {w:World} {b:Nat} {x:GR} (h:Gb w b x) (v:Int):Gb (w.setCell ⟨b,0,none⟩ (.int .i64 v)) b ⟨v,x.r,x.A,x.n,x.k⟩:=(heap_setCell_same w _ _ _ _ _ h).trans rfl
theorem gb_set2 {w:World} {b:Nat} {x:GR} (h:Gb w b x) (A:Option Addr) (n k:Nat):Gb (w.setCell ⟨b,2,none⟩ (.slice A n k)) b ⟨x.c,x.r,A,n,k⟩:=(heap_setCell_same w _ _ _ _ _ h).trans rfl
theorem oper_app_V {P:Program} {α:Type} {f:α→List Value} {d:Nat} (w:World) {o:Oper} {a:Act} {K:Act→World→Prop} {Q:Exit→Act→World→Prop} (s x:Operand) (t:TypeId)
  (ho:o.op=.call { callee:=.builtin .append,args:=#[s,x],argTypes:=#[t,t] }) (hf:∀ a,(f a).length=d) (h1:∀ M:List α,∀ v∈rowV f M,v.oneCell'=true)
  (base:Nat) (e:TypeId) (z:Value) (b8:Nat) (hb8:b8≤64) (ht:P.underlying t=some (.slice e)) (hi:(P.info? e).map (fun i=>(i.zero,i.size,i.bytes))=some (some z,d,b8)) (hzs:z.cells.size=d) (hd0:0<d)
  (v:Value) (n:Nat) (L:List α) (hs:a.eval s=v) (hown:w.ownsRow base e d v n (rowV f L))
  (ad:Addr) (m c k:Nat) (hk:n+m=k) (M:List α) (hx:a.eval x=.slice (some ad) m c) (hr:Vs f w (some ad) m M) (h63:k≤1000000) (hbase:base≤w.heap.size)
  (h:∀ A' c' w',w'.ownsRow base e d (.slice A' k c') k (rowV f (L ++ M))→w.grownBy w' v.ownBlock→K (a.put o.dst (.slice A' k c')) w'):Oper.wp P o a w K Q:=by
 subst hk
 obtain ⟨i0,hi,hz0,hz1,hz2⟩:=info_parts hi
 have hk:∀ v' w',w'.ownsRow base e d v' (n+m) (rowV f (L ++ M))→w.grownBy w' v.ownBlock→K (a.put o.dst v') w':=by
  intro v' w' h1 h2
  obtain ⟨A',c',rfl,_⟩:=own_shape h1
  exact h A' c' w' h1 h2
 have h8:(n+m)*b8≤1000000*64:=Nat.mul_le_mul h63 hb8
 rw [rowV_append] at hk
 exact wp_append_own w s x t ho base e i0 z d b8 ht hi hz0 hz1 hz2 hzs hd0 v n _ hs hown ad m c (rowV f M) hx (by rw [rowV_len hf,hr.len]) hr.news (h1 M)
   (by unfold maxLen;omega) (by omega) hbase fun v' w' h1 h2 _=>hk v' w' h1 h2
theorem OwnRow.base {w:World} {base base':Nat} {s:Sl} {L:List Ce} (h:OwnRow w base s L) (hb:base'≤base):OwnRow w base' s L:=by
 obtain ⟨g,h1,h2⟩:=h
 exact ⟨g,Nat.le_trans hb h1,h2⟩
theorem Tb.base {w:World} {base base' g:Nat} {S:List Sl} {LL:Rws} (h:Tb w base g S LL) (hb:base'≤base):Tb w base' g S LL:=⟨h.rw_,h.ls.len,fun i hi=>(h.ls.at_ i hi).base hb⟩
structure OfSt (w:World) (b c r q:Nat) (LL:Rws) (A:Option Addr) (n k:Nat) (cc:Nat) (wx:World):Prop where
 bel:Below w.heap.size w wx
 gb:Gb wx b gr0
 gg:Gb wx (b+1) ⟨cc,r,A,n,k⟩
 own:wx.ownsRow w.heap.size 43 6 (.slice A n k) n (rowV ceV (LL.take q).flatten)
 ln:n=q*c
 bw:w.heap.size≤b
set_option maxHeartbeats 3200000 in
theorem refOf_any {w:World} {base g k c r:Nat} {S:List Sl} {LL:Rws} (h:Tb w base g S LL) (hB:Box c r LL) (hc1:1≤c) (hc2:c≤80) (hr1:1≤r) (hr2:r≤24) :
  Calls Tryz.prog 53 #[.slice (some ⟨g,0,none⟩) r k] w (MadeG c r LL.flatten w):=by
 obtain ⟨w0,hw0⟩:∃ w0,w0=(w.alloc (.cells (gV 0 0 none 0 0) 58)).alloc (.cells (gV 0 (r:Int) none 0 0) 58):=⟨_,rfl⟩
 obtain ⟨b,hbe⟩:∃ b,b=w.heap.size:=⟨_,rfl⟩
 have H:=Lib.hid (show OfSt w b c r 0 LL none 0 0 0 w0∧b=w.heap.size from by
  have h2:=gb_new (w.alloc (.cells (gV 0 0 none 0 0) 58)) ⟨0,r,none,0,0⟩
  rw [alloc_size] at h2
  rw [hw0,hbe]
  exact ⟨⟨(below1 w _).alloc (below1 w _).size _,(gb_new w gr0).below (below1 _ _),h2,World.ownsRow_nil _ _ _ _,by simp,Nat.le_refl _⟩,rfl⟩)
 have HT:=Lib.hid (And.intro h hB)
 clear h hB
 unfold gV at hw0
 go_enter Tryz.func53,Tryz.ntmps53
 go_upto_region 2 with fail
 rw [← hw0,← hbe]
 clear hw0 hbe
 go_wp2_with fail
 go_loopw [10] (fun i wr=>∃ (q:Nat) (A:Option Addr) (n k cc:Nat),q≤r∧i=.int .i64 q∧OfSt w b c r q LL A n k cc wr∧(q=r→cc=c)) (fun i _=>r-(intOf i).toNat)
 case atStart=>exact ⟨0,none,0,0,0,Nat.zero_le _,rfl,H.out.1,fun e=>by omega⟩
 case round =>
  obtain ⟨q,A,n,k5,cc,hq,rfl,hst,hcc⟩:=hrel
  have X:=Lib.hid (And.intro hst hcc)
  clear hst hcc
  by_cases hlt:q<r
  · have hkl:(q:Int)<(r:Int):=by omega
    have HQ:=Lib.hid (show q<LL.length∧n+c≤1920∧n+c=(q+1)*c∧LL.take (q+1)=LL.take q ++ [lAt LL q] from by
     have e1:q<LL.length:=by rw [HT.out.2.len];exact hlt
     have e2:(q+1)*c≤24*80:=Nat.mul_le_mul (by omega) hc2
     refine ⟨e1,?_,by rw [Nat.succ_mul,X.out.1.ln],by rw [List.take_add_one,getElem?_lAt e1];rfl⟩
     rw [X.out.1.ln,← Nat.succ_mul]
     exact e2)
    obtain ⟨s,hs⟩:∃ s,s=sAtG S q:=⟨_,rfl⟩
    have HO:=Lib.hid (show ∀ w',Below w.heap.size w w'→w'.cell? ⟨g,q,none⟩=some (.slice s.A s.n s.k)∧OwnRow w' base s (lAt LL q) from fun w' hb=>by
     rw [hs]
     exact ⟨(HT.out.1.below hb).cell HQ.out.1,(HT.out.1.below hb).ls.at_ q HQ.out.1⟩)
    clear hs
    obtain ⟨g3,_,hsA,hsn,hsk,hsm,_⟩:=(HO.out w (Below.refl _ _)).2
    rw [HT.out.2.row q hlt] at hsn
    obtain ⟨sA,sn,sk⟩:=s
    dsimp only at hsA hsn hsk hsm HO
    subst hsA hsn
    have HV:=Lib.hid (show ∀ w',Below w.heap.size w w'→Vs ceV w' (some ⟨g3,0,none⟩) sn (lAt LL q) from fun w' hb=>(HO.out w' hb).2.vs)
    have hl0:=(HO.out _ X.out.1.bel).1
    obtain ⟨e0,e1,e2,_⟩:=X.out.1.gg.g3
    have f0:=X.out.1.gg.rw.free 0
    have HW1:=Lib.hid (show OfSt w b sn r q LL A n k5 sn (wr.setCell ⟨b+1,0,none⟩ (.int .i64 (sn:Int))) from by
     have hg:=grown_set1 wr ⟨b+1,0,none⟩ (.int .i64 (sn:Int))
     have h1:=X.out.1.bw
     exact ⟨X.out.1.bel.grown hg X.out.1.bel.size (by intro k hk;injection hk with hk;have:b+1=k:=hk;omega),X.out.1.gb.grown hg (by simp),gb_set0 X.out.1.gg _,X.out.1.own.kept hg (by
      cases hv:(Value.slice A n k5).ownBlock with
      | none=>exact .inl rfl
      | some j=>exact .inr fun e=>rw_apart (own_type X.out.1.own hv) X.out.1.gg.rw (by decide) (by injection e)),X.out.1.ln,h1⟩)
    go_upto_region 6 with fail
    clear e0 e1 e2 f0 hl0 X
    generalize wr.setCell ⟨b+1,0,none⟩ (.int .i64 (sn:Int))=w1 at HW1 ⊢
    have hb0:Below w.heap.size w w1.drew:=belowN HW1.out.bel 1
    have c2d:w1.drew.cell? ⟨b+1,2,none⟩=some (.slice A n k5):=HW1.out.gg.g3.c2
    have SX:=Lib.hid (show ∀ w',Below w.heap.size w w'→(Below w.heap.size w w'∧w'.cell? ⟨g,q,none⟩=some (.slice (some ⟨g3,0,none⟩) sn sk)) from fun w' hb=>⟨hb,(HO.out w' hb).1⟩)
    have SX2:=Lib.hid (show ∀ w' v,Below w.heap.size w w'→(Below w.heap.size w (w'.setCell ⟨b+1,2,none⟩ v)∧(w'.setCell ⟨b+1,2,none⟩ v).cell? ⟨g,q,none⟩=some (.slice (some ⟨g3,0,none⟩) sn sk)) from fun w' v hb=>SX.out _ (hb.setCell (p:=⟨b+1,2,none⟩) (by have:=HW1.out.bw;show w.heap.size≤b+1;omega) v))
    refine wp_region_noPanic ?_
    refine wp_region_held_drew (S:=fun w'=>Below w.heap.size w w'∧w'.cell? ⟨g,q,none⟩=some (.slice (some ⟨g3,0,none⟩) sn sk)) (by kernel_rfl) (SX.out _ hb0) (fun hHeld=>?_)
    refine tkH 0 (.pointer (some ⟨b+1,2,none⟩)) rfl (.inl ⟨by rfl,fun wz hSz=>?_⟩) hHeld ?_
    · go_simp
    simp only [Act.put]
    try simp only [List.setIfInBounds_toArray]
    try simp only [List.set_cons_succ]
    try simp only [List.set_cons_zero]
    refine tkH 2 (.slice (some ⟨g,0,none⟩) r k) rfl (.inl ⟨by rfl,fun wz hSz=>?_⟩) hHeld ?_
    · go_simp
    simp only [Act.put]
    try simp only [List.setIfInBounds_toArray]
    try simp only [List.set_cons_succ]
    try simp only [List.set_cons_zero]
    refine tkH 3 (.int .i64 q) rfl (.inl ⟨by rfl,fun wz hSz=>?_⟩) hHeld ?_
    · go_simp
    simp only [Act.put]
    try simp only [List.setIfInBounds_toArray]
    try simp only [List.set_cons_succ]
    try simp only [List.set_cons_zero]
    refine tkH 4 (.pointer (some ⟨g,q,none⟩)) rfl (.inl ⟨by rfl,fun wz hSz=>?_⟩) hHeld ?_
    · go_simp
    simp only [Act.put]
    try simp only [List.setIfInBounds_toArray]
    try simp only [List.set_cons_succ]
    try simp only [List.set_cons_zero]
    refine tkH 5 (.slice (some ⟨g3,0,none⟩) sn sk) rfl (.inl ⟨by rfl,fun wz hSz=>?_⟩) hHeld ?_
    · have hz:=hSz.2;go_simp
    simp only [Act.put]
    try simp only [List.setIfInBounds_toArray]
    try simp only [List.set_cons_succ]
    try simp only [List.set_cons_zero]
    refine wpAnyH_ready (rs:=[1]) (by kernel_rfl) (by simp) (AllReadyH.cons rfl (fun K hK=>?_) AllReadyH.nil)
    rw [if_pos (by rfl)]
    go_simp
    refine hK.out _ _ (hHeld) (fun hHeld=>?_)
    clear hK K
    try simp only [Act.put]
    try simp only [List.setIfInBounds_toArray]
    try simp only [List.set_cons_succ]
    try simp only [List.set_cons_zero]
    refine wpAnyH_ready (rs:=[6]) (by kernel_rfl) (by simp) (AllReadyH.cons rfl (fun K hK=>?_) AllReadyH.nil)
    rw [if_pos (by rfl)]
    refine oper_app_V _ (.tmp 20) (.tmp 24) 22 rfl ceV_len one_ce w.heap.size 43 _ 20 (by omega) Tryz.underlying22 infoCe3 rfl (by omega) (.slice A n k5) n (LL.take q).flatten rfl HW1.out.own.drew ⟨g3,0,none⟩ sn sk (n+sn) rfl (lAt LL q) rfl (HV.out _ hb0) (by have:=HQ.out.2.1;omega) hb0.size ?_
    intro A5 c5 w5 hown hg
    have hb5:=Below.grown hb0 hg hb0.size (fun j hj=>(HW1.out.own.lt j hj).1)
    have HG5:=Lib.hid (And.intro (Gb.grown (w:=w1.drew) HW1.out.gg hg (fun e=>rw_apart (own_type HW1.out.own e) HW1.out.gg.rw (by decide) rfl)) (Gb.grown (w:=w1.drew) HW1.out.gb hg (fun e=>rw_apart (own_type HW1.out.own e) HW1.out.gb.rw (by decide) rfl)))
    refine hK.out _ _ (SX.out _ hb5) (fun hHeld=>?_)
    clear hK K
    try simp only [Act.put]
    try simp only [List.setIfInBounds_toArray]
    try simp only [List.set_cons_succ]
    try simp only [List.set_cons_zero]
    refine tkH 7 (.pointer (some ⟨b+1,2,none⟩)) rfl (.inl ⟨by rfl,fun wz hSz=>?_⟩) hHeld ?_
    · go_simp
    simp only [Act.put]
    try simp only [List.setIfInBounds_toArray]
    try simp only [List.set_cons_succ]
    try simp only [List.set_cons_zero]
    obtain ⟨z0,z1,z2,_⟩:=HG5.out.1.g3
    have f2:=HG5.out.1.rw.free 2
    refine wpAnyH_ready (rs:=[8]) (by kernel_rfl) (by simp) (AllReadyH.cons rfl (fun K hK=>?_) AllReadyH.nil)
    rw [if_pos (by rfl)]
    go_simp
    refine hK.out _ _ (SX2.out _ _ hb5) (fun hHeld=>?_)
    clear hK K
    try simp only [Act.put]
    try simp only [List.setIfInBounds_toArray]
    try simp only [List.set_cons_succ]
    try simp only [List.set_cons_zero]
    refine wpAnyH_done (by kernel_rfl) ?_ _
    refine NoPanic.normal ?_
    have Z:=Lib.hid (show OfSt w b sn r (q+1) LL A5 (n+sn) c5 sn (w5.setCell ⟨b+1,2,none⟩ (.slice A5 (n+sn) c5)) from by
     have hg2:=grown_set1 w5 ⟨b+1,2,none⟩ (.slice A5 (n+sn) c5)
     have h1:=HW1.out.bw
     have ho:w5.ownsRow w.heap.size 43 6 (.slice A5 (n+sn) c5) (n+sn) (rowV ceV (LL.take (q+1)).flatten):=by
      rw [HQ.out.2.2.2,List.flatten_append,List.flatten_cons,List.flatten_nil,List.append_nil]
      exact hown
     exact ⟨(SX2.out w5 _ hb5).1,HG5.out.2.grown hg2 (by simp),gb_set2 HG5.out.1 _ _ _,ho.kept hg2 (by
      cases hv:(Value.slice A5 (n+sn) c5).ownBlock with
      | none=>exact .inl rfl
      | some j=>exact .inr fun e=>rw_apart (own_type ho hv) HG5.out.1.rw (by decide) (by injection e)),HQ.out.2.2.1,h1⟩)
    clear hown hg z0 z1 z2 f2 hHeld hb5 HG5 c2d hb0
    go_wp2_with fail
    go_roundw
    case rel=>exact ⟨q+1,A5,n+sn,c5,sn,by omega,by go_num,Z.out,fun _=>rfl⟩
    case measure=>simp [intOf];omega
  · obtain rfl:q=r:=by omega
    obtain rfl:cc=c:=X.out.2 rfl
    have hfl:(LL.take q).flatten=LL.flatten:=by rw [List.take_of_length_le (by rw [HT.out.2.len];exact Nat.le_refl _)]
    have HO:=X.out.1.own
    rw [hfl] at HO
    have hn0:0<n:=by rw [X.out.1.ln];exact Nat.mul_pos (by omega) (by omega)
    obtain ⟨g5,rfl,h1,h2,h3,hR⟩:=own_some hn0 HO
    have HR:=Lib.hid (And.intro hR (show LL.flatten.length=n from by rw [HT.out.2.flen,X.out.1.ln]))
    clear HO hR hn0 hfl
    obtain ⟨e0,e1,e2,_⟩:=X.out.1.gg.g3
    go_wp2_with (refine wpList_store_G rfl (.tmp 2) (.tmp 28) rfl b gr0 ⟨cc,q,some ⟨g5,0,none⟩,n,k5⟩ rfl rfl X.out.1.gb ?_;intro w5 hG5 hg5)
    refine bodyPost_ret (retG Tryz.results53 hG5 rfl) rfl ?_
    exact ⟨X.out.1.bel.grown hg5 X.out.1.bel.size (by intro k hk;injection hk with hk;have:=H.out.2;omega),g5,k5,by rw [HR.out.2],h1,by rw [HR.out.2];exact h2,h3,HR.out.1.grown hg5 (fun e=>rw_apart HR.out.1 X.out.1.gb.rw (by decide) (by injection e with e;exact e.symm))⟩
open Go.RowKit
set_option maxHeartbeats 3200000 in
theorem refNew_any {c r:Int} (w:World):Calls Tryz.prog 28 #[.int .i64 c,.int .i64 r] w (NewPost (newS c r) w):=by
 have G0:=Lib.hid (gb_new w gr0)
 obtain ⟨S,hS⟩:∃ S,sizeOk c r=S:=⟨_,rfl⟩
 cases S
 · rw [new_no hS]
   unfold sizeOk at hS
   have hS2:=of_decide_eq_false hS
   clear hS
   by_cases h1:c<1
   · clear hS2
     go_enter Tryz.func28,Tryz.ntmps28
     go_wp2_with (refine wpList_store_G rfl (.tmp 4) (.tmp 22) rfl w.heap.size gr0 gr0 rfl rfl G0.out ?_;intro w5 hG5 hg5)
     refine bodyPost_ret (retG2 Tryz.results28 hG5 rfl rfl) rfl ?_
     exact NewPost.no ⟨rfl,((Below.refl _ _).alloc (Nat.le_refl _) _).grown hg5 (by simp) (by intro k hk;injection hk with hk;omega)⟩
   · have h1':1≤c:=by omega
     by_cases h2:80<c
     · clear hS2
       go_enter Tryz.func28,Tryz.ntmps28
       go_wp2_with (refine wpList_store_G rfl (.tmp 4) (.tmp 22) rfl w.heap.size gr0 gr0 rfl rfl G0.out ?_;intro w5 hG5 hg5)
       refine bodyPost_ret (retG2 Tryz.results28 hG5 rfl rfl) rfl ?_
       exact NewPost.no ⟨rfl,((Below.refl _ _).alloc (Nat.le_refl _) _).grown hg5 (by simp) (by intro k hk;injection hk with hk;omega)⟩
     · have h2':c≤80:=by omega
       by_cases h3:r<1
       · clear hS2
         go_enter Tryz.func28,Tryz.ntmps28
         go_wp2_with (refine wpList_store_G rfl (.tmp 4) (.tmp 22) rfl w.heap.size gr0 gr0 rfl rfl G0.out ?_;intro w5 hG5 hg5)
         refine bodyPost_ret (retG2 Tryz.results28 hG5 rfl rfl) rfl ?_
         exact NewPost.no ⟨rfl,((Below.refl _ _).alloc (Nat.le_refl _) _).grown hg5 (by simp) (by intro k hk;injection hk with hk;omega)⟩
       · have h3':1≤r:=by omega
         have h4:24<r:=by omega
         clear hS2
         go_enter Tryz.func28,Tryz.ntmps28
         go_wp2_with (refine wpList_store_G rfl (.tmp 4) (.tmp 22) rfl w.heap.size gr0 gr0 rfl rfl G0.out ?_;intro w5 hG5 hg5)
         refine bodyPost_ret (retG2 Tryz.results28 hG5 rfl rfl) rfl ?_
         exact NewPost.no ⟨rfl,((Below.refl _ _).alloc (Nat.le_refl _) _).grown hg5 (by simp) (by intro k hk;injection hk with hk;omega)⟩
 · obtain ⟨c',r',rfl,rfl,h1,h2,h3,h4⟩:=size_nat hS
   rw [new_yes hS]
   clear hS
   have i1:(1:Int)≤(c':Int):=by omega
   have i2:(c':Int)≤80:=by omega
   have i3:(1:Int)≤(r':Int):=by omega
   have i4:(r':Int)≤24:=by omega
   obtain ⟨w1,hw1⟩:∃ w1,w1=(w.alloc (.cells (gV 0 0 none 0 0) 58)).alloc (.cells #[] 22):=⟨_,rfl⟩
   obtain ⟨b,hb⟩:∃ b,b=w.heap.size:=⟨_,rfl⟩
   have X0:=Lib.hid (show Bld w w1 (some ⟨b+1,0,none⟩) 0 0 [] []∧Gb w1 b gr0∧b=w.heap.size from by
    have h5:=World.ownsRow_lit (e:=22) (base:=w.heap.size) (size:=1) (w.alloc (.cells (gV 0 0 none 0 0) 58)) #[] 0 (below1 w _).size (by unfold maxLen;omega) rfl
    rw [alloc_size] at h5
    rw [hw1,hb]
    exact ⟨⟨(below1 w _).alloc (below1 w _).size _,h5,Ls.nil _ _,rfl⟩,G0.out.below (below1 _ _),rfl⟩)
   unfold gV at hw1
   go_enter Tryz.func28,Tryz.ntmps28
   go_upto_region 4 with fail
   rw [← hw1,← hb]
   clear hw1 hb
   go_wp2_with fail
   go_loopw [6,7] (fun o i wr=>∃ (q:Nat) (Ao:Option Addr) (co:Nat) (S:List Sl),q≤r'∧i=.int .i64 q∧o=.slice Ao q co∧Bld w wr Ao q co S (List.replicate q (blanksS c' pn0))∧Gb wr b gr0) (fun _ i _=>r'-(intOf i).toNat)
   case atStart=>exact ⟨0,_,0,[],Nat.zero_le _,rfl,rfl,X0.out.1,X0.out.2.1⟩
   case round =>
    obtain ⟨q,Ao,co,S,hq,rfl,rfl,hbl,hgb⟩:=hrel
    have X:=Lib.hid (And.intro hbl hgb)
    clear hbl hgb
    by_cases hlt:q<r'
    · have hkl:(q:Int)<(r':Int):=by omega
      go_wp2_with fail
      refine (refBlanks_any pn0 (by omega)).mono ?_
      rintro e w3 ⟨hb,g2,k2',rfl,hg2,hm1,hm3,hR⟩
      have e9:(blanksS c' pn0).length=c':=blanks_len _ _
      rw [e9] at hm1 ⊢
      have Z:=Lib.hid (show Bld w w3 Ao q co S (List.replicate q (blanksS c' pn0))∧Gb w3 b gr0∧OwnRow w3 w.heap.size ⟨some ⟨g2,0,none⟩,c',k2'⟩ (blanksS c' pn0) from
       ⟨X.out.1.below hb,X.out.2.below hb,OwnRow.mk' (Nat.le_trans X.out.1.bel.size hg2) e9.symm hm1 hm3 hR⟩)
      clear hb hg2 hm1 hm3 hR e9 X
      have h1w:=below1 w3 (.cells #[.slice (some ⟨g2,0,none⟩) c' k2'] 22)
      have HW:=Lib.hid (show Bld w (w3.alloc (.cells #[.slice (some ⟨g2,0,none⟩) c' k2'] 22)) Ao q co S (List.replicate q (blanksS c' pn0))∧Gb (w3.alloc (.cells #[.slice (some ⟨g2,0,none⟩) c' k2'] 22)) b gr0∧OwnRow (w3.alloc (.cells #[.slice (some ⟨g2,0,none⟩) c' k2'] 22)) w.heap.size ⟨some ⟨g2,0,none⟩,c',k2'⟩ (blanksS c' pn0)∧Vs slV (w3.alloc (.cells #[.slice (some ⟨g2,0,none⟩) c' k2'] 22)) (some ⟨w3.heap.size,0,none⟩) 1 [⟨some ⟨g2,0,none⟩,c',k2'⟩] from
       ⟨Z.out.1.below h1w,Z.out.2.1.below h1w,Z.out.2.2.below h1w,vs_oneS w3 _ ⟨some ⟨g2,0,none⟩,c',k2'⟩⟩)
      clear h1w
      go_wp2_with (at_builtin;refine wpList_app_V _ rfl (.tmp 29) (.tmp 33) 76 rfl slV_len one_sl w.heap.size 22 _ 24 (by omega) Tryz.underlying76 infoSl3 rfl (by omega) (.slice Ao q co) q S rfl HW.out.1.own (some ⟨w3.heap.size,0,none⟩) 1 1 (q+1) rfl [⟨some ⟨g2,0,none⟩,c',k2'⟩] rfl HW.out.2.2.2 (by omega) HW.out.1.bel.size ?_;intro A5 c5 w5 hown hg)
      have Z2:=Lib.hid (show Bld w w5 A5 (q+1) c5 (S ++ [⟨some ⟨g2,0,none⟩,c',k2'⟩]) (List.replicate (q+1) (blanksS c' pn0))∧Gb w5 b gr0 from by
       have h9:=HW.out.1.app HW.out.2.2.1 hown hg rfl
       rw [← List.replicate_succ'] at h9
       exact ⟨h9,HW.out.2.1.grown hg (fun e=>rw_apart (own_type HW.out.1.own e) HW.out.2.1.rw (by decide) rfl)⟩)
      clear hown hg HW
      go_wp2_with fail
      go_roundw
      case rel=>exact ⟨q+1,A5,c5,_,by omega,by go_num,rfl,Z2.out⟩
      case measure=>simp [intOf];omega
    · obtain rfl:q=r':=by omega
      obtain ⟨g,rfl,hg1,hg2,hg3,htb⟩:=X.out.1.tb (by omega)
      have HTB:=Lib.hid (And.intro htb hg1)
      clear htb hg1
      go_wp2_with fail
      refine (refOf_any (k:=co) HTB.out.1 (blanks_box c' q pn0) h1 h2 h3 h4).mono ?_
      rintro e w2 ⟨hb,g2,k2,rfl,hgg,hk1,hk2,hR⟩
      have Y:=Lib.hid (And.intro (X.out.1.bel.trans (hb.mono X.out.1.bel.size)) (And.intro (X.out.2.below hb) (And.intro hR (Nat.le_trans X.out.1.bel.size hgg))))
      have hlt:b<g2:=Nat.lt_of_lt_of_le X.out.2.lt hgg
      clear hb hR hgg
      obtain ⟨N,hN⟩:∃ N,N=(List.replicate q (blanksS c' pn0)).flatten.length:=⟨_,rfl⟩
      rw [← hN] at hk1 ⊢
      have HN:=Lib.hid hN
      clear hN
      go_wp2_with (refine wpList_store_G rfl (.tmp 4) (.tmp 36) rfl b gr0 ⟨c',q,some ⟨g2,0,none⟩,N,k2⟩ rfl rfl Y.out.2.1 ?_;intro w5 hG5 hg5)
      refine bodyPost_ret (retG2 Tryz.results28 hG5 rfl rfl) rfl ?_
      refine NewPost.yes ⟨Y.out.1.grown hg5 Y.out.1.size (by intro k hk;injection hk with hk;have:=X0.out.2.2;omega),g2,k2,by rw [HN.out],Y.out.2.2.2,by rw [← HN.out];exact hk1,hk2,Y.out.2.2.1.grown hg5 (by simp;omega)⟩
end Go.Proofs.YtikhknnhmnopbaaGreatDoor
