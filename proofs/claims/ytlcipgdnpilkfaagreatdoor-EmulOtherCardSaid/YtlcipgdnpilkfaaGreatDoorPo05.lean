/-
  Part 5 of what the laws of emul want: CellPure, CellCut.
-/
import Derived.Test.YtlcipgdnpilkfaaGreatDoorPo03
import Derived.Test.YtlcipgdnpilkfaaGreatDoorPo04
namespace Go.Proofs.YtlcipgdnpilkfaaGreatDoor
theorem iteC {α:Type} {p q:Prop} [Decidable p] [Decidable q] (h:p↔q) {x y:α}:(if p then x else y)=if q then x else y:=by
 by_cases e:p
 · rw [if_pos e,if_pos (h.1 e)]
 · rw [if_neg e,if_neg (fun e2=>e (h.2 e2))]
section
variable {L:List Ce}
theorem RowOk.pair (h:RowOk L) {j:Nat} (hj:j+1<L.length):(cAt L j).wd=1↔(cAt L (j+1)).wd=2:=by
 constructor
 · intro e
   have:=((h.at_ j (by omega)).2.1 e).2
   rw [this];rfl
 · intro e
   have:=((h.at_ (j+1) hj).2.2 e).2
   simpa using this
theorem RowOk.next (h:RowOk L) {j:Nat} (hj:j<L.length) (e:(cAt L j).wd=1):j+1<L.length∧cAt L (j+1)=rightS (cAt L j):=(h.at_ j hj).2.1 e
theorem RowOk.prev (h:RowOk L) {j:Nat} (hj:j<L.length) (e:(cAt L j).wd=2):0<j:=((h.at_ j hj).2.2 e).1
theorem cut1 (h:RowOk L) (a:Nat) {j:Nat} (hj:j<L.length) :
  cAt (cutS L a) j=if ((cAt L j).wd=1∧j+1=a)∨((cAt L j).wd=2∧j=a) then blankS (cAt L j).p else cAt L j:=by
 rw [cAt_cutS]
 refine iteC ?_
 constructor
 · rintro ⟨h1,h2,h3⟩
   have h0:=h.prev h1 h2
   rcases h3 with h3 | h3
   · subst h3
     exact .inr ⟨h2,rfl⟩
   · have e:j+1=a:=by omega
     refine .inl ⟨?_,e⟩
     subst e
     exact (h.pair h1).2 h2
 · rintro (⟨h1,h2⟩ | ⟨h1,h2⟩)
   · subst h2
     have:=(h.next hj h1).1
     exact ⟨this,(h.pair this).1 h1,.inr (by omega)⟩
   · subst h2
     exact ⟨hj,h1,.inl rfl⟩
theorem blank_wd (p:Pn):(blankS p).wd=0:=rfl
theorem cut2 (h:RowOk L) {a b:Nat} (_:a≤b) {j:Nat} (hj:j<L.length) :
  cAt (cutS (cutS L a) b) j=if ((cAt L j).wd=1∧(j+1=a∨j+1=b))∨((cAt L j).wd=2∧(j=a∨j=b)) then blankS (cAt L j).p else cAt L j:=by
 rw [cAt_cutS,cutS_length]
 have hb2:∀ hb:b<L.length,((cAt (cutS L a) b).wd=2↔((cAt L b).wd=2∧b≠a)):=by
  intro hb
  rw [cut1 h a hb]
  split
  · rename_i hc
    rw [blank_wd]
    constructor
    · intro e;cases e
    · rintro ⟨e1,e2⟩
      rcases hc with hc | hc
      · have:=hc.1;omega
      · exact absurd hc.2 e2
  · rename_i hc
    constructor
    · intro e
      exact ⟨e,fun e2=>hc (.inr ⟨e,e2⟩)⟩
    · exact fun e=>e.1
 by_cases hc:b<L.length∧(cAt (cutS L a) b).wd=2∧(j=b∨j=b-1)
 · rw [if_pos hc]
   obtain ⟨h1,h2,h3⟩:=hc
   obtain ⟨h4,h5⟩:=(hb2 h1).1 h2
   have h0:=h.prev h1 h4
   rcases h3 with h3 | h3
   · subst h3
     rw [if_pos (.inr ⟨h4,.inr rfl⟩),cut1 h a hj]
     split<;>rfl
   · have e:j+1=b:=by omega
     have h6:(cAt L j).wd=1:=by subst e;exact (h.pair h1).2 h4
     rw [if_pos (.inl ⟨h6,.inr e⟩),cut1 h a hj]
     split<;>rfl
 · rw [if_neg hc,cut1 h a hj]
   refine iteC ?_
   constructor
   · rintro (⟨h1,h2⟩ | ⟨h1,h2⟩)
     · exact .inl ⟨h1,.inl h2⟩
     · exact .inr ⟨h1,.inl h2⟩
   · rintro (⟨h1,h2 | h2⟩ | ⟨h1,h2 | h2⟩)
     · exact .inl ⟨h1,h2⟩
     · by_cases e:b=a
       · exact .inl ⟨h1,by omega⟩
       · exfalso
         have h3:=(h.next hj h1).1
         subst h2
         exact hc ⟨h3,(hb2 h3).2 ⟨(h.pair h3).1 h1,e⟩,.inr (by omega)⟩
     · exact .inr ⟨h1,h2⟩
     · by_cases e:b=a
       · exact .inr ⟨h1,by omega⟩
       · exfalso
         subst h2
         exact hc ⟨hj,(hb2 hj).2 ⟨h1,e⟩,.inl rfl⟩
variable {P:List Pc}
theorem mend_old (h:RowOk L) {i j:Nat} (hj:j<L.length) (hi:pAt P i=(cAt L j,(j:Int))) (cr cl:Prop) [Decidable cr] [Decidable cl]
  (hr0:¬ cr→j+1<L.length→i+1≠P.length∧pAt P (i+1)=(cAt L (j+1),(j:Int)+1)) (hr1:cr→i+1=P.length∨(pAt P (i+1)).2≠(j:Int)+1)
  (hl0:¬ cl→0<j→i≠0∧pAt P (i-1)=(cAt L (j-1),(j:Int)-1)) (hl1:cl→i=0∨(pAt P (i-1)).2≠(j:Int)-1) :
  mendC P i=if ((cAt L j).wd=1∧cr)∨((cAt L j).wd=2∧cl) then blankS (cAt L j).p else cAt L j:=by
 unfold mendC torn
 rw [hi]
 simp only [decide_eq_true_eq]
 refine iteC ?_
 constructor
 · rintro (⟨h1,h2⟩ | ⟨h1,h2⟩)
   · refine .inl ⟨h1,?_⟩
     by_cases hc:cr
     · exact hc
     · exfalso
       have h3:=(h.next hj h1).1
       obtain ⟨h4,h5⟩:=hr0 hc h3
       rw [h5] at h2
       rcases h2 with h2 | h2 | h2
       · exact h4 h2
       · exact h2 ((h.pair h3).1 h1)
       · exact h2 rfl
   · refine .inr ⟨h1,?_⟩
     by_cases hc:cl
     · exact hc
     · exfalso
       have h3:=h.prev hj h1
       obtain ⟨h4,h5⟩:=hl0 hc h3
       rw [h5] at h2
       rcases h2 with h2 | h2 | h2
       · exact h4 h2
       · exact h2 ((h.pair (j:=j-1) (by omega)).2 (by rw [Nat.sub_add_cancel h3];exact h1))
       · exact h2 rfl
 · rintro (⟨h1,h2⟩ | ⟨h1,h2⟩)
   · rcases hr1 h2 with h3 | h3
     · exact .inl ⟨h1,.inl h3⟩
     · exact .inl ⟨h1,.inr (.inr h3)⟩
   · rcases hl1 h2 with h3 | h3
     · exact .inr ⟨h1,.inl h3⟩
     · exact .inr ⟨h1,.inr (.inr h3)⟩
theorem mend_new {i:Nat} (h0:(pAt P i).1.wd=0):mendC P i=(pAt P i).1:=by
 unfold mendC torn
 rw [h0]
 simp
theorem mend_same (h:RowOk L):mendS (piecesS L)=L:=by
 refine row_ext (by rw [mendS_length,piecesS_length]) fun i hi=>?_
 rw [mendS_length,piecesS_length] at hi
 rw [cAt_mendS (by rw [piecesS_length];exact hi),mend_old h hi (pAt_piecesS hi) False False (fun _ h1=>⟨by rw [piecesS_length];omega,by rw [pAt_piecesS h1];simp⟩) (fun e=>e.elim) (fun _ h1=>⟨by omega,by rw [pAt_piecesS (by omega)];simp;omega⟩) (fun e=>e.elim)]
 simp
theorem lett_one {r:Int} {p:Pn} (h:widthS r=1):lettS r p=[⟨r,0,p⟩]:=by unfold lettS;rw [if_pos h]
theorem lett_two {r:Int} {p:Pn} (h:widthS r=2):lettS r p=[⟨r,1,p⟩,⟨0,2,p⟩]:=by unfold lettS;rw [if_neg (by omega),if_pos h]
theorem lett_none {r:Int} {p:Pn} (h1:widthS r≠1) (h2:widthS r≠2):lettS r p=[]:=by unfold lettS;rw [if_neg h1,if_neg h2]
theorem put_eq (h:RowOk L) (x r:Int) (p:Pn):putS L x r p=mendS (putR L x r p):=by
 by_cases hw1:widthS r=1
 · unfold putS putR
   simp only [lett_one hw1,List.length_singleton]
   by_cases hx:0≤x∧x<(L.length:Int)
   · obtain ⟨a,rfl⟩:∃ a:Nat,x=(a:Int):=⟨x.toNat,by omega⟩
     rw [if_pos (by omega),if_pos (by omega)]
     simp only [Int.toNat_natCast]
     have hal:a<L.length:=by omega
     refine row_ext (by rw [overS_length (by simp [cutS_length];omega),mendS_length,List.length_set,piecesS_length,cutS_length,cutS_length]) fun i hi=>?_
     rw [overS_length (by simp [cutS_length];omega),cutS_length,cutS_length] at hi
     have hP:∀ k,k<L.length→pAt ((piecesS L).set a (⟨r,0,p⟩,-10)) k=if k=a then (⟨r,0,p⟩,-10) else (cAt L k,(k:Int)):=fun k hk=>by
      rw [pAt_set,piecesS_length]
      by_cases e:k=a
      · rw [if_pos ⟨e,hk⟩,if_pos e]
      · rw [if_neg (fun e2=>e e2.1),if_neg e,pAt_piecesS hk]
     have hlen:((piecesS L).set a ((⟨r,0,p⟩:Ce),(-10:Int))).length=L.length:=by rw [List.length_set,piecesS_length]
     rw [cAt_overS (by simp [cutS_length];omega),cAt_mendS (by rw [hlen];exact hi)]
     by_cases e:i=a
     · subst e
       rw [if_pos (by simp),Nat.sub_self,mend_new (by rw [hP i hi,if_pos rfl]),hP i hi,if_pos rfl]
       rfl
     · rw [if_neg (by simp;omega),cut2 h (by omega) hi,mend_old h hi (by rw [hP i hi,if_neg e]) (i+1=a) (i=a+1)
        (fun h1 h2=>⟨by rw [hlen];omega,by rw [hP _ h2,if_neg h1];simp⟩) (fun h1=>.inr (by rw [hP _ (by omega),if_pos h1];simp;omega))
        (fun h1 h2=>⟨by omega,by rw [hP _ (by omega),if_neg (by omega)];simp;omega⟩) (fun h1=>.inr (by rw [hP _ (by omega),if_pos (by omega)];simp;omega))]
       refine iteC ?_
       omega
   · rw [if_neg (by omega),if_neg (by omega),if_neg (by omega),mend_same h]
 · by_cases hw2:widthS r=2
   · unfold putS putR
     simp only [lett_two hw2,List.length_cons,List.length_nil]
     by_cases hx:0≤x∧x<(L.length:Int)-1
     · obtain ⟨a,rfl⟩:∃ a:Nat,x=(a:Int):=⟨x.toNat,by omega⟩
       rw [if_pos (by omega),if_neg (by omega),if_pos (by omega)]
       simp only [Int.toNat_natCast]
       have hal:a+1<L.length:=by omega
       have hk2:(0+1+1:Nat)=2:=rfl
       refine row_ext (by rw [overS_length (by simp [cutS_length];omega),mendS_length,List.length_set,List.length_set,piecesS_length,cutS_length,cutS_length]) fun i hi=>?_
       rw [overS_length (by simp [cutS_length];omega),cutS_length,cutS_length] at hi
       have hP:∀ k,k<L.length→pAt (((piecesS L).set a (⟨r,1,p⟩,-10)).set (a+1) (⟨0,2,p⟩,-9)) k=if k=a+1 then (⟨0,2,p⟩,-9) else if k=a then (⟨r,1,p⟩,-10) else (cAt L k,(k:Int)):=fun k hk=>by
        rw [pAt_set,pAt_set,List.length_set,piecesS_length]
        by_cases e:k=a+1
        · rw [if_pos ⟨e,hk⟩,if_pos e]
        · rw [if_neg (fun e2=>e e2.1),if_neg e]
          by_cases e2:k=a
          · rw [if_pos ⟨e2,hk⟩,if_pos e2]
          · rw [if_neg (fun e3=>e2 e3.1),if_neg e2,pAt_piecesS hk]
       have hlen:(((piecesS L).set a ((⟨r,1,p⟩:Ce),(-10:Int))).set (a+1) (⟨0,2,p⟩,-9)).length=L.length:=by rw [List.length_set,List.length_set,piecesS_length]
       rw [cAt_overS (by simp [cutS_length];omega),cAt_mendS (by rw [hlen];exact hi)]
       by_cases e:i=a
       · subst e
         rw [if_pos (by simp),Nat.sub_self]
         have hp1:=hP i hi
         have hp2:=hP (i+1) hal
         rw [if_neg (by omega),if_pos rfl] at hp1
         rw [if_pos rfl] at hp2
         have ht:torn (((piecesS L).set i (⟨r,1,p⟩,-10)).set (i+1) (⟨0,2,p⟩,-9)) i=false:=by
          unfold torn
          rw [hlen,hp1,hp2]
          simp
          omega
         unfold mendC
         rw [ht,hp1]
         rfl
       · by_cases e2:i=a+1
         · subst e2
           rw [if_pos (by simp),Nat.add_sub_cancel_left]
           have hp1:=hP (a+1) hi
           have hp2:=hP a (by omega)
           rw [if_pos rfl] at hp1
           rw [if_neg (by omega),if_pos rfl] at hp2
           have ht:torn (((piecesS L).set a (⟨r,1,p⟩,-10)).set (a+1) (⟨0,2,p⟩,-9)) (a+1)=false:=by
            unfold torn
            rw [hlen,hp1,Nat.add_sub_cancel,hp2]
            simp
           unfold mendC
           rw [ht,hp1]
           rfl
         · rw [if_neg (by simp;omega),cut2 h (by omega) hi,mend_old h hi (by rw [hP i hi,if_neg e2,if_neg e]) (i+1=a) (i=a+2)
            (fun h1 h2=>⟨by rw [hlen];omega,by rw [hP _ h2,if_neg (by omega),if_neg h1];simp⟩) (fun h1=>.inr (by rw [hP _ (by omega),if_neg (by omega),if_pos h1];simp;omega))
            (fun h1 h2=>⟨by omega,by rw [hP _ (by omega),if_neg (by omega),if_neg (by omega)];simp;omega⟩) (fun h1=>.inr (by rw [hP _ (by omega),if_pos (by omega)];simp;omega))]
           refine iteC ?_
           omega
     · rw [if_neg (by omega),if_neg (by omega),if_neg (by omega),mend_same h]
   · unfold putS putR
     simp only [lett_none hw1 hw2,List.length_nil]
     rw [if_neg (by omega),if_neg (fun e=>hw1 e.2.2),if_neg (fun e=>hw2 e.2.2),mend_same h]
theorem erase_eq (h:RowOk L) (a b:Int) (p:Pn):eraseS L a b p=mendS (eraseR L a b p):=by
 unfold eraseS
 simp only []
 obtain ⟨f,hf⟩:∃ f,f=(max a 0).toNat:=⟨_,rfl⟩
 obtain ⟨t,ht⟩:∃ t,t=(min b (L.length:Int)).toNat:=⟨_,rfl⟩
 rw [← hf,← ht]
 have htl:t≤L.length:=by omega
 have hlen:=eraseR_length L a b p
 by_cases hft:f<t
 · have hP:∀ k,k<L.length→pAt (eraseR L a b p) k=if f≤k∧k<t then (blankS p,-10) else (cAt L k,(k:Int)):=fun k hk=>by
    rw [pAt_eraseR hk]
    exact iteC (by omega)
   rw [if_pos hft]
   have hfit:f+(List.replicate (t-f) (blankS p)).length≤(cutS (cutS L f) t).length:=by rw [List.length_replicate,cutS_length,cutS_length];omega
   refine row_ext (by rw [overS_length hfit,mendS_length,hlen,cutS_length,cutS_length]) fun i hi=>?_
   rw [overS_length hfit,cutS_length,cutS_length] at hi
   rw [cAt_overS hfit,cAt_mendS (by rw [hlen];exact hi),List.length_replicate]
   by_cases e:f≤i∧i<t
   · rw [if_pos (by omega),cAt_replicate,if_pos (by omega),mend_new (by rw [hP i hi,if_pos e];rfl),hP i hi,if_pos e]
   · rw [if_neg (by omega),cut2 h (by omega) hi,mend_old h hi (by rw [hP i hi,if_neg e]) (i+1=f) (i=t)
      (fun h1 h2=>⟨by rw [hlen];omega,by rw [hP _ h2,if_neg (by omega)];simp⟩) (fun h1=>.inr (by rw [hP _ (by omega),if_pos (by omega)];simp;omega))
      (fun h1 h2=>⟨by omega,by rw [hP _ (by omega),if_neg (by omega)];simp;omega⟩) (fun h1=>.inr (by rw [hP _ (by omega),if_pos (by omega)];simp;omega))]
     refine iteC ?_
     omega
 · rw [if_neg hft]
   have e:eraseR L a b p=piecesS L:=by
    unfold eraseR piecesS
    refine List.map_congr_left fun i hi=>?_
    have:=List.mem_range.1 hi
    rw [if_neg (by omega)]
   rw [e,mend_same h]
theorem insert_eq (h:RowOk L) {x n:Int} (p:Pn) (h0:0≤x) (h1:x<L.length) (h2:1≤n):insertS L x n p=mendS (insertR L x.toNat (min n (L.length-x)).toNat p):=by
 unfold insertS
 simp only []
 rw [if_pos ⟨h0,h1,h2⟩]
 obtain ⟨a,rfl⟩:∃ a:Nat,x=(a:Int):=⟨x.toNat,by omega⟩
 obtain ⟨k,hk⟩:∃ k,k=(min n ((L.length:Int)-(a:Int))).toNat:=⟨_,rfl⟩
 rw [← hk,Int.toNat_natCast]
 have hk1:1≤k:=by omega
 have hk2:a+k≤L.length:=by omega
 obtain ⟨M,hM⟩:∃ M,M=cutS (cutS L a) (L.length-k):=⟨_,rfl⟩
 rw [← hM]
 have hMl:M.length=L.length:=by rw [hM,cutS_length,cutS_length]
 obtain ⟨T,hT⟩:∃ T,T=(M.drop a).take (L.length-(a+k)):=⟨_,rfl⟩
 rw [← hT]
 have hTl:T.length=L.length-(a+k):=by rw [hT,List.length_take,List.length_drop,hMl];omega
 have hf1:a+k+T.length≤M.length:=by omega
 have hf2:a+(List.replicate k (blankS p)).length≤(overS M (a+k) T).length:=by rw [overS_length hf1,List.length_replicate];omega
 have hlen:(insertR L a k p).length=L.length:=by simp [insertR,piecesS_length];omega
 have hP:∀ i,i<L.length→pAt (insertR L a k p) i=if i<a then (cAt L i,(i:Int)) else if i<a+k then (blankS p,-10) else (cAt L (i-k),((i-k:Nat):Int)):=fun i hi=>by
  unfold insertR
  rw [pAt_append,pAt_append,List.length_take,piecesS_length,Nat.min_eq_left (by omega),List.length_replicate,pAt_take,pAt_take,pAt_drop,pAt_replicate]
  by_cases e1:i<a
  · simp only [e1,if_true]
    rw [pAt_piecesS hi]
  · rw [if_neg e1,if_neg e1]
    by_cases e2:i<a+k
    · rw [if_pos (by omega),if_pos (by omega),if_pos e2]
    · rw [if_neg (by omega),if_pos (by omega),if_neg e2,show a+(i-a-k)=i-k by omega,pAt_piecesS (by omega)]
 refine row_ext (by rw [overS_length hf2,overS_length hf1,mendS_length,hlen,hMl]) fun i hi=>?_
 rw [overS_length hf2,overS_length hf1,hMl] at hi
 rw [cAt_overS hf2,cAt_mendS (by rw [hlen];exact hi),List.length_replicate]
 by_cases e1:i<a
 · rw [if_neg (by omega),cAt_overS hf1,if_neg (by omega),hM,cut2 h (by omega) hi,mend_old h hi (by rw [hP i hi,if_pos e1]) (i+1=a) False
    (fun h1 h2=>⟨by rw [hlen];omega,by rw [hP _ h2,if_pos (by omega)];simp⟩) (fun h1=>.inr (by rw [hP _ (by omega),if_neg (by omega),if_pos (by omega)];simp;omega))
    (fun h1 h2=>⟨by omega,by rw [hP _ (by omega),if_pos (by omega)];simp;omega⟩) (fun e=>e.elim)]
   refine iteC ?_
   simp only [and_false,or_false]
   omega
 · by_cases e2:i<a+k
   · rw [if_pos (by omega),cAt_replicate,if_pos (by omega),mend_new (by rw [hP i hi,if_neg e1,if_pos e2];rfl),hP i hi,if_neg e1,if_pos e2]
   · have hj:i-k<L.length:=by omega
     rw [if_neg (by omega),cAt_overS hf1,if_pos (by omega),hT,cAt_take,if_pos (by omega),cAt_drop,show a+(i-(a+k))=i-k by omega,hM,cut2 h (by omega) hj,
      mend_old h hj (by rw [hP i hi,if_neg e1,if_neg e2]) (i+1=L.length) (i=a+k)
      (fun h1 h2=>⟨by rw [hlen];exact h1,by rw [hP _ (by omega),if_neg (by omega),if_neg (by omega),show i+1-k=i-k+1 by omega];simp⟩) (fun h1=>.inl (by rw [hlen];exact h1))
      (fun h1 h2=>⟨by omega,by rw [hP _ (by omega),if_neg (by omega),if_neg (by omega),show i-1-k=i-k-1 by omega];simp;omega⟩) (fun h1=>.inr (by rw [hP _ (by omega)];split<;>(try split)<;>(simp;omega)))]
     refine iteC ?_
     have:=h.prev hj
     omega
theorem delete_eq (h:RowOk L) {x n:Int} (p:Pn) (h0:0≤x) (h1:x<L.length) (h2:1≤n):deleteS L x n p=mendS (deleteR L x.toNat (min n (L.length-x)).toNat p):=by
 unfold deleteS
 simp only []
 rw [if_pos ⟨h0,h1,h2⟩]
 obtain ⟨a,rfl⟩:∃ a:Nat,x=(a:Int):=⟨x.toNat,by omega⟩
 obtain ⟨k,hk⟩:∃ k,k=(min n ((L.length:Int)-(a:Int))).toNat:=⟨_,rfl⟩
 rw [← hk,Int.toNat_natCast]
 have hk1:1≤k:=by omega
 have hk2:a+k≤L.length:=by omega
 obtain ⟨M,hM⟩:∃ M,M=cutS (cutS L a) (a+k):=⟨_,rfl⟩
 rw [← hM]
 have hMl:M.length=L.length:=by rw [hM,cutS_length,cutS_length]
 have hf1:a+(M.drop (a+k)).length≤M.length:=by rw [List.length_drop];omega
 have hf2:L.length-k+(List.replicate k (blankS p)).length≤(overS M a (M.drop (a+k))).length:=by rw [overS_length hf1,List.length_replicate];omega
 have hlen:(deleteR L a k p).length=L.length:=by simp [deleteR,piecesS_length];omega
 have hP:∀ i,i<L.length→pAt (deleteR L a k p) i=if i<a then (cAt L i,(i:Int)) else if i<L.length-k then (cAt L (i+k),((i+k:Nat):Int)) else (blankS p,-10):=fun i hi=>by
  unfold deleteR
  rw [pAt_append,pAt_append,List.length_take,List.length_drop,piecesS_length,Nat.min_eq_left (by omega),pAt_take,pAt_drop,pAt_replicate]
  by_cases e1:i<a
  · simp only [e1,if_true]
    rw [pAt_piecesS hi]
  · rw [if_neg e1,if_neg e1]
    by_cases e2:i<L.length-k
    · rw [if_pos (by omega),if_pos e2,show a+k+(i-a)=i+k by omega,pAt_piecesS (by omega)]
    · rw [if_neg (by omega),if_pos (by omega),if_neg e2]
 refine row_ext (by rw [overS_length hf2,overS_length hf1,mendS_length,hlen,hMl]) fun i hi=>?_
 rw [overS_length hf2,overS_length hf1,hMl] at hi
 rw [cAt_overS hf2,cAt_mendS (by rw [hlen];exact hi),List.length_replicate]
 by_cases e1:i<a
 · rw [if_neg (by omega),cAt_overS hf1,if_neg (by omega),hM,cut2 h (by omega) hi,mend_old h hi (by rw [hP i hi,if_pos e1]) (i+1=a) False
    (fun h1 h2=>⟨by rw [hlen];omega,by rw [hP _ h2,if_pos (by omega)];simp⟩) (fun h1=>.inr (by rw [hP _ (by omega),if_neg (by omega)];split<;>(simp;omega)))
    (fun h1 h2=>⟨by omega,by rw [hP _ (by omega),if_pos (by omega)];simp;omega⟩) (fun e=>e.elim)]
   refine iteC ?_
   simp only [and_false,or_false]
   omega
 · by_cases e2:i<L.length-k
   · have hj:i+k<L.length:=by omega
     rw [if_neg (by omega),cAt_overS hf1,if_pos (by rw [List.length_drop,hMl];omega),cAt_drop,show a+k+(i-a)=i+k by omega,hM,cut2 h (by omega) hj,
      mend_old h hj (by rw [hP i hi,if_neg e1,if_pos e2]) False (i=a)
      (fun h1 h2=>⟨by rw [hlen];omega,by rw [hP _ (by omega),if_neg (by omega),if_pos (by omega),show i+1+k=i+k+1 by omega];simp⟩) (fun e=>e.elim)
      (fun h1 h2=>⟨by omega,by rw [hP _ (by omega),if_neg (by omega),if_pos (by omega),show i-1+k=i+k-1 by omega];simp;omega⟩)
      (fun h1=>by
       by_cases e3:i=0
       · exact .inl e3
       · exact .inr (by rw [hP _ (by omega),if_pos (by omega)];simp;omega))]
     refine iteC ?_
     simp only [and_false,false_or]
     omega
   · rw [if_pos (by omega),cAt_replicate,if_pos (by omega),mend_new (by rw [hP i hi,if_neg e1,if_neg e2];rfl),hP i hi,if_neg e1,if_neg e2]
end
open Go.RowKit
theorem hasPlace_any {A:Option Addr} {n c:Nat} (x:Int) (w:World) :
  Calls Tryz.prog 157 #[.slice A n c,.int .i64 x] w fun e w'=>e=.returned (.bool (decide (0≤x∧x<(n:Int))))∧w=w':=by
 by_cases h1:0≤x
 · by_cases h2:x<(n:Int)
   · have hd:decide (0≤x∧x<(n:Int))=true:=by simp;omega
     rw [hd]
     clear hd
     go_enter Tryz.func157,Tryz.ntmps157
     go_wp2_with fail
     go_ret
     exact ⟨rfl,rfl⟩
   · have hd:decide (0≤x∧x<(n:Int))=false:=by simp;omega
     rw [hd]
     clear hd
     have h3:(n:Int)≤x:=by omega
     go_enter Tryz.func157,Tryz.ntmps157
     go_wp2_with fail
     go_ret
     exact ⟨rfl,rfl⟩
 · have hd:decide (0≤x∧x<(n:Int))=false:=by simp;omega
   rw [hd]
   clear hd
   have h3:x<0:=by omega
   go_enter Tryz.func157,Tryz.ntmps157
   go_wp2_with fail
   go_ret
   exact ⟨rfl,rfl⟩
structure Pen4 (w:World) (b:Nat) (p:Pn):Prop where
 c0:w.cell? ⟨b,0,none⟩=some (.int .u32 p.fg)
 c1:w.cell? ⟨b,1,none⟩=some (.int .u32 p.bg)
 c2:w.cell? ⟨b,2,none⟩=some (.int .u8 p.st)
 c3:w.cell? ⟨b,3,none⟩=some (.int .u16 p.lk)
 lt:b<w.heap.size
theorem pen4_new (w:World) (p:Pn) (t:TypeId):Pen4 (w.alloc (.cells (pnA p) t)) w.heap.size p :=
 ⟨cell_of_row _ _ 0 _ _ _ (heap_alloc_new w _),cell_of_row _ _ 1 _ _ _ (heap_alloc_new w _),cell_of_row _ _ 2 _ _ _ (heap_alloc_new w _),cell_of_row _ _ 3 _ _ _ (heap_alloc_new w _),by simp⟩
theorem Pen4.kept {w w':World} {b:Nat} {p:Pn} (h:Pen4 w b p) (hb:w'.heap[b]?=w.heap[b]?) (hs:w.heap.size≤w'.heap.size):Pen4 w' b p :=
 ⟨(World.cell?_of_block hb).trans h.c0,(World.cell?_of_block hb).trans h.c1,(World.cell?_of_block hb).trans h.c2,(World.cell?_of_block hb).trans h.c3,Nat.lt_of_lt_of_le h.lt hs⟩
theorem Pen4.below {w w':World} {b:Nat} {p:Pn} (h:Pen4 w b p) (hb:Below w.heap.size w w'):Pen4 w' b p:=h.kept (hb.block _ h.lt) hb.size
theorem Pen4.grown {w w':World} {b:Nat} {p:Pn} (h:Pen4 w b p) {row:Option Nat} (hg:w.grownBy w' row) (hne:row≠some b):Pen4 w' b p:=h.kept (hg.block _ h.lt fun e=>hne e.symm) hg.size
def WrPost (L:List Ce) (p:Pn) (w:World) (e:Ending) (w':World):Prop :=
 ((rowMay L && penMayS p)=true→MadeC L w e w')∧((rowMay L && penMayS p)=false→e=.returned (.slice none 0 0)∧Below w.heap.size w w')
theorem writable_any {w:World} {A:Option Addr} {n c:Nat} {L:List Ce} (p:Pn) (h:Vs ceV w A n L) (hT:Tabs w) (hn:n≤1000000) :
  Calls Tryz.prog 144 #[.slice A n c,.agg (pnA p)] w (WrPost L p w):=by
 have H:=Lib.hid (show Vs ceV (w.alloc (.cells (pnA p) 31)) A n L∧Tabs (w.alloc (.cells (pnA p) 31))∧Pen4 (w.alloc (.cells (pnA p) 31)) w.heap.size p from ⟨h.alloc _,hT.below ((Below.refl _ _).alloc (Nat.le_refl _) _) (Nat.le_refl _),pen4_new w p _⟩)
 have HL:=Lib.hid h.len
 clear h hT
 go_enter Tryz.func144,Tryz.ntmps144
 unfold pnA
 go_wp2_with fail
 refine (rowMay_any H.out.1 H.out.2.1 hn).mono ?_
 rintro e w1 ⟨rfl,hb⟩
 obtain ⟨c0,c1,c2,c3,_⟩:=H.out.2.2.below hb
 have X:=Lib.hid (show Below w.heap.size w w1∧Vs ceV w1 A n L from ⟨((Below.refl _ _).alloc (Nat.le_refl _) _).trans (hb.mono (by simp)),H.out.1.below hb⟩)
 clear hb
 obtain ⟨M,hM⟩:∃ M,rowMay L=M:=⟨_,rfl⟩
 rw [hM]
 have HM:=Lib.hid hM
 clear hM
 cases M
 · have HP:Hid (WrPost L p w (.returned (.slice none 0 0)) w1):=⟨fun e=>(by rw [HM.out] at e;cases e),fun _=>⟨rfl,X.out.1⟩⟩
   go_wp2_with fail
   go_ret
   exact HP.out
 · go_wp2_with fail
   refine (penMay_any p _).mono ?_
   rintro e w2 ⟨rfl,hb⟩
   have X2:=Lib.hid (show Below w.heap.size w w2∧Vs ceV w2 A n L from ⟨X.out.1.trans (hb.mono X.out.1.size),X.out.2.below hb⟩)
   clear hb c0 c1 c2 c3 X H
   obtain ⟨M,hM⟩:∃ M,penMayS p=M:=⟨_,rfl⟩
   rw [hM]
   have HM2:=Lib.hid hM
   clear hM
   cases M
   · have HP:Hid (WrPost L p w (.returned (.slice none 0 0)) w2):=⟨fun e=>(by rw [HM2.out,Bool.and_false] at e;cases e),fun _=>⟨rfl,X2.out.1⟩⟩
     go_wp2_with fail
     go_ret
     exact HP.out
   · have HN:=Lib.hid (show 0<n from by rw [← HL.out];exact ((rowMay_iff L).1 HM.out).pos)
     go_wp2_with fail
     refine (cloneC_any X2.out.2 HN.out hn).mono ?_
     rintro e w3 ⟨hb,g,c',rfl,hg,hc1,hc2,hR⟩
     have HP:Hid (WrPost L p w (.returned (.slice (some ⟨g,0,none⟩) L.length c')) w3):=⟨fun _=>⟨X2.out.1.trans (hb.mono X2.out.1.size),g,c',rfl,by have:=X2.out.1.size;omega,hc1,hc2,hR⟩,fun e=>(by rw [HM.out,HM2.out] at e;cases e)⟩
     clear hb hg hc1 hc2 hR
     go_wp2_with fail
     go_ret
     exact HP.out
theorem Rw.six {w:World} {t:TypeId} {g:Nat} {L:List Ce} (h:Rw ceV t w g L) {k:Nat} (hk:k<L.length):w.cell? ⟨g,k*6,none⟩=some (.int .i32 (cAt L k).r)∧w.cell? ⟨g,k*6+1,none⟩=some (.int .u8 (cAt L k).wd) ∧
  w.cell? ⟨g,k*6+2,none⟩=some (.int .u32 (cAt L k).p.fg)∧w.cell? ⟨g,k*6+3,none⟩=some (.int .u32 (cAt L k).p.bg)∧w.cell? ⟨g,k*6+4,none⟩=some (.int .u8 (cAt L k).p.st)∧w.cell? ⟨g,k*6+5,none⟩=some (.int .u16 (cAt L k).p.lk):=by
 have h1:=h.get ceV_len (getElem?_cAt hk)
 exact ⟨h1 0 _ rfl,h1 1 _ rfl,h1 2 _ rfl,h1 3 _ rfl,h1 4 _ rfl,h1 5 _ rfl⟩
def CutPost (L:List Ce) (a g:Nat) (w:World) (e:Ending) (w':World):Prop:=e=.returned (.tuple #[])∧Rw ceV 66 w' g (cutS L a)∧w.grownBy w' (some g)
set_option maxHeartbeats 800000 in
theorem cut_any {w:World} {g n c:Nat} {L:List Ce} (a:Nat) (h:Rw ceV 66 w g L) (hl:L.length=n) (ha:a≤1000000) (hp:a<L.length→(cAt L a).wd=2→0<a) :
  Calls Tryz.prog 145 #[.slice (some ⟨g,0,none⟩) n c,.int .i64 (a:Int)] w (CutPost L a g w):=by
 have H:=Lib.hid (And.intro h hl)
 by_cases h1:a<n
 · have ha1:(a:Int)<(n:Int):=by omega
   have hd:decide (0≤(a:Int)∧(a:Int)<(n:Int))=true:=by simp;omega
   obtain ⟨_,b1,b2,b3,b4,b5⟩:=h.six (k:=a) (by omega)
   by_cases h2:(cAt L a).wd=2
   · rw [h2] at b1
     have h0:=hp (by omega) h2
     obtain ⟨_,_,d2,d3,d4,d5⟩:=h.six (k:=a-1) (by omega)
     have he:cutS L a=(L.set (a-1) (blankS (cAt L (a-1)).p)).set a (blankS (cAt L a).p):=by unfold cutS;rw [if_pos ⟨by omega,h2⟩]
     unfold CutPost
     rw [he]
     obtain ⟨x,hx⟩:∃ x,x=cAt L a:=⟨_,rfl⟩
     obtain ⟨y,hy⟩:∃ y,y=cAt L (a-1):=⟨_,rfl⟩
     rw [← hx] at b2 b3 b4 b5 ⊢
     rw [← hy] at d2 d3 d4 d5 ⊢
     have HX:=Lib.hid (And.intro hx hy)
     have k1:(0:Int)≤(a:Int)-1:=by omega
     have k2:((a:Int)-1).toNat=a-1:=by omega
     have k3:(a:Int)-1<(n:Int):=by omega
     clear hx hy he h hl hp h2 h0 b2 b3 b4 b5
     go_enter Tryz.func145,Tryz.ntmps145
     go_wp2_with fail
     refine (hasPlace_any (a:Int) w).mono ?_
     rintro e w1 ⟨rfl,rfl⟩
     rw [hd]
     clear hd
     go_wp2_with fail
     refine (blank_any y.p w).mono ?_
     rintro e w1 ⟨rfl,hb⟩
     have hR:=H.out.1.below hb
     have Y:=Lib.hid (show w.grownBy w1 (some g) from grownBy_below hb)
     clear hb b1 d2 d3 d4 d5
     have HF:=Lib.hid (show ∀ w2,Rw ceV 66 w2 g (L.set (a-1) (blankS y.p))→(w2.cell? ⟨g,a*6+2,none⟩=some (.int .u32 x.p.fg)∧w2.cell? ⟨g,a*6+3,none⟩=some (.int .u32 x.p.bg)∧w2.cell? ⟨g,a*6+4,none⟩=some (.int .u8 x.p.st)∧w2.cell? ⟨g,a*6+5,none⟩=some (.int .u16 x.p.lk)) from fun w2 hR2=>by
      have h6:=hR2.six (k:=a) (by rw [List.length_set];have:=H.out.2;omega)
      rw [cAt_set,if_neg (by omega),← HX.out.1] at h6
      exact ⟨h6.2.2.1,h6.2.2.2.1,h6.2.2.2.2.1,h6.2.2.2.2.2⟩)
     go_wp2_with (refine wpList_store_V rfl 66 (.tmp 25) (.tmp 24) rfl ceV_len one_ce infoCe g _ (a-1) (blankS y.p) _ rfl rfl rfl rfl 66 L hR (by have:=H.out.2;omega) ?_;intro w2 hR2 hg2;obtain ⟨e2,e3,e4,e5⟩:=HF.out _ hR2)
     have Y2:=Lib.hid (Y.out.trans hg2)
     clear hR hg2 Y
     refine (blank_any x.p w2).mono ?_
     rintro e w3 ⟨rfl,hb⟩
     have hR3:=hR2.below hb
     have Y3:=Lib.hid (show w.grownBy w3 (some g) from Y2.out.trans (grownBy_below hb))
     clear hb e2 e3 e4 e5 Y2 HF hR2
     go_wp2_with (refine wpList_store_V rfl 66 (.tmp 34) (.tmp 33) rfl ceV_len one_ce infoCe g _ a (blankS x.p) _ rfl rfl rfl rfl 66 _ hR3 (by rw [List.length_set];have:=H.out.2;omega) ?_;intro w4 hR4 hg4)
     have Y4:=Lib.hid (Y3.out.trans hg4)
     go_end0
     exact ⟨rfl,hR4,Y4.out⟩
   · have t2:((cAt L a).wd == 2)=false:=by simpa using h2
     have he:cutS L a=L:=by unfold cutS;rw [if_neg (fun e=>h2 e.2)]
     unfold CutPost
     rw [he]
     generalize (cAt L a).wd=V at b1 h2 t2
     clear he h hl hp h2 b2 b3 b4 b5
     go_enter Tryz.func145,Tryz.ntmps145
     go_wp2_with fail
     refine (hasPlace_any (a:Int) w).mono ?_
     rintro e w1 ⟨rfl,rfl⟩
     rw [hd]
     clear hd
     go_wp2_with fail
     go_end0
     exact ⟨rfl,H.out.1,World.grownBy.refl _ _⟩
 · have hd:decide (0≤(a:Int)∧(a:Int)<(n:Int))=false:=by simp;omega
   have he:cutS L a=L:=by unfold cutS;rw [if_neg (fun e=>by omega)]
   unfold CutPost
   rw [he]
   clear he h hl hp
   go_enter Tryz.func145,Tryz.ntmps145
   go_wp2_with fail
   refine (hasPlace_any (a:Int) w).mono ?_
   rintro e w1 ⟨rfl,rfl⟩
   rw [hd]
   clear hd
   go_wp2_with fail
   go_end0
   exact ⟨rfl,H.out.1,World.grownBy.refl _ _⟩
end Go.Proofs.YtlcipgdnpilkfaaGreatDoor
