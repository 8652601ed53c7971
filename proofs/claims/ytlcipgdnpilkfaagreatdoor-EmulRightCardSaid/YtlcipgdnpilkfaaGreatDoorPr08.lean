/-
  Part 8 of what the laws of emul want: CellKeep, GridSpec.
-/
import Derived.Deep.Fields
import Derived.Deep.Slices
import Derived.OpenShut
import Derived.Test.YtlcipgdnpilkfaaGreatDoorPr01
import Derived.Test.YtlcipgdnpilkfaaGreatDoorPr03
import Derived.Test.YtlcipgdnpilkfaaGreatDoorPr06
import Derived.Test.YtlcipgdnpilkfaaGreatDoorPr07
namespace Go.Proofs.YtlcipgdnpilkfaaGreatDoor
theorem blank_may {p:Pn} (h:penMayS p=true):cellMay (blankS p)=true:=by
 have h2:colMay p.bg=true:=by unfold penMayS at h;simp at h;exact h.2
 have w32:widthS 32=1:=by decide +kernel
 have c0:colMay 0=true:=by decide
 unfold cellMay penMayS blankS
 simp [h2,w32,c0]
theorem may_pen {c:Ce} (h:cellMay c=true):penMayS c.p=true:=by unfold cellMay at h;simp at h;exact h.1
theorem mendC_blank {P:List Pc} {i:Nat} (h:torn P i=true):mendC P i=blankS (pAt P i).1.p:=by unfold mendC;rw [if_pos h]
theorem mendC_same {P:List Pc} {i:Nat} (h:torn P i=false):mendC P i=(pAt P i).1:=by unfold mendC;rw [if_neg (by rw [h];simp)]
structure PcOk (P:List Pc):Prop where
 pos:1≤P.length
 le:P.length≤80
 may:∀ i,i<P.length→cellMay (pAt P i).1=true
 pair:∀ i,i+1<P.length→(pAt P i).1.wd=1→(pAt P (i+1)).1.wd=2→(pAt P (i+1)).2=(pAt P i).2+1→(pAt P (i+1)).1=rightS (pAt P i).1
theorem mend_ok {P:List Pc} (h:PcOk P):RowOk (mendS P):=by
 refine ⟨by rw [mendS_length];exact h.pos,by rw [mendS_length];exact h.le,fun i hi=>?_⟩
 rw [mendS_length] at hi
 have hc:=cAt_mendS hi
 unfold OkAt
 rw [hc,mendS_length]
 cases ht:torn P i
 · rw [mendC_same ht]
   have ht2:=ht
   unfold torn at ht2
   rw [decide_eq_false_iff_not] at ht2
   refine ⟨h.may i hi,fun h1=>?_,fun h2=>?_⟩
   · have h3:i+1<P.length:=by
      rcases Nat.lt_or_ge (i+1) P.length with h0 | h0
      · exact h0
      · exact absurd (.inl ⟨h1,.inl (by omega)⟩) ht2
     have h4:(pAt P (i+1)).1.wd=2:=by
      by_cases e:(pAt P (i+1)).1.wd=2
      · exact e
      · exact absurd (.inl ⟨h1,.inr (.inl e)⟩) ht2
     have h5:(pAt P (i+1)).2=(pAt P i).2+1:=by
      by_cases e:(pAt P (i+1)).2=(pAt P i).2+1
      · exact e
      · exact absurd (.inl ⟨h1,.inr (.inr e)⟩) ht2
     refine ⟨h3,?_⟩
     have h6:torn P (i+1)=false:=by
      unfold torn
      rw [decide_eq_false_iff_not,Nat.add_sub_cancel]
      rintro (⟨e,_⟩ | ⟨_,e | e | e⟩)
      · omega
      · omega
      · exact e h1
      · omega
     rw [cAt_mendS h3,mendC_same h6]
     exact h.pair i h3 h1 h4 h5
   · have h3:0<i:=by
      rcases Nat.eq_zero_or_pos i with h0 | h0
      · exact absurd (.inr ⟨h2,.inl h0⟩) ht2
      · exact h0
     have h4:(pAt P (i-1)).1.wd=1:=by
      by_cases e:(pAt P (i-1)).1.wd=1
      · exact e
      · exact absurd (.inr ⟨h2,.inr (.inl e)⟩) ht2
     have h5:(pAt P (i-1)).2=(pAt P i).2-1:=by
      by_cases e:(pAt P (i-1)).2=(pAt P i).2-1
      · exact e
      · exact absurd (.inr ⟨h2,.inr (.inr e)⟩) ht2
     refine ⟨h3,?_⟩
     have h6:torn P (i-1)=false:=by
      unfold torn
      rw [decide_eq_false_iff_not,show i-1+1=i by omega]
      rintro (⟨_,e | e | e⟩ | ⟨e,_⟩)
      · omega
      · exact e h2
      · omega
      · omega
     rw [cAt_mendS (by omega),mendC_same h6]
     exact h4
 · rw [mendC_blank ht]
   refine ⟨blank_may (may_pen (h.may i hi)),fun e=>?_,fun e=>?_⟩
   · rw [blank_wd] at e;cases e
   · rw [blank_wd] at e;cases e
theorem pcOk_of {L:List Ce} {P:List Pc} {p:Pn} (h:RowOk L) (hp:penMayS p=true) (hl:P.length=L.length)
  (hP:∀ i,i<P.length→pAt P i=(blankS p,-10)∨∃ j,j<L.length∧pAt P i=(cAt L j,(j:Int))):PcOk P:=by
 refine ⟨by rw [hl];exact h.pos,by rw [hl];exact h.le,fun i hi=>?_,fun i hi h1 h2 h3=>?_⟩
 · rcases hP i hi with e | ⟨j,hj,e⟩
   · rw [e];exact blank_may hp
   · rw [e];exact (h.at_ j hj).1
 · rcases hP i (by omega) with e | ⟨j,hj,e⟩
   · rw [e] at h1;rw [blank_wd] at h1;cases h1
   · rcases hP (i+1) hi with e2 | ⟨j2,hj2,e2⟩
     · rw [e2] at h2;rw [blank_wd] at h2;cases h2
     · rw [e,e2] at h3 ⊢
       rw [e] at h1
       have:j2=j+1:=by simp at h3;omega
       subst this
       exact (h.next hj h1).2
theorem put_ok {L:List Ce} (h:RowOk L) (x r:Int) {p:Pn} (hp:penMayS p=true):RowOk (putS L x r p):=by
 rw [put_eq h]
 unfold putR
 have hold:PcOk (piecesS L):=pcOk_of h hp (piecesS_length L) fun i hi=>.inr ⟨i,by rw [piecesS_length] at hi;exact hi,pAt_piecesS (by rw [piecesS_length] at hi;exact hi)⟩
 split
 · rename_i hx
   refine mend_ok ⟨by rw [List.length_set];exact hold.pos,by rw [List.length_set];exact hold.le,fun i hi=>?_,fun i hi h1 h2 h3=>?_⟩
   · rw [List.length_set] at hi
     rw [pAt_set]
     split
     · unfold cellMay;simp [hp,hx.2.2]
     · exact hold.may i hi
   · rw [List.length_set] at hi
     rw [pAt_set] at h1 h3 ⊢
     rw [pAt_set] at h2 h3
     rw [pAt_set]
     split at h1
     · simp at h1
     · rename_i e1
       split at h2
       · simp at h2
       · rename_i e2
         rw [if_neg e1,if_neg e2] at h3 ⊢
         exact hold.pair i hi h1 h2 h3
 · split
   · rename_i hx
     obtain ⟨a,rfl⟩:∃ a:Nat,x=(a:Int):=⟨x.toNat,by omega⟩
     rw [Int.toNat_natCast]
     have hP:∀ k,k<L.length→pAt (((piecesS L).set a (⟨r,1,p⟩,-10)).set (a+1) (⟨0,2,p⟩,-9)) k=if k=a+1 then (⟨0,2,p⟩,-9) else if k=a then (⟨r,1,p⟩,-10) else (cAt L k,(k:Int)):=fun k hk=>by
      rw [pAt_set,pAt_set,List.length_set,piecesS_length]
      by_cases e:k=a+1
      · rw [if_pos ⟨e,hk⟩,if_pos e]
      · rw [if_neg (fun e2=>e e2.1),if_neg e]
        by_cases e2:k=a
        · rw [if_pos ⟨e2,hk⟩,if_pos e2]
        · rw [if_neg (fun e3=>e2 e3.1),if_neg e2,pAt_piecesS hk]
     refine mend_ok ⟨by rw [List.length_set,List.length_set];exact hold.pos,by rw [List.length_set,List.length_set];exact hold.le,fun i hi=>?_,fun i hi h1 h2 h3=>?_⟩
     · rw [List.length_set,List.length_set,piecesS_length] at hi
       rw [hP i hi]
       by_cases e:i=a+1
       · rw [if_pos e];unfold cellMay;simp [hp]
       · rw [if_neg e]
         by_cases e2:i=a
         · rw [if_pos e2];unfold cellMay;simp [hp,hx.2.2]
         · rw [if_neg e2];exact (h.at_ i hi).1
     · rw [List.length_set,List.length_set,piecesS_length] at hi
       have q1:=hP i (by omega)
       have q2:=hP (i+1) hi
       by_cases e:i=a
       · subst e
         rw [if_neg (by omega),if_pos rfl] at q1
         rw [if_pos rfl] at q2
         rw [q1,q2];rfl
       · by_cases e2:i=a+1
         · rw [if_pos e2] at q1
           rw [q1] at h1;simp at h1
         · rw [if_neg e2,if_neg e] at q1
           by_cases e3:i+1=a
           · rw [if_neg (by omega),if_pos e3] at q2
             rw [q2] at h2;simp at h2
           · rw [if_neg (by omega),if_neg e3] at q2
             rw [q1] at h1 ⊢
             rw [q2]
             exact (h.next (by omega) h1).2
   · exact mend_ok hold
theorem erase_ok {L:List Ce} (h:RowOk L) (a b:Int) {p:Pn} (hp:penMayS p=true):RowOk (eraseS L a b p):=by
 rw [erase_eq h]
 refine mend_ok (pcOk_of h hp (eraseR_length L a b p) fun i hi=>?_)
 rw [eraseR_length] at hi
 rw [pAt_eraseR hi]
 split
 · exact .inl rfl
 · exact .inr ⟨i,hi,rfl⟩
theorem ins_ok {L:List Ce} (h:RowOk L) (x n:Int) {p:Pn} (hp:penMayS p=true):RowOk (insertS L x n p):=by
 by_cases hc:0≤x∧x<L.length∧1≤n
 · rw [insert_eq h p hc.1 hc.2.1 hc.2.2]
   obtain ⟨a,rfl⟩:∃ a:Nat,x=(a:Int):=⟨x.toNat,by omega⟩
   obtain ⟨k,hk⟩:∃ k,k=(min n ((L.length:Int)-(a:Int))).toNat:=⟨_,rfl⟩
   rw [← hk,Int.toNat_natCast]
   refine mend_ok (pcOk_of h hp (insR_len p (by omega)) fun i hi=>?_)
   rw [insR_len p (by omega)] at hi
   unfold insertR
   rw [pAt_append,pAt_append,List.length_take,piecesS_length,Nat.min_eq_left (by omega),List.length_replicate,pAt_take,pAt_take,pAt_drop,pAt_replicate]
   by_cases e1:i<a
   · simp only [e1,if_true]
     exact .inr ⟨i,hi,pAt_piecesS hi⟩
   · rw [if_neg e1]
     by_cases e2:i<a+k
     · rw [if_pos (by omega),if_pos (by omega)];exact .inl rfl
     · rw [if_neg (by omega),if_pos (by omega)]
       exact .inr ⟨a+(i-a-k),by omega,pAt_piecesS (by omega)⟩
 · unfold insertS
   simp only []
   rw [if_neg hc]
   exact h
theorem del_ok {L:List Ce} (h:RowOk L) (x n:Int) {p:Pn} (hp:penMayS p=true):RowOk (deleteS L x n p):=by
 by_cases hc:0≤x∧x<L.length∧1≤n
 · rw [delete_eq h p hc.1 hc.2.1 hc.2.2]
   obtain ⟨a,rfl⟩:∃ a:Nat,x=(a:Int):=⟨x.toNat,by omega⟩
   obtain ⟨k,hk⟩:∃ k,k=(min n ((L.length:Int)-(a:Int))).toNat:=⟨_,rfl⟩
   rw [← hk,Int.toNat_natCast]
   refine mend_ok (pcOk_of h hp (delR_len p (by omega)) fun i hi=>?_)
   rw [delR_len p (by omega)] at hi
   unfold deleteR
   rw [pAt_append,pAt_append,List.length_take,List.length_drop,piecesS_length,Nat.min_eq_left (by omega),pAt_take,pAt_drop,pAt_replicate]
   by_cases e1:i<a
   · simp only [e1,if_true]
     exact .inr ⟨i,hi,pAt_piecesS hi⟩
   · rw [if_neg e1]
     by_cases e2:i<L.length-k
     · rw [if_pos (by omega)];exact .inr ⟨a+k+(i-a),by omega,pAt_piecesS (by omega)⟩
     · rw [if_neg (by omega),if_pos (by omega)];exact .inl rfl
 · unfold deleteS
   simp only []
   rw [if_neg hc]
   exact h
abbrev Rws:=List (List Ce)
def lAt (LL:Rws) (y:Nat):List Ce:=LL.getD y []
def rowAt (c:Nat) (L:List Ce) (y:Nat):List Ce:=(L.drop (y*c)).take c
def rowsS (c r:Nat) (L:List Ce):Rws:=(List.range r).map (rowAt c L)
structure Box (c r:Nat) (LL:Rws):Prop where
 len:LL.length=r
 row:∀ y,y<r→(lAt LL y).length=c
structure Gk (c r:Nat) (LL:Rws):Prop where
 box:Box c r LL
 c1:1≤c
 c80:c≤80
 r1:1≤r
 r24:r≤24
 ok:∀ y,y<r→RowOk (lAt LL y)
theorem lAt_lt {LL:Rws} {y:Nat} (h:y<LL.length):lAt LL y=LL[y]:=by simp [lAt,List.getD,List.getElem?_eq_getElem h]
theorem lAt_ge {LL:Rws} {y:Nat} (h:LL.length≤y):lAt LL y=[]:=by simp [lAt,List.getD,List.getElem?_eq_none h]
theorem getElem?_lAt {LL:Rws} {k:Nat} (h:k<LL.length):LL[k]?=some (lAt LL k):=by rw [lAt_lt h,List.getElem?_eq_getElem h]
theorem lAt_set (LL:Rws) (k:Nat) (M:List Ce) (y:Nat):lAt (LL.set k M) y=if y=k∧y<LL.length then M else lAt LL y:=by
 unfold lAt
 simp only [List.getD,List.getElem?_set]
 by_cases h:k=y
 · subst h
   by_cases h2:k<LL.length
   · simp [h2]
   · simp [h2]
 · simp [h,Ne.symm h]
theorem lAt_map (f:Nat→List Ce) (r y:Nat):lAt ((List.range r).map f) y=if y<r then f y else []:=by
 unfold lAt
 simp only [List.getD,List.getElem?_map]
 by_cases h:y<r
 · simp [h]
 · rw [List.getElem?_eq_none (by rw [List.length_range];omega),if_neg h];rfl
theorem lAt_append (L M:Rws) (i:Nat):lAt (L ++ M) i=if i<L.length then lAt L i else lAt M (i-L.length):=by
 unfold lAt
 simp only [List.getD]
 by_cases h:i<L.length
 · rw [List.getElem?_append_left h,if_pos h]
 · rw [List.getElem?_append_right (by omega),if_neg h]
theorem rws_ext {L M:Rws} (hl:L.length=M.length) (h:∀ i,i<L.length→lAt L i=lAt M i):L=M:=by
 apply List.ext_getElem hl
 intro i h1 h2
 rw [← lAt_lt h1,← lAt_lt h2,h i h1]
theorem Box.mem {c r:Nat} {LL:Rws} (h:Box c r LL):∀ x∈LL,x.length=c:=fun x hx=>by
 obtain ⟨i,hi,rfl⟩:=List.getElem_of_mem hx
 rw [← lAt_lt hi]
 exact h.row i (by rw [← h.len];exact hi)
theorem Box.of_map {c r:Nat} {f:Nat→List Ce} (h:∀ y,y<r→(f y).length=c):Box c r ((List.range r).map f) :=
 ⟨by simp,fun y hy=>by rw [lAt_map,if_pos hy];exact h y hy⟩
theorem Box.set {c r:Nat} {LL:Rws} (h:Box c r LL) (k:Nat) {M:List Ce} (hM:M.length=c):Box c r (LL.set k M) :=
 ⟨by rw [List.length_set];exact h.len,fun y hy=>by
  rw [lAt_set]
  split
  · exact hM
  · exact h.row y hy⟩
theorem flat_len {c:Nat}:∀ (LL:Rws) (_:∀ x∈LL,x.length=c),LL.flatten.length=LL.length*c
 | [],_=>by simp
 | a :: LL,h=>by
  rw [List.flatten_cons,List.length_append,flat_len LL (fun x hx=>h x (List.mem_cons_of_mem _ hx)),h a (List.mem_cons_self ..),List.length_cons,Nat.succ_mul]
  omega
theorem flat_drop {c:Nat}:∀ (LL:Rws) (_:∀ x∈LL,x.length=c) (y:Nat),LL.flatten.drop (y*c)=(LL.drop y).flatten
 | [],_,y=>by simp
 | a :: LL,h,0=>by simp
 | a :: LL,h,y+1=>by
  rw [List.flatten_cons,List.drop_append,h a (List.mem_cons_self ..),List.drop_eq_nil_of_le (by rw [h a (List.mem_cons_self ..),Nat.succ_mul];omega),show (y+1)*c-c=y*c by rw [Nat.succ_mul];omega,
   flat_drop LL (fun x hx=>h x (List.mem_cons_of_mem _ hx)) y]
  simp
theorem flat_take {c:Nat}:∀ (LL:Rws) (_:∀ x∈LL,x.length=c) (y:Nat),LL.flatten.take (y*c)=(LL.take y).flatten
 | [],_,y=>by simp
 | a :: LL,h,0=>by simp
 | a :: LL,h,y+1=>by
  rw [List.flatten_cons,List.take_append,h a (List.mem_cons_self ..),List.take_of_length_le (by rw [h a (List.mem_cons_self ..),Nat.succ_mul];omega),show (y+1)*c-c=y*c by rw [Nat.succ_mul];omega,
   flat_take LL (fun x hx=>h x (List.mem_cons_of_mem _ hx)) y]
  simp
theorem Box.flen {c r:Nat} {LL:Rws} (h:Box c r LL):LL.flatten.length=r*c:=by rw [flat_len LL h.mem,h.len]
theorem rowAt_flat {c r:Nat} {LL:Rws} (h:Box c r LL) {y:Nat} (hy:y<r):rowAt c LL.flatten y=lAt LL y:=by
 have hl:y<LL.length:=by rw [h.len];exact hy
 have hc:LL[y].length=c:=by rw [← lAt_lt hl];exact h.row y hy
 unfold rowAt
 rw [flat_drop LL h.mem,List.drop_eq_getElem_cons hl,List.flatten_cons,List.take_append_of_le_length (by omega),List.take_of_length_le (by omega),lAt_lt hl]
theorem over_flat {c r:Nat} {LL:Rws} (h:Box c r LL) {y:Nat} (hy:y<r) {M:List Ce} (hM:M.length=c):overS LL.flatten (y*c) M=(LL.set y M).flatten:=by
 have hl:y<LL.length:=by rw [h.len];exact hy
 unfold overS
 rw [hM,flat_take LL h.mem,show y*c+c=(y+1)*c by rw [Nat.succ_mul],flat_drop LL h.mem,List.set_eq_take_append_cons_drop,if_pos hl,List.flatten_append,List.flatten_cons]
theorem flat_rows {c:Nat} {L:List Ce}:∀ r:Nat,r*c≤L.length→(rowsS c r L).flatten=L.take (r*c)
 | 0,_=>by simp [rowsS]
 | r+1,h=>by
  rw [Nat.succ_mul] at h
  have h1:=flat_rows (c:=c) (L:=L) r (by omega)
  unfold rowsS at h1 ⊢
  rw [List.range_succ,List.map_append,List.flatten_append,h1,Nat.succ_mul,List.take_add]
  simp [rowAt]
theorem rows_flat {c r:Nat} {L:List Ce} (h:L.length=r*c):(rowsS c r L).flatten=L:=by
 rw [flat_rows r (by omega),List.take_of_length_le (by omega)]
theorem row_fits {c r y:Nat} (h:y<r):y*c+c≤r*c:=by
 have:=Nat.mul_le_mul_right c (show y+1≤r from h)
 rw [Nat.succ_mul] at this
 exact this
theorem rows_box {c r:Nat} {L:List Ce} (h:L.length=r*c):Box c r (rowsS c r L):=Box.of_map fun y hy=>by
 have:=row_fits (c:=c) hy
 unfold rowAt
 rw [List.length_take,List.length_drop]
 omega
theorem rowsS_at {c r:Nat} (L:List Ce) {y:Nat} (hy:y<r):lAt (rowsS c r L) y=rowAt c L y:=by unfold rowsS;rw [lAt_map,if_pos hy]
theorem rows_of_flat {c r:Nat} {LL:Rws} (h:Box c r LL):rowsS c r LL.flatten=LL:=by
 refine rws_ext (by unfold rowsS;rw [List.length_map,List.length_range,h.len]) fun y hy=>?_
 have h1:y<r:=by unfold rowsS at hy;simpa using hy
 rw [rowsS_at _ h1,rowAt_flat h h1]
def sizeOk (c r:Int):Bool:=decide (1≤c∧c≤80∧1≤r∧r≤24)
def GridOk (c r:Int) (L:List Ce):Prop:=sizeOk c r=true∧L.length=r.toNat*c.toNat∧Gk c.toNat r.toNat (rowsS c.toNat r.toNat L)
noncomputable def gridMay (c r:Int) (L:List Ce):Bool:=@decide (GridOk c r L) (Classical.propDecidable _)
theorem gridMay_iff (c r:Int) (L:List Ce):gridMay c r L=true↔GridOk c r L:=by unfold gridMay;exact @decide_eq_true_iff _ (Classical.propDecidable _)
theorem gridMay_not (c r:Int) (L:List Ce):gridMay c r L=false↔¬ GridOk c r L:=by rw [← gridMay_iff];simp
theorem GridOk.parts {c r:Int} {L:List Ce} (h:GridOk c r L):∃ (c' r':Nat) (LL:Rws),c=(c':Int)∧r=(r':Int)∧L=LL.flatten∧rowsS c.toNat r.toNat L=LL∧Gk c' r' LL:=by
 obtain ⟨h1,h2,h3⟩:=h
 unfold sizeOk at h1
 have h4:=of_decide_eq_true h1
 exact ⟨c.toNat,r.toNat,_,by omega,by omega,(rows_flat h2).symm,rfl,h3⟩
theorem Gk.may {c r:Nat} {LL:Rws} (h:Gk c r LL):gridMay (c:Int) (r:Int) LL.flatten=true:=(gridMay_iff _ _ _).2 ⟨by
  unfold sizeOk
  have:=h.c1;have:=h.c80;have:=h.r1;have:=h.r24
  exact decide_eq_true (by omega),h.box.flen,by rw [Int.toNat_natCast,Int.toNat_natCast,rows_of_flat h.box];exact h⟩
theorem Gk.small {c r:Nat} {LL:Rws} (h:Gk c r LL):r*c≤1920:=by
 have:=Nat.mul_le_mul h.r24 h.c80
 omega
theorem putS_length (L:List Ce) (x r:Int) (p:Pn):(putS L x r p).length=L.length:=by
 unfold putS
 simp only []
 split
 · rw [overS_length (by rw [cutS_length,cutS_length];omega),cutS_length,cutS_length]
 · rfl
theorem eraseS_length (L:List Ce) (a b:Int) (p:Pn):(eraseS L a b p).length=L.length:=by
 unfold eraseS
 simp only []
 split
 · rw [overS_length (by rw [cutS_length,cutS_length,List.length_replicate];omega),cutS_length,cutS_length]
 · rfl
theorem insertS_length (L:List Ce) (x n:Int) (p:Pn):(insertS L x n p).length=L.length:=by
 unfold insertS
 simp only []
 split
 · rw [overS_length,overS_length,cutS_length,cutS_length]
   · rw [List.length_take,List.length_drop,cutS_length,cutS_length];omega
   · rw [overS_length,cutS_length,cutS_length,List.length_replicate]
     · omega
     · rw [List.length_take,List.length_drop,cutS_length,cutS_length];omega
 · rfl
theorem deleteS_length (L:List Ce) (x n:Int) (p:Pn):(deleteS L x n p).length=L.length:=by
 unfold deleteS
 simp only []
 split
 · rw [overS_length,overS_length,cutS_length,cutS_length]
   · rw [List.length_drop,cutS_length,cutS_length];omega
   · rw [overS_length,cutS_length,cutS_length,List.length_replicate]
     · omega
     · rw [List.length_drop,cutS_length,cutS_length];omega
 · rfl
def inRowS (f:List Ce→List Ce) (y:Int) (LL:Rws):Rws:=if 0≤y∧y<LL.length then LL.set y.toNat (f (lAt LL y.toNat)) else LL
def clearS (c:Nat) (LL:Rws) (a b:Int) (p:Pn):Rws:=(List.range LL.length).map fun (y:Nat)=>eraseS (lAt LL y) (a-(y*c:Nat)) (b-(y*c:Nat)) p
def blanksS (c:Nat) (p:Pn):List Ce:=List.replicate c (blankS p)
def scrollAt (c:Nat) (LL:Rws) (t b n:Int) (p:Pn) (y:Nat):List Ce:=if t≤(y:Int)∧(y:Int)≤b then (if t≤(y:Int)+n∧(y:Int)+n≤b then lAt LL ((y:Int)+n).toNat else blanksS c p) else lAt LL y
def scrollS (c:Nat) (LL:Rws) (t b n:Int) (p:Pn):Rws:=if t<0∨(LL.length:Int)≤b∨b<t then LL else (List.range LL.length).map (scrollAt c LL t b n p)
def resRow (c':Nat) (L:List Ce):List Ce:=overS (blanksS c' pn0) 0 ((eraseS L (c':Int) (L.length:Int) pn0).take c')
def resizeS (c' r':Nat) (LL:Rws):Rws:=(List.range r').map fun y=>if y<LL.length then resRow c' (lAt LL y) else blanksS c' pn0
abbrev GA:=Option (Nat × Nat × Rws)
noncomputable def opG (c r:Int) (L:List Ce) (p:Pn) (F:Nat→Rws→Rws):GA :=
 if gridMay c r L=true∧penMayS p=true then some (c.toNat,r.toNat,F c.toNat (rowsS c.toNat r.toNat L)) else none
noncomputable def resG (c r:Int) (L:List Ce) (c' r':Int):GA :=
 if gridMay c r L=true∧sizeOk c' r'=true then some (c'.toNat,r'.toNat,resizeS c'.toNat r'.toNat (rowsS c.toNat r.toNat L)) else none
theorem inRow_box {c r:Nat} {LL:Rws} (h:Box c r LL) {f:List Ce→List Ce} (hf:∀ l,(f l).length=l.length) (y:Int):Box c r (inRowS f y LL):=by
 unfold inRowS
 split
 · rename_i hy
   rw [h.len] at hy
   exact h.set _ (by rw [hf,h.row _ (by omega)])
 · exact h
theorem inRow_ok {c r:Nat} {LL:Rws} (h:Gk c r LL) {f:List Ce→List Ce} (hf:∀ l,(f l).length=l.length) (ho:∀ l,RowOk l→RowOk (f l)) (y:Int):Gk c r (inRowS f y LL):=by
 refine ⟨inRow_box h.box hf y,h.c1,h.c80,h.r1,h.r24,fun z hz=>?_⟩
 unfold inRowS
 split
 · rename_i hy
   rw [lAt_set]
   split
   · exact ho _ (h.ok _ (by rw [h.box.len] at hy;omega))
   · exact h.ok z hz
 · exact h.ok z hz
theorem blanks_len (c:Nat) (p:Pn):(blanksS c p).length=c:=by simp [blanksS]
theorem blanks_ok {c:Nat} {p:Pn} (h1:1≤c) (h2:c≤80) (hp:penMayS p=true):RowOk (blanksS c p):=by
 refine ⟨by rw [blanks_len];exact h1,by rw [blanks_len];exact h2,fun i hi=>?_⟩
 rw [blanks_len] at hi
 have e:cAt (blanksS c p) i=blankS p:=by unfold blanksS;rw [cAt_replicate,if_pos hi]
 exact ⟨by rw [e];exact blank_may hp,fun h=>by rw [e] at h;exact absurd h (by simp [blankS]),fun h=>by rw [e] at h;exact absurd h (by simp [blankS])⟩
theorem pn0_may:penMayS pn0=true:=by decide
theorem clear_ok {c r:Nat} {LL:Rws} (h:Gk c r LL) (a b:Int) {p:Pn} (hp:penMayS p=true):Gk c r (clearS c LL a b p):=by
 have hl:=h.box.len
 unfold clearS
 rw [hl]
 refine ⟨Box.of_map fun y hy=>by rw [eraseS_length,h.box.row y hy],h.c1,h.c80,h.r1,h.r24,fun z hz=>?_⟩
 rw [lAt_map,if_pos hz]
 exact erase_ok (h.ok z hz) _ _ hp
theorem scrollAt_len {c r:Nat} {LL:Rws} (h:Box c r LL) {t b:Int} (n:Int) (p:Pn) (ht:0≤t) (hb:b<r) {y:Nat} (hy:y<r):(scrollAt c LL t b n p y).length=c:=by
 unfold scrollAt
 split
 · split
   · exact h.row _ (by omega)
   · exact blanks_len _ _
 · exact h.row _ hy
theorem scroll_box {c r:Nat} {LL:Rws} (h:Box c r LL) (t b n:Int) (p:Pn):Box c r (scrollS c LL t b n p):=by
 unfold scrollS
 split
 · exact h
 · rename_i hh
   rw [h.len] at hh ⊢
   exact Box.of_map fun y hy=>scrollAt_len h n p (by omega) (by omega) hy
theorem scroll_ok {c r:Nat} {LL:Rws} (h:Gk c r LL) (t b n:Int) {p:Pn} (hp:penMayS p=true):Gk c r (scrollS c LL t b n p):=by
 refine ⟨scroll_box h.box t b n p,h.c1,h.c80,h.r1,h.r24,fun z hz=>?_⟩
 unfold scrollS
 split
 · exact h.ok z hz
 · rename_i hh
   rw [h.box.len] at hh ⊢
   rw [lAt_map,if_pos hz]
   unfold scrollAt
   split
   · split
     · exact h.ok _ (by omega)
     · exact blanks_ok h.c1 h.c80 hp
   · exact h.ok z hz
theorem resRow_len (c':Nat) (L:List Ce):(resRow c' L).length=c':=by
 unfold resRow
 rw [overS_length,blanks_len]
 rw [blanks_len,List.length_take]
 omega
theorem resize_box (c' r':Nat) (LL:Rws):Box c' r' (resizeS c' r' LL):=Box.of_map fun y hy=>by
 split
 · exact resRow_len _ _
 · exact blanks_len _ _
theorem resRow_at {c':Nat} {L:List Ce} (h:RowOk L) {x:Nat} (hx:x<c'):cAt (resRow c' L) x=if x<L.length then (if (cAt L x).wd=1∧x+1=c' then blankS (cAt L x).p else cAt L x) else blankS pn0:=by
 have hel:((eraseS L (c':Int) (L.length:Int) pn0).take c').length=min c' L.length:=by rw [List.length_take,eraseS_length]
 unfold resRow
 rw [cAt_overS (by rw [blanks_len];omega)]
 by_cases h1:x<L.length
 · rw [if_pos (by omega),if_pos h1,Nat.sub_zero,cAt_take,if_pos hx]
   unfold eraseS
   simp only []
   by_cases h2:c'<L.length
   · rw [show (max (c':Int) 0).toNat=c' by omega,show (min (L.length:Int) (L.length:Int)).toNat=L.length by omega,if_pos h2,cAt_overS (by rw [cutS_length,cutS_length,List.length_replicate];omega),if_neg (by omega),cut2 h (by omega) h1]
     refine iteC ⟨?_,?_⟩
     · rintro (⟨e1,e2 | e2⟩ | ⟨e1,e2 | e2⟩)
       · exact ⟨e1,e2⟩
       · have:=(h.next h1 e1).1;omega
       · omega
       · omega
     · rintro ⟨e1,e2⟩
       exact .inl ⟨e1,.inl e2⟩
   · rw [if_neg (by omega)]
     rw [if_neg]
     rintro ⟨e1,e2⟩
     have:=(h.next h1 e1).1
     omega
 · rw [if_neg (by omega),if_neg h1]
   unfold blanksS
   rw [cAt_replicate,if_pos hx]
theorem resRow_ok {c':Nat} {L:List Ce} (h:RowOk L) (h1:1≤c') (h2:c'≤80):RowOk (resRow c' L):=by
 refine ⟨by rw [resRow_len];exact h1,by rw [resRow_len];exact h2,fun i hi=>?_⟩
 rw [resRow_len] at hi
 have hb0:(blankS pn0).wd=0:=rfl
 have e:=resRow_at h hi
 by_cases hl:i<L.length
 · rw [if_pos hl] at e
   have ho:=h.at_ i hl
   by_cases hc:(cAt L i).wd=1∧i+1=c'
   · rw [if_pos hc] at e
     exact ⟨by rw [e];exact blank_may (may_pen ho.1),fun h3=>by rw [e] at h3;exact absurd h3 (by simp [blankS]),fun h3=>by rw [e] at h3;exact absurd h3 (by simp [blankS])⟩
   · rw [if_neg hc] at e
     refine ⟨by rw [e];exact ho.1,fun h3=>?_,fun h3=>?_⟩
     · rw [e] at h3
       obtain ⟨h4,h5⟩:=ho.2.1 h3
       refine ⟨by rw [resRow_len];omega,?_⟩
       rw [e,resRow_at h (by omega),if_pos h4,h5,if_neg (by intro h6;exact absurd h6.1 (by simp [rightS]))]
     · rw [e] at h3
       obtain ⟨h4,h5⟩:=ho.2.2 h3
       refine ⟨h4,?_⟩
       rw [resRow_at h (by omega),if_pos (by omega),if_neg (by omega),h5]
 · rw [if_neg hl] at e
   exact ⟨by rw [e];exact blank_may pn0_may,fun h3=>by rw [e] at h3;exact absurd h3 (by simp [blankS]),fun h3=>by rw [e] at h3;exact absurd h3 (by simp [blankS])⟩
theorem resize_ok {c r c' r':Nat} {LL:Rws} (h:Gk c r LL) (h1:1≤c') (h2:c'≤80) (h3:1≤r') (h4:r'≤24):Gk c' r' (resizeS c' r' LL):=by
 refine ⟨resize_box _ _ _,h1,h2,h3,h4,fun y hy=>?_⟩
 unfold resizeS
 rw [lAt_map,if_pos hy]
 split
 · rename_i hl
   exact resRow_ok (h.ok y (by rw [← h.box.len];exact hl)) h1 h2
 · exact blanks_ok h1 h2 pn0_may
end Go.Proofs.YtlcipgdnpilkfaaGreatDoor
