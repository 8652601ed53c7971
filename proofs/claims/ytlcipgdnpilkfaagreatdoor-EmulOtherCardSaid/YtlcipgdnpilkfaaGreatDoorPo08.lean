/-
  Part 8 of what the laws of emul want: GridSpec.
-/
import Derived.Test.YtlcipgdnpilkfaaGreatDoorPo07
namespace Go.Proofs.YtlcipgdnpilkfaaGreatDoor
abbrev Rws:=List (List Ce)
def lAt (LL:Rws) (y:Nat):List Ce:=LL.getD y []
def rowAt (c:Nat) (L:List Ce) (y:Nat):List Ce:=(L.drop (y*c)).take c
def rowsS (c r:Nat) (L:List Ce):Rws:=(List.range r).map (rowAt c L)
structure Box (c r:Nat) (LL:Rws):Prop where
 len:LL.length=r
 row:∀ y,y<r→(lAt LL y).length=c
structure Gk (c r:Nat) (LL:Rws):Prop where
 box:Box c r LL
 c1:1≤c
 c80:c≤80
 r1:1≤r
 r24:r≤24
 ok:∀ y,y<r→RowOk (lAt LL y)
theorem lAt_lt {LL:Rws} {y:Nat} (h:y<LL.length):lAt LL y=LL[y]:=by simp [lAt,List.getD,List.getElem?_eq_getElem h]
theorem lAt_ge {LL:Rws} {y:Nat} (h:LL.length≤y):lAt LL y=[]:=by simp [lAt,List.getD,List.getElem?_eq_none h]
theorem getElem?_lAt {LL:Rws} {k:Nat} (h:k<LL.length):LL[k]?=some (lAt LL k):=by rw [lAt_lt h,List.getElem?_eq_getElem h]
theorem lAt_set (LL:Rws) (k:Nat) (M:List Ce) (y:Nat):lAt (LL.set k M) y=if y=k∧y<LL.length then M else lAt LL y:=by
 unfold lAt
 simp only [List.getD,List.getElem?_set]
 by_cases h:k=y
 · subst h
   by_cases h2:k<LL.length
   · simp [h2]
   · simp [h2]
 · simp [h,Ne.symm h]
theorem lAt_map (f:Nat→List Ce) (r y:Nat):lAt ((List.range r).map f) y=if y<r then f y else []:=by
 unfold lAt
 simp only [List.getD,List.getElem?_map]
 by_cases h:y<r
 · simp [h]
 · rw [List.getElem?_eq_none (by rw [List.length_range];omega),if_neg h];rfl
theorem lAt_append (L M:Rws) (i:Nat):lAt (L ++ M) i=if i<L.length then lAt L i else lAt M (i-L.length):=by
 unfold lAt
 simp only [List.getD]
 by_cases h:i<L.length
 · rw [List.getElem?_append_left h,if_pos h]
 · rw [List.getElem?_append_right (by omega),if_neg h]
theorem rws_ext {L M:Rws} (hl:L.length=M.length) (h:∀ i,i<L.length→lAt L i=lAt M i):L=M:=by
 apply List.ext_getElem hl
 intro i h1 h2
 rw [← lAt_lt h1,← lAt_lt h2,h i h1]
theorem Box.mem {c r:Nat} {LL:Rws} (h:Box c r LL):∀ x∈LL,x.length=c:=fun x hx=>by
 obtain ⟨i,hi,rfl⟩:=List.getElem_of_mem hx
 rw [← lAt_lt hi]
 exact h.row i (by rw [← h.len];exact hi)
theorem Box.of_map {c r:Nat} {f:Nat→List Ce} (h:∀ y,y<r→(f y).length=c):Box c r ((List.range r).map f) :=
 ⟨by simp,fun y hy=>by rw [lAt_map,if_pos hy];exact h y hy⟩
theorem Box.set {c r:Nat} {LL:Rws} (h:Box c r LL) (k:Nat) {M:List Ce} (hM:M.length=c):Box c r (LL.set k M) :=
 ⟨by rw [List.length_set];exact h.len,fun y hy=>by
  rw [lAt_set]
  split
  · exact hM
  · exact h.row y hy⟩
theorem flat_len {c:Nat}:∀ (LL:Rws) (_:∀ x∈LL,x.length=c),LL.flatten.length=LL.length*c
 | [],_=>by simp
 | a :: LL,h=>by
  rw [List.flatten_cons,List.length_append,flat_len LL (fun x hx=>h x (List.mem_cons_of_mem _ hx)),h a (List.mem_cons_self ..),List.length_cons,Nat.succ_mul]
  omega
theorem flat_drop {c:Nat}:∀ (LL:Rws) (_:∀ x∈LL,x.length=c) (y:Nat),LL.flatten.drop (y*c)=(LL.drop y).flatten
 | [],_,y=>by simp
 | a :: LL,h,0=>by simp
 | a :: LL,h,y+1=>by
  rw [List.flatten_cons,List.drop_append,h a (List.mem_cons_self ..),List.drop_eq_nil_of_le (by rw [h a (List.mem_cons_self ..),Nat.succ_mul];omega),show (y+1)*c-c=y*c by rw [Nat.succ_mul];omega,
   flat_drop LL (fun x hx=>h x (List.mem_cons_of_mem _ hx)) y]
  simp
theorem flat_take {c:Nat}:∀ (LL:Rws) (_:∀ x∈LL,x.length=c) (y:Nat),LL.flatten.take (y*c)=(LL.take y).flatten
 | [],_,y=>by simp
 | a :: LL,h,0=>by simp
 | a :: LL,h,y+1=>by
  rw [List.flatten_cons,List.take_append,h a (List.mem_cons_self ..),List.take_of_length_le (by rw [h a (List.mem_cons_self ..),Nat.succ_mul];omega),show (y+1)*c-c=y*c by rw [Nat.succ_mul];omega,
   flat_take LL (fun x hx=>h x (List.mem_cons_of_mem _ hx)) y]
  simp
theorem Box.flen {c r:Nat} {LL:Rws} (h:Box c r LL):LL.flatten.length=r*c:=by rw [flat_len LL h.mem,h.len]
theorem rowAt_flat {c r:Nat} {LL:Rws} (h:Box c r LL) {y:Nat} (hy:y<r):rowAt c LL.flatten y=lAt LL y:=by
 have hl:y<LL.length:=by rw [h.len];exact hy
 have hc:LL[y].length=c:=by rw [← lAt_lt hl];exact h.row y hy
 unfold rowAt
 rw [flat_drop LL h.mem,List.drop_eq_getElem_cons hl,List.flatten_cons,List.take_append_of_le_length (by omega),List.take_of_length_le (by omega),lAt_lt hl]
theorem over_flat {c r:Nat} {LL:Rws} (h:Box c r LL) {y:Nat} (hy:y<r) {M:List Ce} (hM:M.length=c):overS LL.flatten (y*c) M=(LL.set y M).flatten:=by
 have hl:y<LL.length:=by rw [h.len];exact hy
 unfold overS
 rw [hM,flat_take LL h.mem,show y*c+c=(y+1)*c by rw [Nat.succ_mul],flat_drop LL h.mem,List.set_eq_take_append_cons_drop,if_pos hl,List.flatten_append,List.flatten_cons]
theorem flat_rows {c:Nat} {L:List Ce}:∀ r:Nat,r*c≤L.length→(rowsS c r L).flatten=L.take (r*c)
 | 0,_=>by simp [rowsS]
 | r+1,h=>by
  rw [Nat.succ_mul] at h
  have h1:=flat_rows (c:=c) (L:=L) r (by omega)
  unfold rowsS at h1 ⊢
  rw [List.range_succ,List.map_append,List.flatten_append,h1,Nat.succ_mul,List.take_add]
  simp [rowAt]
theorem rows_flat {c r:Nat} {L:List Ce} (h:L.length=r*c):(rowsS c r L).flatten=L:=by
 rw [flat_rows r (by omega),List.take_of_length_le (by omega)]
theorem row_fits {c r y:Nat} (h:y<r):y*c+c≤r*c:=by
 have:=Nat.mul_le_mul_right c (show y+1≤r from h)
 rw [Nat.succ_mul] at this
 exact this
theorem rows_box {c r:Nat} {L:List Ce} (h:L.length=r*c):Box c r (rowsS c r L):=Box.of_map fun y hy=>by
 have:=row_fits (c:=c) hy
 unfold rowAt
 rw [List.length_take,List.length_drop]
 omega
theorem rowsS_at {c r:Nat} (L:List Ce) {y:Nat} (hy:y<r):lAt (rowsS c r L) y=rowAt c L y:=by unfold rowsS;rw [lAt_map,if_pos hy]
theorem rows_of_flat {c r:Nat} {LL:Rws} (h:Box c r LL):rowsS c r LL.flatten=LL:=by
 refine rws_ext (by unfold rowsS;rw [List.length_map,List.length_range,h.len]) fun y hy=>?_
 have h1:y<r:=by unfold rowsS at hy;simpa using hy
 rw [rowsS_at _ h1,rowAt_flat h h1]
def sizeOk (c r:Int):Bool:=decide (1≤c∧c≤80∧1≤r∧r≤24)
def GridOk (c r:Int) (L:List Ce):Prop:=sizeOk c r=true∧L.length=r.toNat*c.toNat∧Gk c.toNat r.toNat (rowsS c.toNat r.toNat L)
noncomputable def gridMay (c r:Int) (L:List Ce):Bool:=@decide (GridOk c r L) (Classical.propDecidable _)
theorem gridMay_iff (c r:Int) (L:List Ce):gridMay c r L=true↔GridOk c r L:=by unfold gridMay;exact @decide_eq_true_iff _ (Classical.propDecidable _)
theorem gridMay_not (c r:Int) (L:List Ce):gridMay c r L=false↔¬ GridOk c r L:=by rw [← gridMay_iff];simp
theorem GridOk.parts {c r:Int} {L:List Ce} (h:GridOk c r L):∃ (c' r':Nat) (LL:Rws),c=(c':Int)∧r=(r':Int)∧L=LL.flatten∧rowsS c.toNat r.toNat L=LL∧Gk c' r' LL:=by
 obtain ⟨h1,h2,h3⟩:=h
 unfold sizeOk at h1
 have h4:=of_decide_eq_true h1
 exact ⟨c.toNat,r.toNat,_,by omega,by omega,(rows_flat h2).symm,rfl,h3⟩
theorem Gk.may {c r:Nat} {LL:Rws} (h:Gk c r LL):gridMay (c:Int) (r:Int) LL.flatten=true:=(gridMay_iff _ _ _).2 ⟨by
  unfold sizeOk
  have:=h.c1;have:=h.c80;have:=h.r1;have:=h.r24
  exact decide_eq_true (by omega),h.box.flen,by rw [Int.toNat_natCast,Int.toNat_natCast,rows_of_flat h.box];exact h⟩
theorem Gk.small {c r:Nat} {LL:Rws} (h:Gk c r LL):r*c≤1920:=by
 have:=Nat.mul_le_mul h.r24 h.c80
 omega
theorem putS_length (L:List Ce) (x r:Int) (p:Pn):(putS L x r p).length=L.length:=by
 unfold putS
 simp only []
 split
 · rw [overS_length (by rw [cutS_length,cutS_length];omega),cutS_length,cutS_length]
 · rfl
theorem eraseS_length (L:List Ce) (a b:Int) (p:Pn):(eraseS L a b p).length=L.length:=by
 unfold eraseS
 simp only []
 split
 · rw [overS_length (by rw [cutS_length,cutS_length,List.length_replicate];omega),cutS_length,cutS_length]
 · rfl
theorem insertS_length (L:List Ce) (x n:Int) (p:Pn):(insertS L x n p).length=L.length:=by
 unfold insertS
 simp only []
 split
 · rw [overS_length,overS_length,cutS_length,cutS_length]
   · rw [List.length_take,List.length_drop,cutS_length,cutS_length];omega
   · rw [overS_length,cutS_length,cutS_length,List.length_replicate]
     · omega
     · rw [List.length_take,List.length_drop,cutS_length,cutS_length];omega
 · rfl
theorem deleteS_length (L:List Ce) (x n:Int) (p:Pn):(deleteS L x n p).length=L.length:=by
 unfold deleteS
 simp only []
 split
 · rw [overS_length,overS_length,cutS_length,cutS_length]
   · rw [List.length_drop,cutS_length,cutS_length];omega
   · rw [overS_length,cutS_length,cutS_length,List.length_replicate]
     · omega
     · rw [List.length_drop,cutS_length,cutS_length];omega
 · rfl
def inRowS (f:List Ce→List Ce) (y:Int) (LL:Rws):Rws:=if 0≤y∧y<LL.length then LL.set y.toNat (f (lAt LL y.toNat)) else LL
def clearS (c:Nat) (LL:Rws) (a b:Int) (p:Pn):Rws:=(List.range LL.length).map fun (y:Nat)=>eraseS (lAt LL y) (a-(y*c:Nat)) (b-(y*c:Nat)) p
def blanksS (c:Nat) (p:Pn):List Ce:=List.replicate c (blankS p)
def scrollAt (c:Nat) (LL:Rws) (t b n:Int) (p:Pn) (y:Nat):List Ce:=if t≤(y:Int)∧(y:Int)≤b then (if t≤(y:Int)+n∧(y:Int)+n≤b then lAt LL ((y:Int)+n).toNat else blanksS c p) else lAt LL y
def scrollS (c:Nat) (LL:Rws) (t b n:Int) (p:Pn):Rws:=if t<0∨(LL.length:Int)≤b∨b<t then LL else (List.range LL.length).map (scrollAt c LL t b n p)
abbrev GA:=Option (Nat × Nat × Rws)
noncomputable def opG (c r:Int) (L:List Ce) (p:Pn) (F:Nat→Rws→Rws):GA :=
 if gridMay c r L=true∧penMayS p=true then some (c.toNat,r.toNat,F c.toNat (rowsS c.toNat r.toNat L)) else none
theorem inRow_box {c r:Nat} {LL:Rws} (h:Box c r LL) {f:List Ce→List Ce} (hf:∀ l,(f l).length=l.length) (y:Int):Box c r (inRowS f y LL):=by
 unfold inRowS
 split
 · rename_i hy
   rw [h.len] at hy
   exact h.set _ (by rw [hf,h.row _ (by omega)])
 · exact h
theorem inRow_ok {c r:Nat} {LL:Rws} (h:Gk c r LL) {f:List Ce→List Ce} (hf:∀ l,(f l).length=l.length) (ho:∀ l,RowOk l→RowOk (f l)) (y:Int):Gk c r (inRowS f y LL):=by
 refine ⟨inRow_box h.box hf y,h.c1,h.c80,h.r1,h.r24,fun z hz=>?_⟩
 unfold inRowS
 split
 · rename_i hy
   rw [lAt_set]
   split
   · exact ho _ (h.ok _ (by rw [h.box.len] at hy;omega))
   · exact h.ok z hz
 · exact h.ok z hz
theorem blanks_len (c:Nat) (p:Pn):(blanksS c p).length=c:=by simp [blanksS]
theorem blanks_ok {c:Nat} {p:Pn} (h1:1≤c) (h2:c≤80) (hp:penMayS p=true):RowOk (blanksS c p):=by
 refine ⟨by rw [blanks_len];exact h1,by rw [blanks_len];exact h2,fun i hi=>?_⟩
 rw [blanks_len] at hi
 have e:cAt (blanksS c p) i=blankS p:=by unfold blanksS;rw [cAt_replicate,if_pos hi]
 exact ⟨by rw [e];exact blank_may hp,fun h=>by rw [e] at h;exact absurd h (by simp [blankS]),fun h=>by rw [e] at h;exact absurd h (by simp [blankS])⟩
theorem pn0_may:penMayS pn0=true:=by decide
theorem clear_ok {c r:Nat} {LL:Rws} (h:Gk c r LL) (a b:Int) {p:Pn} (hp:penMayS p=true):Gk c r (clearS c LL a b p):=by
 have hl:=h.box.len
 unfold clearS
 rw [hl]
 refine ⟨Box.of_map fun y hy=>by rw [eraseS_length,h.box.row y hy],h.c1,h.c80,h.r1,h.r24,fun z hz=>?_⟩
 rw [lAt_map,if_pos hz]
 exact erase_ok (h.ok z hz) _ _ hp
theorem scrollAt_len {c r:Nat} {LL:Rws} (h:Box c r LL) {t b:Int} (n:Int) (p:Pn) (ht:0≤t) (hb:b<r) {y:Nat} (hy:y<r):(scrollAt c LL t b n p y).length=c:=by
 unfold scrollAt
 split
 · split
   · exact h.row _ (by omega)
   · exact blanks_len _ _
 · exact h.row _ hy
theorem scroll_box {c r:Nat} {LL:Rws} (h:Box c r LL) (t b n:Int) (p:Pn):Box c r (scrollS c LL t b n p):=by
 unfold scrollS
 split
 · exact h
 · rename_i hh
   rw [h.len] at hh ⊢
   exact Box.of_map fun y hy=>scrollAt_len h n p (by omega) (by omega) hy
theorem scroll_ok {c r:Nat} {LL:Rws} (h:Gk c r LL) (t b n:Int) {p:Pn} (hp:penMayS p=true):Gk c r (scrollS c LL t b n p):=by
 refine ⟨scroll_box h.box t b n p,h.c1,h.c80,h.r1,h.r24,fun z hz=>?_⟩
 unfold scrollS
 split
 · exact h.ok z hz
 · rename_i hh
   rw [h.box.len] at hh ⊢
   rw [lAt_map,if_pos hz]
   unfold scrollAt
   split
   · split
     · exact h.ok _ (by omega)
     · exact blanks_ok h.c1 h.c80 hp
   · exact h.ok z hz
end Go.Proofs.YtlcipgdnpilkfaaGreatDoor
