/-
  Part 9 of what the laws of emul want: LinksSpec, ParseSpec.
-/
import Derived.Test.YtlcipgdnpilkfaaGreatDoorPo01
import Derived.Test.YtlcipgdnpilkfaaGreatDoorPo03
namespace Go.Proofs.YtlcipgdnpilkfaaGreatDoor
def eT:ByteArray:=ByteArray.empty
def mayT (s:ByteArray):Bool:=decide (1≤s.size) && decide (s.size≤64) && s.data.toList.all fun c=>decide (33≤c.toNat) && decide (c.toNat≤126)
theorem mayT_size {s:ByteArray} (h:mayT s=true):1≤s.size∧s.size≤64:=by
 unfold mayT at h
 simp only [Bool.and_eq_true,decide_eq_true_eq] at h
 exact h.1
theorem eT_not:mayT eT=false:=by decide
theorem mayT_ne {s:ByteArray} (h:mayT s=true):s≠eT:=by
 rintro rfl
 rw [eT_not] at h
 cases h
def sAt (l:List ByteArray) (k:Nat):ByteArray:=l.getD k eT
theorem sAt_lt {l:List ByteArray} {k:Nat} (h:k<l.length):sAt l k=l[k]:=by simp [sAt,List.getD,List.getElem?_eq_getElem h]
theorem sAt_ge {l:List ByteArray} {k:Nat} (h:l.length≤k):sAt l k=eT:=by simp [sAt,List.getD,List.getElem?_eq_none h]
theorem getElem?_sAt {l:List ByteArray} {k:Nat} (h:k<l.length):l[k]?=some (sAt l k):=by rw [sAt_lt h,List.getElem?_eq_getElem h]
theorem sAt_mem {l:List ByteArray} {k:Nat} (h:k<l.length):sAt l k∈l:=by rw [sAt_lt h];exact List.getElem_mem h
theorem mem_sAt {l:List ByteArray} {s:ByteArray} (h:s∈l):∃ k,k<l.length∧sAt l k=s:=by
 obtain ⟨k,hk,e⟩:=List.getElem_of_mem h
 exact ⟨k,hk,by rw [sAt_lt hk,e]⟩
theorem sAt_append_lt {l m:List ByteArray} {k:Nat} (h:k<l.length):sAt (l ++ m) k=sAt l k:=by
 rw [sAt_lt h,sAt_lt (by rw [List.length_append];omega),List.getElem_append_left h]
theorem sAt_append_last (l:List ByteArray) (s:ByteArray):sAt (l ++ [s]) l.length=s:=by
 rw [sAt_lt (by simp)]
 simp
theorem texts_ext {l m:List ByteArray} (h:l.length=m.length) (h':∀ k,k<l.length→sAt l k=sAt m k):l=m:=by
 apply List.ext_getElem h
 intro k h1 h2
 have:=h' k h1
 rwa [sAt_lt h1,sAt_lt h2] at this
def placeI:List ByteArray→ByteArray→Int
 | [],_=>-1
 | a :: l,s=>if a=s then 0 else if placeI l s=-1 then -1 else placeI l s+1
theorem placeI_ge (l:List ByteArray) (s:ByteArray):-1≤placeI l s:=by
 induction l with
 | nil=>exact Int.le_refl _
 | cons a l ih=>unfold placeI;split<;>(try split)<;>omega
theorem placeI_lt (l:List ByteArray) (s:ByteArray):placeI l s<l.length:=by
 induction l with
 | nil=>unfold placeI;decide
 | cons a l ih =>
  unfold placeI
  rw [List.length_cons]
  split<;>(try split)<;>omega
theorem placeI_none {l:List ByteArray} {s:ByteArray}:placeI l s=-1↔s ∉ l:=by
 induction l with
 | nil=>simp [placeI]
 | cons a l ih =>
  have:=placeI_ge l s
  unfold placeI
  by_cases h1:a=s
  · rw [if_pos h1];simp [h1]
  · rw [if_neg h1]
    by_cases h2:placeI l s=-1
    · rw [if_pos h2];simp only [true_iff,List.mem_cons,not_or];exact ⟨fun e=>h1 e.symm,ih.1 h2⟩
    · rw [if_neg h2]
      have h4:s∈l:=Classical.byContradiction fun h3=>h2 (ih.2 h3)
      constructor
      · intro h3;omega
      · intro h3;exact absurd (List.mem_cons_of_mem _ h4) h3
theorem placeI_hit {l:List ByteArray} {s:ByteArray} {k:Nat} (hk:k<l.length) (h:sAt l k=s) (hno:s ∉ l.take k):placeI l s=k:=by
 induction l generalizing k with
 | nil=>simp at hk
 | cons a l ih =>
  cases k with
  | zero =>
   have:a=s:=h
   unfold placeI
   rw [if_pos this]
   rfl
  | succ k =>
   simp only [List.take_succ_cons,List.mem_cons,not_or] at hno
   have e:=ih (k:=k) (by simpa using hk) h hno.2
   unfold placeI
   rw [if_neg (fun x=>hno.1 x.symm),e,if_neg (by omega)]
   omega
theorem placeI_mem {l:List ByteArray} {s:ByteArray} (h:s∈l):∃ k,k<l.length∧placeI l s=(k:Int)∧sAt l k=s∧s ∉ l.take k:=by
 induction l with
 | nil=>cases h
 | cons a l ih =>
  by_cases h1:a=s
  · exact ⟨0,by simp,by unfold placeI;rw [if_pos h1];rfl,h1,by simp⟩
  · have h2:s∈l:=by
     rcases List.mem_cons.1 h with h3 | h3
     · exact absurd h3.symm h1
     · exact h3
    obtain ⟨k,hk,e,e1,e2⟩:=ih h2
    refine ⟨k+1,by simpa using hk,?_,e1,?_⟩
    · unfold placeI;rw [if_neg h1,e,if_neg (by omega)];omega
    · rw [List.take_succ_cons,List.mem_cons,not_or];exact ⟨fun x=>h1 x.symm,e2⟩
theorem placeI_append {l m:List ByteArray} {s:ByteArray} (h:s∈l):placeI (l ++ m) s=placeI l s:=by
 obtain ⟨k,hk,e,e1,e2⟩:=placeI_mem h
 rw [e]
 exact placeI_hit (by rw [List.length_append];omega) (by rw [sAt_append_lt hk,e1]) (by rw [List.take_append_of_le_length (by omega)];exact e2)
theorem placeI_last {l:List ByteArray} {s:ByteArray} (h:s ∉ l):placeI (l ++ [s]) s=l.length :=
 placeI_hit (by simp) (sAt_append_last _ _) (by rw [List.take_append_of_le_length (Nat.le_refl _),List.take_length];exact h)
theorem take_snocT {l:List ByteArray} {k:Nat} (h:k<l.length):l.take (k+1)=l.take k ++ [sAt l k]:=by
 rw [List.take_add_one,getElem?_sAt h]
 rfl
theorem mem_take_snoc {l:List ByteArray} {k:Nat} {s:ByteArray} (h:k<l.length):s∈l.take (k+1)↔s∈l.take k∨sAt l k=s:=by
 rw [take_snocT h,List.mem_append,List.mem_singleton]
 exact or_congr Iff.rfl eq_comm
def internS (t:List ByteArray) (u:ByteArray):List ByteArray × Int × Int :=
 if mayT u=false then ([],0,3)
 else if placeI t u≠-1 then (t,placeI t u+1,0)
 else if placeI t eT≠-1 then (t.set (placeI t eT).toNat u,placeI t eT+1,0)
 else if t.length<16 then (t ++ [u],t.length+1,0)
 else ([],0,11)
def lastN:List ByteArray→Nat
 | []=>0
 | a :: l=>if lastN l=0 then (if a=eT then 0 else 1) else lastN l+1
theorem lastN_is {l:List ByteArray} {m:Nat} (h1:m≤l.length) (h2:0<m→sAt l (m-1)≠eT) (h3:∀ j,m≤j→sAt l j=eT):lastN l=m:=by
 induction l generalizing m with
 | nil=>simp at h1;subst h1;rfl
 | cons a l ih =>
  cases m with
  | zero =>
   have e:lastN l=0:=ih (m:=0) (Nat.zero_le _) (fun h=>absurd h (by omega)) fun j _=>h3 (j+1) (by omega)
   have e1:a=eT:=h3 0 (Nat.le_refl _)
   unfold lastN
   rw [if_pos e,if_pos e1]
  | succ m =>
   have e:lastN l=m:=ih (m:=m) (by simpa using h1) (fun h=>by
    have:=h2 (by omega)
    obtain ⟨k,rfl⟩:∃ k,m=k+1:=⟨m-1,by omega⟩
    exact this) fun j hj=>h3 (j+1) (by omega)
   unfold lastN
   rw [e]
   by_cases h0:m=0
   · rw [if_pos h0]
     subst h0
     rw [if_neg (show ¬ a=eT from h2 (by omega))]
   · rw [if_neg h0]
def sweepM (t:List ByteArray) (used:List Int):List ByteArray:=(List.range t.length).map fun (i:Nat)=>if ((i:Int)+1)∈used then sAt t i else eT
def sweepS (t:List ByteArray) (used:List Int):List ByteArray:=(sweepM t used).take (lastN (sweepM t used))
theorem sweepM_len (t:List ByteArray) (used:List Int):(sweepM t used).length=t.length:=by simp [sweepM]
theorem sweepM_at {t:List ByteArray} {used:List Int} {i:Nat} (h:i<t.length):sAt (sweepM t used) i=if ((i:Int)+1)∈used then sAt t i else eT:=by
 rw [sAt_lt (by rw [sweepM_len];exact h)]
 simp [sweepM]
theorem lastN_le (l:List ByteArray):lastN l≤l.length:=by
 induction l with
 | nil=>exact Nat.le_refl _
 | cons a l ih=>unfold lastN;rw [List.length_cons];split<;>(try split)<;>omega
theorem sweepS_len (t:List ByteArray) (used:List Int):(sweepS t used).length≤t.length:=by
 unfold sweepS
 rw [List.length_take,sweepM_len]
 omega
def textI (t:List ByteArray) (n:Int):ByteArray:=if n<1∨(t.length:Int)<n then eT else sAt t (n.toNat-1)
def leadsS (t:List ByteArray) (n:Int):ByteArray:=if mayT (textI t n)=true then textI t n else eT
theorem leads_may {t:List ByteArray} {n:Int} (h:leadsS t n≠eT):mayT (leadsS t n)=true:=by
 unfold leadsS at h ⊢
 split at h
 · rename_i h1;rw [if_pos h1];exact h1
 · exact absurd rfl h
theorem leads_mem {t:List ByteArray} {n:Int} (h:leadsS t n≠eT):leadsS t n∈t:=by
 unfold leadsS textI at *
 by_cases h1:n<1∨(t.length:Int)<n
 · rw [if_pos h1] at h;exact absurd (by rw [eT_not];rfl) h
 · rw [if_neg h1] at h ⊢
   split at h
   · rename_i h2
     rw [if_pos h2]
     exact sAt_mem (by omega)
   · exact absurd rfl h
def addT (l:List ByteArray) (s:ByteArray):List ByteArray:=if s=eT∨placeI l s≠-1 then l else l ++ [s]
theorem mem_place {l:List ByteArray} {s:ByteArray}:placeI l s≠-1↔s∈l:=by rw [Ne,placeI_none,Classical.not_not]
def seqT (cs:List Ce) (t:List ByteArray):List ByteArray:=cs.map fun c=>leadsS t c.p.lk
def canonL (cs:List Ce) (t:List ByteArray):List ByteArray:=(seqT cs t).foldl addT []
def numI (l:List ByteArray) (s:ByteArray):Int:=if s=eT then 0 else placeI l s+1
def setLk (c:Ce) (n:Int):Ce:=⟨c.r,c.wd,⟨c.p.fg,c.p.bg,c.p.st,n⟩⟩
def canonC (cs:List Ce) (t:List ByteArray):List Ce:=cs.map fun c=>setLk c (numI (canonL cs t) (leadsS t c.p.lk))
def ordS (cs:List Ce) (l:List ByteArray):Bool:=decide (l.length≤16) && decide (canonC cs l=cs) && decide (canonL cs l=l)
theorem canonC_len (cs:List Ce) (t:List ByteArray):(canonC cs t).length=cs.length:=by simp [canonC]
theorem addT_cases (l:List ByteArray) (s:ByteArray):((s=eT∨s∈l)∧addT l s=l)∨((s≠eT∧s ∉ l)∧addT l s=l ++ [s]):=by
 unfold addT
 by_cases h:s=eT∨placeI l s≠-1
 · rw [if_pos h]
   exact Or.inl ⟨h.imp id mem_place.1,rfl⟩
 · rw [if_neg h]
   exact Or.inr ⟨⟨fun e=>h (Or.inl e),fun e=>h (Or.inr (mem_place.2 e))⟩,rfl⟩
theorem addT_old {l:List ByteArray} {s:ByteArray} (h:s=eT∨s∈l):addT l s=l:=by
 rcases addT_cases l s with ⟨_,e⟩ | ⟨⟨h1,h2⟩,_⟩
 · exact e
 · exact absurd h (by rintro (x | x);exact h1 x;exact h2 x)
theorem addT_new {l:List ByteArray} {s:ByteArray} (h:s≠eT) (h':s ∉ l):addT l s=l ++ [s]:=by
 rcases addT_cases l s with ⟨h1,_⟩ | ⟨_,e⟩
 · exact absurd h1 (by rintro (x | x);exact h x;exact h' x)
 · exact e
theorem addT_pre (l:List ByteArray) (s:ByteArray):∃ m,addT l s=l ++ m:=by
 rcases addT_cases l s with ⟨_,e⟩ | ⟨_,e⟩
 · exact ⟨[],by rw [e,List.append_nil]⟩
 · exact ⟨_,e⟩
theorem fold_pre (q l:List ByteArray):∃ m,q.foldl addT l=l ++ m:=by
 induction q generalizing l with
 | nil=>exact ⟨[],by simp⟩
 | cons s q ih =>
  obtain ⟨m,e⟩:=addT_pre l s
  obtain ⟨m',e'⟩:=ih (addT l s)
  exact ⟨m ++ m',by rw [List.foldl_cons,e',e,List.append_assoc]⟩
theorem fold_mem {q l:List ByteArray} {s:ByteArray} (h:s∈q.foldl addT l):s∈l∨(s∈q∧s≠eT):=by
 induction q generalizing l with
 | nil=>exact Or.inl h
 | cons a q ih =>
  rcases ih h with h1 | h1
  · rcases addT_cases l a with ⟨_,e⟩ | ⟨h2,e⟩<;>rw [e] at h1
    · exact Or.inl h1
    · rcases List.mem_append.1 h1 with h3 | h3
      · exact Or.inl h3
      · rw [List.mem_singleton.1 h3]
        exact Or.inr ⟨by simp,h2.1⟩
  · exact Or.inr ⟨List.mem_cons_of_mem _ h1.1,h1.2⟩
theorem fold_has {q l:List ByteArray} {s:ByteArray} (h:s∈q) (h':s≠eT):s∈q.foldl addT l:=by
 induction q generalizing l with
 | nil=>cases h
 | cons a q ih =>
  rcases List.mem_cons.1 h with rfl | h1
  · rw [List.foldl_cons]
    obtain ⟨m,e⟩:=fold_pre q (addT l s)
    rw [e]
    refine List.mem_append_left _ ?_
    rcases addT_cases l s with ⟨h2,e⟩ | ⟨_,e⟩<;>rw [e]
    · exact h2.resolve_left h'
    · simp
  · exact ih h1
theorem fold_nodup {q l:List ByteArray} (h:l.Nodup):(q.foldl addT l).Nodup:=by
 induction q generalizing l with
 | nil=>exact h
 | cons a q ih =>
  refine ih ?_
  rcases addT_cases l a with ⟨_,e⟩ | ⟨h2,e⟩<;>rw [e]
  · exact h
  · rw [List.nodup_append]
    refine ⟨h,by simp,fun x hx y hy e=>h2.2 ?_⟩
    rw [← List.mem_singleton.1 hy,← e]
    exact hx
theorem canonL_mem {cs:List Ce} {t:List ByteArray} {s:ByteArray}:s∈canonL cs t↔s∈seqT cs t∧s≠eT :=
 ⟨fun h=>(fold_mem h).resolve_left (by simp),fun h=>fold_has h.1 h.2⟩
theorem canonL_nodup (cs:List Ce) (t:List ByteArray):(canonL cs t).Nodup:=fold_nodup List.nodup_nil
theorem canonL_may {cs:List Ce} {t:List ByteArray} {s:ByteArray} (h:s∈canonL cs t):mayT s=true∧s∈t:=by
 obtain ⟨h1,h2⟩:=canonL_mem.1 h
 obtain ⟨c,_,rfl⟩:=List.mem_map.1 h1
 exact ⟨leads_may h2,leads_mem h2⟩
theorem nodup_le {a:List ByteArray} (h:a.Nodup):∀ {b:List ByteArray},(∀ s∈a,s∈b)→a.length≤b.length:=by
 induction a with
 | nil=>intro b _;exact Nat.zero_le _
 | cons x a ih =>
  intro b hs
  rw [List.nodup_cons] at h
  have hx:=hs x (by simp)
  have h1:=ih h.2 (b:=b.filter fun y=>decide (y≠x)) fun s hsa=>by
   refine List.mem_filter.2 ⟨hs s (List.mem_cons_of_mem _ hsa),?_⟩
   simp only [decide_eq_true_eq]
   rintro rfl
   exact h.1 hsa
  have h2:(b.filter fun y=>decide (y≠x)).length<b.length:=List.length_filter_lt_length_iff_exists.2 ⟨x,hx,by simp⟩
  rw [List.length_cons]
  omega
theorem canonL_le (cs:List Ce) (t:List ByteArray):(canonL cs t).length≤t.length:=nodup_le (canonL_nodup cs t) fun _ h=>(canonL_may h).2
theorem leads_num {l:List ByteArray} {s:ByteArray} (h:s=eT∨(s∈l∧mayT s=true)):textI l (numI l s)=s∧leadsS l (numI l s)=s:=by
 have key:textI l (numI l s)=s:=by
  unfold numI textI
  by_cases h0:s=eT
  · rw [if_pos h0,if_pos (Or.inl (by decide)),h0]
  · obtain ⟨k,hk,e,e1,_⟩:=placeI_mem (h.resolve_left h0).1
    rw [if_neg h0,e,if_neg (by omega),show ((k:Int)+1).toNat-1=k by omega,e1]
 refine ⟨key,?_⟩
 unfold leadsS
 rw [key]
 rcases h with rfl | ⟨_,h⟩
 · rw [eT_not];rfl
 · rw [if_pos h]
theorem seq_leads {cs:List Ce} {t:List ByteArray} {c:Ce} (h:c∈cs):leadsS t c.p.lk=eT∨(leadsS t c.p.lk∈canonL cs t∧mayT (leadsS t c.p.lk)=true):=by
 by_cases h0:leadsS t c.p.lk=eT
 · exact Or.inl h0
 · exact Or.inr ⟨canonL_mem.2 ⟨List.mem_map.2 ⟨c,h,rfl⟩,h0⟩,leads_may h0⟩
theorem seq_again (cs:List Ce) (t:List ByteArray):seqT (canonC cs t) (canonL cs t)=seqT cs t:=by
 unfold seqT canonC
 rw [List.map_map]
 refine List.map_congr_left fun c hc=>?_
 exact (leads_num (seq_leads hc)).2
theorem canonL_again (cs:List Ce) (t:List ByteArray):canonL (canonC cs t) (canonL cs t)=canonL cs t:=by
 show (seqT (canonC cs t) (canonL cs t)).foldl addT []=_
 rw [seq_again]
 rfl
theorem canonC_again (cs:List Ce) (t:List ByteArray):canonC (canonC cs t) (canonL cs t)=canonC cs t:=by
 show (canonC cs t).map (fun c=>setLk c (numI (canonL (canonC cs t) (canonL cs t)) (leadsS (canonL cs t) c.p.lk)))=_
 rw [canonL_again]
 show (cs.map fun c=>setLk c (numI (canonL cs t) (leadsS t c.p.lk))).map _=_
 rw [List.map_map]
 refine List.map_congr_left fun c hc=>?_
 show setLk (setLk c _) (numI _ (leadsS _ (numI (canonL cs t) (leadsS t c.p.lk))))=_
 rw [(leads_num (seq_leads hc)).2]
 rfl
theorem ord_again {cs:List Ce} {t:List ByteArray} (h:t.length≤16):ordS (canonC cs t) (canonL cs t)=true:=by
 unfold ordS
 rw [canonL_again,canonC_again]
 have:=canonL_le cs t
 simp
 omega
def comeS:Nat→List Ce→Option Nat
 | m,[]=>some m
 | m,c :: cs=>if (m:Int)+1<c.p.lk then none else comeS (max m c.p.lk.toNat) cs
theorem comeS_snoc (m:Nat) (cs:List Ce) (c:Ce):comeS m (cs ++ [c])=(comeS m cs).bind fun k=>if (k:Int)+1<c.p.lk then none else some (max k c.p.lk.toNat):=by
 induction cs generalizing m with
 | nil=>rfl
 | cons a cs ih =>
  rw [List.cons_append,comeS,comeS]
  split
  · rfl
  · exact ih _
def ordC (cs:List Ce) (l:List ByteArray):Bool:=decide (l.length≤16) && decide (∀ s∈l,mayT s=true) && decide l.Nodup && decide (comeS 0 cs=some l.length)
theorem nodup_at {l:List ByteArray} (h:l.Nodup) {i j:Nat} (hi:i<l.length) (hj:j<l.length) (e:sAt l i=sAt l j):i=j:=by
 rw [sAt_lt hi,sAt_lt hj] at e
 have hp:=List.pairwise_iff_getElem.1 h
 rcases Nat.lt_trichotomy i j with h1 | h1 | h1
 · exact absurd e (hp i j hi hj h1)
 · exact h1
 · exact absurd e.symm (hp j i hj hi h1)
theorem place_nodup {l:List ByteArray} (h:l.Nodup) {k:Nat} (hk:k<l.length):placeI l (sAt l k)=k:=by
 obtain ⟨j,hj,e,e1,_⟩:=placeI_mem (sAt_mem hk)
 rw [e,nodup_at h hj hk e1]
theorem leads_in {l:List ByteArray} (hm:∀ s∈l,mayT s=true) {n:Int} (h0:1≤n) (h1:n≤l.length):leadsS l n=sAt l (n.toNat-1)∧sAt l (n.toNat-1)≠eT:=by
 have hx:=hm _ (sAt_mem (l:=l) (k:=n.toNat-1) (by omega))
 have e:textI l n=sAt l (n.toNat-1):=by unfold textI;rw [if_neg (by omega)]
 refine ⟨?_,mayT_ne hx⟩
 unfold leadsS
 rw [e,if_pos hx]
theorem leads_out {l:List ByteArray} {n:Int} (h:n<1∨(l.length:Int)<n):leadsS l n=eT:=by
 unfold leadsS textI
 rw [if_pos h,eT_not]
 rfl
theorem not_in_take {l:List ByteArray} (h:l.Nodup) {m:Nat} (hm:m<l.length):sAt l m ∉ l.take m:=by
 intro hx
 obtain ⟨j,hj,e⟩:=mem_sAt hx
 rw [List.length_take] at hj
 have e1:sAt (l.take m) j=sAt l j:=by
  rw [sAt_lt (by rw [List.length_take];exact hj),sAt_lt (by omega),List.getElem_take]
 rw [e1] at e
 have:=nodup_at h (by omega) hm e
 omega
theorem in_take {l:List ByteArray} {k m:Nat} (hk:k<m) (hl:k<l.length):sAt l k∈l.take m:=by
 have e:sAt (l.take m) k=sAt l k:=by
  rw [sAt_lt (by rw [List.length_take];omega),sAt_lt hl,List.getElem_take]
 rw [← e]
 exact sAt_mem (by rw [List.length_take];omega)
theorem come_fold {l:List ByteArray} (hm:∀ s∈l,mayT s=true) (hd:l.Nodup) (cs:List Ce):∀ m,m≤l.length→(∀ c∈cs,0≤c.p.lk∧c.p.lk≤l.length) →
  (∀ k,comeS m cs=some k→k≤l.length∧(seqT cs l).foldl addT (l.take m)=l.take k):=by
 induction cs with
 | nil=>intro m hml _ k h;injection h with h;subst h;exact ⟨hml,rfl⟩
 | cons c cs ih =>
  intro m hml hc k h
  have hc1:=hc c (by simp)
  unfold comeS at h
  split at h
  · cases h
  · rename_i h1
    have h2:max m c.p.lk.toNat≤l.length:=by omega
    obtain ⟨e1,e2⟩:=ih _ h2 (fun x hx=>hc x (by simp [hx])) k h
    refine ⟨e1,?_⟩
    rw [← e2]
    show (seqT cs l).foldl addT (addT (l.take m) (leadsS l c.p.lk))=_
    congr 1
    by_cases hz:c.p.lk<1
    · rw [leads_out (Or.inl hz),addT_old (Or.inl rfl),show max m c.p.lk.toNat=m by omega]
    · obtain ⟨f1,f2⟩:=leads_in hm (n:=c.p.lk) (by omega) hc1.2
      rw [f1]
      by_cases hlt:c.p.lk.toNat-1<m
      · rw [addT_old (Or.inr (in_take hlt (by omega))),show max m c.p.lk.toNat=m by omega]
      · have e:c.p.lk.toNat-1=m:=by omega
        rw [e] at f2 ⊢
        rw [addT_new f2 (not_in_take hd (by omega)),show max m c.p.lk.toNat=m+1 by omega,take_snocT (by omega)]
theorem come_le (cs:List Ce):∀ m k,comeS m cs=some k→m≤k∧∀ c∈cs,c.p.lk≤k:=by
 induction cs with
 | nil=>intro m k h;injection h with h;subst h;exact ⟨Nat.le_refl _,fun c hc=>by cases hc⟩
 | cons c cs ih =>
  intro m k h
  unfold comeS at h
  split at h
  · cases h
  · obtain ⟨h1,h2⟩:=ih _ _ h
    refine ⟨by omega,fun x hx=>?_⟩
    rcases List.mem_cons.1 hx with rfl | hx
    · omega
    · exact h2 x hx
theorem fold_come {l:List ByteArray} (hm:∀ s∈l,mayT s=true) (hd:l.Nodup) (cs:List Ce):∀ m,m≤l.length→(∀ c∈cs,0≤c.p.lk∧c.p.lk≤l.length) →
  (∃ x,l=(seqT cs l).foldl addT (l.take m) ++ x)→∃ k,comeS m cs=some k∧k≤l.length∧(seqT cs l).foldl addT (l.take m)=l.take k:=by
 induction cs with
 | nil=>intro m hml _ _;exact ⟨m,rfl,hml,rfl⟩
 | cons c cs ih =>
  rintro m hml hc ⟨x,hx⟩
  have hc1:=hc c (by simp)
  have hx1:l=(seqT cs l).foldl addT (addT (l.take m) (leadsS l c.p.lk)) ++ x:=hx
  have hstep:∀ m',addT (l.take m) (leadsS l c.p.lk)=l.take m'→m'≤l.length→max m c.p.lk.toNat=m'→¬ (m:Int)+1<c.p.lk→∃ k,comeS m (c :: cs)=some k∧k≤l.length∧(seqT (c :: cs) l).foldl addT (l.take m)=l.take k:=by
   intro m' e1 e2 e3 e4
   rw [e1] at hx1
   obtain ⟨k,f1,f2,f3⟩:=ih m' e2 (fun x hx=>hc x (by simp [hx])) ⟨x,hx1⟩
   refine ⟨k,?_,f2,?_⟩
   · rw [comeS,if_neg e4,e3];exact f1
   · show (seqT cs l).foldl addT (addT (l.take m) (leadsS l c.p.lk))=_
     rw [e1];exact f3
  by_cases hz:c.p.lk<1
  · exact hstep m (by rw [leads_out (Or.inl hz),addT_old (Or.inl rfl)]) hml (by omega) (by omega)
  · obtain ⟨f1,f2⟩:=leads_in hm (n:=c.p.lk) (by omega) hc1.2
    by_cases hlt:c.p.lk.toNat-1<m
    · exact hstep m (by rw [f1,addT_old (Or.inr (in_take hlt (by omega)))]) hml (by omega) (by omega)
    · -- a new text: it is the next of the list
      have hno:leadsS l c.p.lk ∉ l.take m:=by
       rw [f1]
       intro hin
       obtain ⟨j,hj,e⟩:=mem_sAt hin
       rw [List.length_take] at hj
       have e1:sAt (l.take m) j=sAt l j:=by
        rw [sAt_lt (by rw [List.length_take];exact hj),sAt_lt (by omega),List.getElem_take]
       rw [e1] at e
       have:=nodup_at hd (by omega) (by omega) e
       omega
      have hne:leadsS l c.p.lk≠eT:=by rw [f1];exact f2
      have e2:=addT_new hne hno
      rw [e2] at hx1
      obtain ⟨y,hy⟩:=fold_pre (seqT cs l) (l.take m ++ [leadsS l c.p.lk])
      rw [hy] at hx1
      have hlen:m<l.length:=by
       have:=congrArg List.length hx1
       simp only [List.length_append,List.length_take,List.length_cons,List.length_nil] at this
       omega
      have hat:sAt l m=leadsS l c.p.lk:=by
       have e3:(l.take m).length=m:=by rw [List.length_take];omega
       have e5:=sAt_append_last (l.take m) (leadsS l c.p.lk)
       rw [e3] at e5
       have e6:sAt (l.take m ++ [leadsS l c.p.lk] ++ y ++ x) m=leadsS l c.p.lk:=by
        rw [List.append_assoc (l.take m ++ [leadsS l c.p.lk]),sAt_append_lt (by rw [List.length_append,e3,List.length_cons];omega),e5]
       exact (congrArg (fun z=>sAt z m) hx1).trans e6
      rw [f1] at hat
      have e4:=nodup_at hd hlen (by omega) hat
      refine hstep (m+1) ?_ (by omega) (by omega) (by omega)
      rw [e2,take_snocT hlen,f1,hat]
theorem setLk_self (c:Ce):setLk c c.p.lk=c:=rfl
theorem ord_is {cs:List Ce} {l:List ByteArray} (h0:∀ c∈cs,0≤c.p.lk):ordC cs l=ordS cs l:=by
 rw [Bool.eq_iff_iff]
 unfold ordC ordS
 simp only [Bool.and_eq_true,decide_eq_true_eq]
 constructor
 · rintro ⟨⟨⟨h1,hm⟩,hd⟩,hc⟩
   obtain ⟨_,hle⟩:=come_le cs 0 _ hc
   have hb:∀ c∈cs,0≤c.p.lk∧c.p.lk≤l.length:=fun c hx=>⟨h0 c hx,hle c hx⟩
   obtain ⟨_,hf⟩:=come_fold hm hd cs 0 (Nat.zero_le _) hb _ hc
   have hL:canonL cs l=l:=by
    have e:canonL cs l=l.take l.length:=hf
    rw [e,List.take_length]
   refine ⟨⟨h1,?_⟩,hL⟩
   unfold canonC
   rw [hL]
   conv=>rhs;rw [← List.map_id cs]
   refine List.map_congr_left fun c hx=>?_
   have hcb:=hb c hx
   show setLk c _=c
   have e:numI l (leadsS l c.p.lk)=c.p.lk:=by
    by_cases hz:c.p.lk<1
    · rw [leads_out (Or.inl hz)];unfold numI;rw [if_pos rfl];omega
    · obtain ⟨f1,f2⟩:=leads_in hm (n:=c.p.lk) (by omega) hcb.2
      unfold numI
      rw [f1,if_neg f2,place_nodup hd (by omega)]
      omega
   rw [e,setLk_self]
 · rintro ⟨⟨h1,hC⟩,hL⟩
   have hm:∀ s∈l,mayT s=true:=fun s hs=>(canonL_may (cs:=cs) (t:=l) (by rw [hL];exact hs)).1
   have hd:l.Nodup:=by rw [← hL];exact canonL_nodup cs l
   have hb:∀ c∈cs,0≤c.p.lk∧c.p.lk≤l.length:=fun c hx=>by
    refine ⟨h0 c hx,?_⟩
    obtain ⟨i,hi,e⟩:=List.getElem_of_mem hx
    have e1:(canonC cs l)[i]?=cs[i]?:=by rw [hC]
    unfold canonC at e1
    rw [List.getElem?_map,List.getElem?_eq_getElem hi,Option.map_some,e,hL] at e1
    injection e1 with e1
    have e2:numI l (leadsS l c.p.lk)=c.p.lk:=by
     have:=congrArg (fun x:Ce=>x.p.lk) e1
     exact this
    rw [← e2]
    unfold numI
    split
    · omega
    · have:=placeI_lt l (leadsS l c.p.lk);omega
   obtain ⟨k,e1,e2,e3⟩:=fold_come hm hd cs 0 (Nat.zero_le _) hb ⟨[],by
    have:canonL cs l=l:=hL
    rw [List.append_nil]
    exact this.symm⟩
   refine ⟨⟨⟨h1,hm⟩,hd⟩,?_⟩
   have e4:l=l.take k:=hL.symm.trans e3
   have e5:=congrArg List.length e4
   rw [List.length_take] at e5
   rw [e1,show k=l.length by omega]
structure AcS where
 k:Int
 r:Int
 m:Int
 fin:Int
 ps:List Int
 tx:List Int
deriving DecidableEq
def acPrint (r:Int):AcS:=⟨1,r,0,0,[],[]⟩
def acC0 (b:Int):AcS:=⟨2,0,0,b,[],[]⟩
def acEsc (m b:Int):AcS:=⟨3,0,m,b,[],[]⟩
def acCsi (m b:Int) (ps:List Int):AcS:=⟨4,0,m,b,ps,[]⟩
def acOsc (t:List Int):AcS:=⟨5,0,0,0,[],t⟩
structure PaS where
 st:Nat
 m:Int
 ps:List Int
 tx:List Int
 dec:List Int
deriving DecidableEq
def pa0:PaS:=⟨0,0,[],[],[]⟩
def paIn (st:Nat):PaS:=⟨st,0,[],[],[]⟩
def prS (l:List Int):List AcS:=l.map acPrint
def groundP (dec:List Int) (b:Int):List AcS × PaS :=
 if b<32 then (prS (endS dec) ++ [acC0 b],pa0) else if b=127 then (prS (endS dec),pa0) else (prS (feedS dec b).1,⟨0,0,[],[],(feedS dec b).2⟩)
def escP (s:PaS) (b:Int):List AcS × PaS :=
 if b<48 then (if s.m=0 then ([],⟨1,b,[],[],[]⟩) else ([],paIn 2))
 else if s.m=0∧b=91 then ([],paIn 3)
 else if s.m=0∧b=93 then ([],paIn 5)
 else if s.m=0∧(b=80∨b=88∨b=94∨b=95) then ([],paIn 6)
 else ([acEsc s.m b],pa0)
def digP (ps:List Int) (d:Int):List Int:=if ps=[] then [min d 9999] else ps.dropLast ++ [min (ps.getLastD 0*10+d) 9999]
def semiP (ps:List Int):List Int:=if ps=[] then [0,0] else ps ++ [0]
def ctlP (s:PaS) (b:Int):List AcS × PaS :=
 if 64≤b then ([acCsi s.m b (s.ps.take 16)],pa0)
 else if 32≤s.m∧s.m<48 then ([],paIn 4)
 else if b<48 then (if s.m=0 then ([],⟨3,b,s.ps,[],[]⟩) else ([],paIn 4))
 else if b≤57 then ([],⟨3,s.m,digP s.ps (b-48),[],[]⟩)
 else if b≤59 then ([],⟨3,s.m,semiP s.ps,[],[]⟩)
 else if s.m=0∧s.ps=[] then ([],⟨3,b,[],[],[]⟩) else ([],paIn 4)
def feedP (s:PaS) (b:Int):List AcS × PaS :=
 if s.st=0∧b≠27 then groundP s.dec b
 else if b=24∨b=26 then ([],pa0)
 else if b=27 then (prS (endS s.dec) ++ (if s.st=5∧s.tx.length≤256 then [acOsc s.tx] else []),paIn 1)
 else if s.st=5 then (if b=7 then ((if s.tx.length≤256 then [acOsc s.tx] else []),pa0) else if b<32 then ([],s) else ([],⟨5,0,[],s.tx ++ [b],[]⟩))
 else if s.st=6 then ([],s)
 else if b<32 then ([acC0 b],s)
 else if b=127 then ([],s)
 else if 128≤b then groundP [] b
 else if s.st=1 then escP s b
 else if s.st=2 then (if 48≤b then ([],pa0) else ([],s))
 else if s.st=4 then (if 64≤b then ([],pa0) else ([],s))
 else ctlP s b
def runP:PaS→List Int→List AcS × PaS
 | s,[]=>([],s)
 | s,b :: t=>((feedP s b).1 ++ (runP (feedP s b).2 t).1,(runP (feedP s b).2 t).2)
def actsP (l:List Int):List AcS:=(runP pa0 l).1
theorem runP_append (s:PaS) (x y:List Int):runP s (x ++ y)=((runP s x).1 ++ (runP (runP s x).2 y).1,(runP (runP s x).2 y).2):=by
 induction x generalizing s with
 | nil=>simp [runP]
 | cons b x ih=>simp only [List.cons_append,runP,ih,List.append_assoc]
theorem runP_snoc (s:PaS) (x:List Int) (b:Int):runP s (x ++ [b])=((runP s x).1 ++ (feedP (runP s x).2 b).1,(feedP (runP s x).2 b).2):=by
 rw [runP_append]
 simp [runP]
/-! ### Behind 24 -/
theorem feed24 (s:PaS):(feedP s 24).2=pa0:=by
 unfold feedP
 by_cases h:s.st=0
 · rw [if_pos ⟨h,by decide⟩]
   rfl
 · rw [if_neg (fun x=>h x.1),if_pos (Or.inl rfl)]
/-! ### Bounds -/
def psOk (l:List Int):Prop:=∀ z∈l,0≤z∧z≤9999
theorem nil_ok:psOk []:=fun z hz=>by cases hz
end Go.Proofs.YtlcipgdnpilkfaaGreatDoor
