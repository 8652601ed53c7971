/-
  Part 6 of what the laws of emul want: LinksSpec, ParseSpec, EmulSpec, EmulPure, EmulOk, ColorSpec, ProjSpec, UtfDec, EmulTitleS, Ints, IntsApp.
-/
import Derived.Laws.BitsAllLaws
import Derived.Lib.TrimUEq
import Derived.Laws.Cover4
import Derived.Laws.AppendOwnNone
import Derived.Test.YtikhknnhmnopbaaGreatDoorPm01
import Derived.Test.YtikhknnhmnopbaaGreatDoorPm02
import Derived.Test.YtikhknnhmnopbaaGreatDoorPm05
namespace Go.Proofs.YtikhknnhmnopbaaGreatDoor
def eT:ByteArray:=ByteArray.empty
def mayT (s:ByteArray):Bool:=decide (1≤s.size) && decide (s.size≤64) && s.data.toList.all fun c=>decide (33≤c.toNat) && decide (c.toNat≤126)
theorem mayT_size {s:ByteArray} (h:mayT s=true):1≤s.size∧s.size≤64:=by
 unfold mayT at h
 simp only [Bool.and_eq_true,decide_eq_true_eq] at h
 exact h.1
theorem eT_not:mayT eT=false:=by decide
theorem mayT_ne {s:ByteArray} (h:mayT s=true):s≠eT:=by
 rintro rfl
 rw [eT_not] at h
 cases h
def sAt (l:List ByteArray) (k:Nat):ByteArray:=l.getD k eT
theorem sAt_lt {l:List ByteArray} {k:Nat} (h:k<l.length):sAt l k=l[k]:=by simp [sAt,List.getD,List.getElem?_eq_getElem h]
theorem getElem?_sAt {l:List ByteArray} {k:Nat} (h:k<l.length):l[k]?=some (sAt l k):=by rw [sAt_lt h,List.getElem?_eq_getElem h]
theorem sAt_mem {l:List ByteArray} {k:Nat} (h:k<l.length):sAt l k∈l:=by rw [sAt_lt h];exact List.getElem_mem h
theorem mem_sAt {l:List ByteArray} {s:ByteArray} (h:s∈l):∃ k,k<l.length∧sAt l k=s:=by
 obtain ⟨k,hk,e⟩:=List.getElem_of_mem h
 exact ⟨k,hk,by rw [sAt_lt hk,e]⟩
theorem sAt_append_lt {l m:List ByteArray} {k:Nat} (h:k<l.length):sAt (l ++ m) k=sAt l k:=by
 rw [sAt_lt h,sAt_lt (by rw [List.length_append];omega),List.getElem_append_left h]
theorem sAt_append_last (l:List ByteArray) (s:ByteArray):sAt (l ++ [s]) l.length=s:=by
 rw [sAt_lt (by simp)]
 simp
def placeI:List ByteArray→ByteArray→Int
 | [],_=>-1
 | a :: l,s=>if a=s then 0 else if placeI l s=-1 then -1 else placeI l s+1
theorem placeI_ge (l:List ByteArray) (s:ByteArray):-1≤placeI l s:=by
 induction l with
 | nil=>exact Int.le_refl _
 | cons a l ih=>unfold placeI;split<;>(try split)<;>omega
theorem placeI_lt (l:List ByteArray) (s:ByteArray):placeI l s<l.length:=by
 induction l with
 | nil=>unfold placeI;decide
 | cons a l ih =>
  unfold placeI
  rw [List.length_cons]
  split<;>(try split)<;>omega
theorem placeI_none {l:List ByteArray} {s:ByteArray}:placeI l s=-1↔s ∉ l:=by
 induction l with
 | nil=>simp [placeI]
 | cons a l ih =>
  have:=placeI_ge l s
  unfold placeI
  by_cases h1:a=s
  · rw [if_pos h1];simp [h1]
  · rw [if_neg h1]
    by_cases h2:placeI l s=-1
    · rw [if_pos h2];simp only [true_iff,List.mem_cons,not_or];exact ⟨fun e=>h1 e.symm,ih.1 h2⟩
    · rw [if_neg h2]
      have h4:s∈l:=Classical.byContradiction fun h3=>h2 (ih.2 h3)
      constructor
      · intro h3;omega
      · intro h3;exact absurd (List.mem_cons_of_mem _ h4) h3
theorem placeI_hit {l:List ByteArray} {s:ByteArray} {k:Nat} (hk:k<l.length) (h:sAt l k=s) (hno:s ∉ l.take k):placeI l s=k:=by
 induction l generalizing k with
 | nil=>simp at hk
 | cons a l ih =>
  cases k with
  | zero =>
   have:a=s:=h
   unfold placeI
   rw [if_pos this]
   rfl
  | succ k =>
   simp only [List.take_succ_cons,List.mem_cons,not_or] at hno
   have e:=ih (k:=k) (by simpa using hk) h hno.2
   unfold placeI
   rw [if_neg (fun x=>hno.1 x.symm),e,if_neg (by omega)]
   omega
theorem placeI_mem {l:List ByteArray} {s:ByteArray} (h:s∈l):∃ k,k<l.length∧placeI l s=(k:Int)∧sAt l k=s∧s ∉ l.take k:=by
 induction l with
 | nil=>cases h
 | cons a l ih =>
  by_cases h1:a=s
  · exact ⟨0,by simp,by unfold placeI;rw [if_pos h1];rfl,h1,by simp⟩
  · have h2:s∈l:=by
     rcases List.mem_cons.1 h with h3 | h3
     · exact absurd h3.symm h1
     · exact h3
    obtain ⟨k,hk,e,e1,e2⟩:=ih h2
    refine ⟨k+1,by simpa using hk,?_,e1,?_⟩
    · unfold placeI;rw [if_neg h1,e,if_neg (by omega)];omega
    · rw [List.take_succ_cons,List.mem_cons,not_or];exact ⟨fun x=>h1 x.symm,e2⟩
theorem placeI_append {l m:List ByteArray} {s:ByteArray} (h:s∈l):placeI (l ++ m) s=placeI l s:=by
 obtain ⟨k,hk,e,e1,e2⟩:=placeI_mem h
 rw [e]
 exact placeI_hit (by rw [List.length_append];omega) (by rw [sAt_append_lt hk,e1]) (by rw [List.take_append_of_le_length (by omega)];exact e2)
theorem placeI_last {l:List ByteArray} {s:ByteArray} (h:s ∉ l):placeI (l ++ [s]) s=l.length :=
 placeI_hit (by simp) (sAt_append_last _ _) (by rw [List.take_append_of_le_length (Nat.le_refl _),List.take_length];exact h)
theorem take_snocT {l:List ByteArray} {k:Nat} (h:k<l.length):l.take (k+1)=l.take k ++ [sAt l k]:=by
 rw [List.take_add_one,getElem?_sAt h]
 rfl
theorem mem_take_snoc {l:List ByteArray} {k:Nat} {s:ByteArray} (h:k<l.length):s∈l.take (k+1)↔s∈l.take k∨sAt l k=s:=by
 rw [take_snocT h,List.mem_append,List.mem_singleton]
 exact or_congr Iff.rfl eq_comm
def textI (t:List ByteArray) (n:Int):ByteArray:=if n<1∨(t.length:Int)<n then eT else sAt t (n.toNat-1)
def leadsS (t:List ByteArray) (n:Int):ByteArray:=if mayT (textI t n)=true then textI t n else eT
theorem leads_may {t:List ByteArray} {n:Int} (h:leadsS t n≠eT):mayT (leadsS t n)=true:=by
 unfold leadsS at h ⊢
 split at h
 · rename_i h1;rw [if_pos h1];exact h1
 · exact absurd rfl h
theorem leads_mem {t:List ByteArray} {n:Int} (h:leadsS t n≠eT):leadsS t n∈t:=by
 unfold leadsS textI at *
 by_cases h1:n<1∨(t.length:Int)<n
 · rw [if_pos h1] at h;exact absurd (by rw [eT_not];rfl) h
 · rw [if_neg h1] at h ⊢
   split at h
   · rename_i h2
     rw [if_pos h2]
     exact sAt_mem (by omega)
   · exact absurd rfl h
def addT (l:List ByteArray) (s:ByteArray):List ByteArray:=if s=eT∨placeI l s≠-1 then l else l ++ [s]
theorem mem_place {l:List ByteArray} {s:ByteArray}:placeI l s≠-1↔s∈l:=by rw [Ne,placeI_none,Classical.not_not]
def seqT (cs:List Ce) (t:List ByteArray):List ByteArray:=cs.map fun c=>leadsS t c.p.lk
def canonL (cs:List Ce) (t:List ByteArray):List ByteArray:=(seqT cs t).foldl addT []
def numI (l:List ByteArray) (s:ByteArray):Int:=if s=eT then 0 else placeI l s+1
def setLk (c:Ce) (n:Int):Ce:=⟨c.r,c.wd,⟨c.p.fg,c.p.bg,c.p.st,n⟩⟩
def canonC (cs:List Ce) (t:List ByteArray):List Ce:=cs.map fun c=>setLk c (numI (canonL cs t) (leadsS t c.p.lk))
def ordS (cs:List Ce) (l:List ByteArray):Bool:=decide (l.length≤16) && decide (canonC cs l=cs) && decide (canonL cs l=l)
theorem canonC_len (cs:List Ce) (t:List ByteArray):(canonC cs t).length=cs.length:=by simp [canonC]
theorem addT_cases (l:List ByteArray) (s:ByteArray):((s=eT∨s∈l)∧addT l s=l)∨((s≠eT∧s ∉ l)∧addT l s=l ++ [s]):=by
 unfold addT
 by_cases h:s=eT∨placeI l s≠-1
 · rw [if_pos h]
   exact Or.inl ⟨h.imp id mem_place.1,rfl⟩
 · rw [if_neg h]
   exact Or.inr ⟨⟨fun e=>h (Or.inl e),fun e=>h (Or.inr (mem_place.2 e))⟩,rfl⟩
theorem addT_old {l:List ByteArray} {s:ByteArray} (h:s=eT∨s∈l):addT l s=l:=by
 rcases addT_cases l s with ⟨_,e⟩ | ⟨⟨h1,h2⟩,_⟩
 · exact e
 · exact absurd h (by rintro (x | x);exact h1 x;exact h2 x)
theorem addT_new {l:List ByteArray} {s:ByteArray} (h:s≠eT) (h':s ∉ l):addT l s=l ++ [s]:=by
 rcases addT_cases l s with ⟨h1,_⟩ | ⟨_,e⟩
 · exact absurd h1 (by rintro (x | x);exact h x;exact h' x)
 · exact e
theorem addT_pre (l:List ByteArray) (s:ByteArray):∃ m,addT l s=l ++ m:=by
 rcases addT_cases l s with ⟨_,e⟩ | ⟨_,e⟩
 · exact ⟨[],by rw [e,List.append_nil]⟩
 · exact ⟨_,e⟩
theorem addT_len (l:List ByteArray) (s:ByteArray):(addT l s).length≤l.length+1:=by
 rcases addT_cases l s with ⟨_,e⟩ | ⟨_,e⟩<;>rw [e]<;>simp
theorem fold_pre (q l:List ByteArray):∃ m,q.foldl addT l=l ++ m:=by
 induction q generalizing l with
 | nil=>exact ⟨[],by simp⟩
 | cons s q ih =>
  obtain ⟨m,e⟩:=addT_pre l s
  obtain ⟨m',e'⟩:=ih (addT l s)
  exact ⟨m ++ m',by rw [List.foldl_cons,e',e,List.append_assoc]⟩
theorem fold_mem {q l:List ByteArray} {s:ByteArray} (h:s∈q.foldl addT l):s∈l∨(s∈q∧s≠eT):=by
 induction q generalizing l with
 | nil=>exact Or.inl h
 | cons a q ih =>
  rcases ih h with h1 | h1
  · rcases addT_cases l a with ⟨_,e⟩ | ⟨h2,e⟩<;>rw [e] at h1
    · exact Or.inl h1
    · rcases List.mem_append.1 h1 with h3 | h3
      · exact Or.inl h3
      · rw [List.mem_singleton.1 h3]
        exact Or.inr ⟨by simp,h2.1⟩
  · exact Or.inr ⟨List.mem_cons_of_mem _ h1.1,h1.2⟩
theorem fold_has {q l:List ByteArray} {s:ByteArray} (h:s∈q) (h':s≠eT):s∈q.foldl addT l:=by
 induction q generalizing l with
 | nil=>cases h
 | cons a q ih =>
  rcases List.mem_cons.1 h with rfl | h1
  · rw [List.foldl_cons]
    obtain ⟨m,e⟩:=fold_pre q (addT l s)
    rw [e]
    refine List.mem_append_left _ ?_
    rcases addT_cases l s with ⟨h2,e⟩ | ⟨_,e⟩<;>rw [e]
    · exact h2.resolve_left h'
    · simp
  · exact ih h1
theorem fold_nodup {q l:List ByteArray} (h:l.Nodup):(q.foldl addT l).Nodup:=by
 induction q generalizing l with
 | nil=>exact h
 | cons a q ih =>
  refine ih ?_
  rcases addT_cases l a with ⟨_,e⟩ | ⟨h2,e⟩<;>rw [e]
  · exact h
  · rw [List.nodup_append]
    refine ⟨h,by simp,fun x hx y hy e=>h2.2 ?_⟩
    rw [← List.mem_singleton.1 hy,← e]
    exact hx
theorem canonL_mem {cs:List Ce} {t:List ByteArray} {s:ByteArray}:s∈canonL cs t↔s∈seqT cs t∧s≠eT :=
 ⟨fun h=>(fold_mem h).resolve_left (by simp),fun h=>fold_has h.1 h.2⟩
theorem canonL_nodup (cs:List Ce) (t:List ByteArray):(canonL cs t).Nodup:=fold_nodup List.nodup_nil
theorem canonL_may {cs:List Ce} {t:List ByteArray} {s:ByteArray} (h:s∈canonL cs t):mayT s=true∧s∈t:=by
 obtain ⟨h1,h2⟩:=canonL_mem.1 h
 obtain ⟨c,_,rfl⟩:=List.mem_map.1 h1
 exact ⟨leads_may h2,leads_mem h2⟩
theorem nodup_le {a:List ByteArray} (h:a.Nodup):∀ {b:List ByteArray},(∀ s∈a,s∈b)→a.length≤b.length:=by
 induction a with
 | nil=>intro b _;exact Nat.zero_le _
 | cons x a ih =>
  intro b hs
  rw [List.nodup_cons] at h
  have hx:=hs x (by simp)
  have h1:=ih h.2 (b:=b.filter fun y=>decide (y≠x)) fun s hsa=>by
   refine List.mem_filter.2 ⟨hs s (List.mem_cons_of_mem _ hsa),?_⟩
   simp only [decide_eq_true_eq]
   rintro rfl
   exact h.1 hsa
  have h2:(b.filter fun y=>decide (y≠x)).length<b.length:=List.length_filter_lt_length_iff_exists.2 ⟨x,hx,by simp⟩
  rw [List.length_cons]
  omega
theorem canonL_le (cs:List Ce) (t:List ByteArray):(canonL cs t).length≤t.length:=nodup_le (canonL_nodup cs t) fun _ h=>(canonL_may h).2
theorem canonL_cells (cs:List Ce) (t:List ByteArray):(canonL cs t).length≤cs.length:=by
 have h:∀ (q l:List ByteArray),(q.foldl addT l).length≤l.length+q.length:=by
  intro q
  induction q with
  | nil=>intro l;exact Nat.le_refl _
  | cons a q ih =>
   intro l
   have h1:=ih (addT l a)
   have h2:=addT_len l a
   rw [List.foldl_cons,List.length_cons]
   omega
 have:=h (seqT cs t) []
 simpa [canonL,seqT] using this
theorem leads_num {l:List ByteArray} {s:ByteArray} (h:s=eT∨(s∈l∧mayT s=true)):textI l (numI l s)=s∧leadsS l (numI l s)=s:=by
 have key:textI l (numI l s)=s:=by
  unfold numI textI
  by_cases h0:s=eT
  · rw [if_pos h0,if_pos (Or.inl (by decide)),h0]
  · obtain ⟨k,hk,e,e1,_⟩:=placeI_mem (h.resolve_left h0).1
    rw [if_neg h0,e,if_neg (by omega),show ((k:Int)+1).toNat-1=k by omega,e1]
 refine ⟨key,?_⟩
 unfold leadsS
 rw [key]
 rcases h with rfl | ⟨_,h⟩
 · rw [eT_not];rfl
 · rw [if_pos h]
theorem seq_leads {cs:List Ce} {t:List ByteArray} {c:Ce} (h:c∈cs):leadsS t c.p.lk=eT∨(leadsS t c.p.lk∈canonL cs t∧mayT (leadsS t c.p.lk)=true):=by
 by_cases h0:leadsS t c.p.lk=eT
 · exact Or.inl h0
 · exact Or.inr ⟨canonL_mem.2 ⟨List.mem_map.2 ⟨c,h,rfl⟩,h0⟩,leads_may h0⟩
theorem seq_again (cs:List Ce) (t:List ByteArray):seqT (canonC cs t) (canonL cs t)=seqT cs t:=by
 unfold seqT canonC
 rw [List.map_map]
 refine List.map_congr_left fun c hc=>?_
 exact (leads_num (seq_leads hc)).2
theorem canonL_again (cs:List Ce) (t:List ByteArray):canonL (canonC cs t) (canonL cs t)=canonL cs t:=by
 show (seqT (canonC cs t) (canonL cs t)).foldl addT []=_
 rw [seq_again]
 rfl
theorem canonC_again (cs:List Ce) (t:List ByteArray):canonC (canonC cs t) (canonL cs t)=canonC cs t:=by
 show (canonC cs t).map (fun c=>setLk c (numI (canonL (canonC cs t) (canonL cs t)) (leadsS (canonL cs t) c.p.lk)))=_
 rw [canonL_again]
 show (cs.map fun c=>setLk c (numI (canonL cs t) (leadsS t c.p.lk))).map _=_
 rw [List.map_map]
 refine List.map_congr_left fun c hc=>?_
 show setLk (setLk c _) (numI _ (leadsS _ (numI (canonL cs t) (leadsS t c.p.lk))))=_
 rw [(leads_num (seq_leads hc)).2]
 rfl
theorem ord_again {cs:List Ce} {t:List ByteArray} (h:t.length≤16):ordS (canonC cs t) (canonL cs t)=true:=by
 unfold ordS
 rw [canonL_again,canonC_again]
 have:=canonL_le cs t
 simp
 omega
def comeS:Nat→List Ce→Option Nat
 | m,[]=>some m
 | m,c :: cs=>if (m:Int)+1<c.p.lk then none else comeS (max m c.p.lk.toNat) cs
theorem comeS_snoc (m:Nat) (cs:List Ce) (c:Ce):comeS m (cs ++ [c])=(comeS m cs).bind fun k=>if (k:Int)+1<c.p.lk then none else some (max k c.p.lk.toNat):=by
 induction cs generalizing m with
 | nil=>rfl
 | cons a cs ih =>
  rw [List.cons_append,comeS,comeS]
  split
  · rfl
  · exact ih _
def ordC (cs:List Ce) (l:List ByteArray):Bool:=decide (l.length≤16) && decide (∀ s∈l,mayT s=true) && decide l.Nodup && decide (comeS 0 cs=some l.length)
theorem nodup_at {l:List ByteArray} (h:l.Nodup) {i j:Nat} (hi:i<l.length) (hj:j<l.length) (e:sAt l i=sAt l j):i=j:=by
 rw [sAt_lt hi,sAt_lt hj] at e
 have hp:=List.pairwise_iff_getElem.1 h
 rcases Nat.lt_trichotomy i j with h1 | h1 | h1
 · exact absurd e (hp i j hi hj h1)
 · exact h1
 · exact absurd e.symm (hp j i hj hi h1)
theorem place_nodup {l:List ByteArray} (h:l.Nodup) {k:Nat} (hk:k<l.length):placeI l (sAt l k)=k:=by
 obtain ⟨j,hj,e,e1,_⟩:=placeI_mem (sAt_mem hk)
 rw [e,nodup_at h hj hk e1]
theorem leads_in {l:List ByteArray} (hm:∀ s∈l,mayT s=true) {n:Int} (h0:1≤n) (h1:n≤l.length):leadsS l n=sAt l (n.toNat-1)∧sAt l (n.toNat-1)≠eT:=by
 have hx:=hm _ (sAt_mem (l:=l) (k:=n.toNat-1) (by omega))
 have e:textI l n=sAt l (n.toNat-1):=by unfold textI;rw [if_neg (by omega)]
 refine ⟨?_,mayT_ne hx⟩
 unfold leadsS
 rw [e,if_pos hx]
theorem leads_out {l:List ByteArray} {n:Int} (h:n<1∨(l.length:Int)<n):leadsS l n=eT:=by
 unfold leadsS textI
 rw [if_pos h,eT_not]
 rfl
theorem not_in_take {l:List ByteArray} (h:l.Nodup) {m:Nat} (hm:m<l.length):sAt l m ∉ l.take m:=by
 intro hx
 obtain ⟨j,hj,e⟩:=mem_sAt hx
 rw [List.length_take] at hj
 have e1:sAt (l.take m) j=sAt l j:=by
  rw [sAt_lt (by rw [List.length_take];exact hj),sAt_lt (by omega),List.getElem_take]
 rw [e1] at e
 have:=nodup_at h (by omega) hm e
 omega
theorem in_take {l:List ByteArray} {k m:Nat} (hk:k<m) (hl:k<l.length):sAt l k∈l.take m:=by
 have e:sAt (l.take m) k=sAt l k:=by
  rw [sAt_lt (by rw [List.length_take];omega),sAt_lt hl,List.getElem_take]
 rw [← e]
 exact sAt_mem (by rw [List.length_take];omega)
theorem come_fold {l:List ByteArray} (hm:∀ s∈l,mayT s=true) (hd:l.Nodup) (cs:List Ce):∀ m,m≤l.length→(∀ c∈cs,0≤c.p.lk∧c.p.lk≤l.length) →
  (∀ k,comeS m cs=some k→k≤l.length∧(seqT cs l).foldl addT (l.take m)=l.take k):=by
 induction cs with
 | nil=>intro m hml _ k h;injection h with h;subst h;exact ⟨hml,rfl⟩
 | cons c cs ih =>
  intro m hml hc k h
  have hc1:=hc c (by simp)
  unfold comeS at h
  split at h
  · cases h
  · rename_i h1
    have h2:max m c.p.lk.toNat≤l.length:=by omega
    obtain ⟨e1,e2⟩:=ih _ h2 (fun x hx=>hc x (by simp [hx])) k h
    refine ⟨e1,?_⟩
    rw [← e2]
    show (seqT cs l).foldl addT (addT (l.take m) (leadsS l c.p.lk))=_
    congr 1
    by_cases hz:c.p.lk<1
    · rw [leads_out (Or.inl hz),addT_old (Or.inl rfl),show max m c.p.lk.toNat=m by omega]
    · obtain ⟨f1,f2⟩:=leads_in hm (n:=c.p.lk) (by omega) hc1.2
      rw [f1]
      by_cases hlt:c.p.lk.toNat-1<m
      · rw [addT_old (Or.inr (in_take hlt (by omega))),show max m c.p.lk.toNat=m by omega]
      · have e:c.p.lk.toNat-1=m:=by omega
        rw [e] at f2 ⊢
        rw [addT_new f2 (not_in_take hd (by omega)),show max m c.p.lk.toNat=m+1 by omega,take_snocT (by omega)]
theorem come_le (cs:List Ce):∀ m k,comeS m cs=some k→m≤k∧∀ c∈cs,c.p.lk≤k:=by
 induction cs with
 | nil=>intro m k h;injection h with h;subst h;exact ⟨Nat.le_refl _,fun c hc=>by cases hc⟩
 | cons c cs ih =>
  intro m k h
  unfold comeS at h
  split at h
  · cases h
  · obtain ⟨h1,h2⟩:=ih _ _ h
    refine ⟨by omega,fun x hx=>?_⟩
    rcases List.mem_cons.1 hx with rfl | hx
    · omega
    · exact h2 x hx
theorem fold_come {l:List ByteArray} (hm:∀ s∈l,mayT s=true) (hd:l.Nodup) (cs:List Ce):∀ m,m≤l.length→(∀ c∈cs,0≤c.p.lk∧c.p.lk≤l.length) →
  (∃ x,l=(seqT cs l).foldl addT (l.take m) ++ x)→∃ k,comeS m cs=some k∧k≤l.length∧(seqT cs l).foldl addT (l.take m)=l.take k:=by
 induction cs with
 | nil=>intro m hml _ _;exact ⟨m,rfl,hml,rfl⟩
 | cons c cs ih =>
  rintro m hml hc ⟨x,hx⟩
  have hc1:=hc c (by simp)
  have hx1:l=(seqT cs l).foldl addT (addT (l.take m) (leadsS l c.p.lk)) ++ x:=hx
  have hstep:∀ m',addT (l.take m) (leadsS l c.p.lk)=l.take m'→m'≤l.length→max m c.p.lk.toNat=m'→¬ (m:Int)+1<c.p.lk→∃ k,comeS m (c :: cs)=some k∧k≤l.length∧(seqT (c :: cs) l).foldl addT (l.take m)=l.take k:=by
   intro m' e1 e2 e3 e4
   rw [e1] at hx1
   obtain ⟨k,f1,f2,f3⟩:=ih m' e2 (fun x hx=>hc x (by simp [hx])) ⟨x,hx1⟩
   refine ⟨k,?_,f2,?_⟩
   · rw [comeS,if_neg e4,e3];exact f1
   · show (seqT cs l).foldl addT (addT (l.take m) (leadsS l c.p.lk))=_
     rw [e1];exact f3
  by_cases hz:c.p.lk<1
  · exact hstep m (by rw [leads_out (Or.inl hz),addT_old (Or.inl rfl)]) hml (by omega) (by omega)
  · obtain ⟨f1,f2⟩:=leads_in hm (n:=c.p.lk) (by omega) hc1.2
    by_cases hlt:c.p.lk.toNat-1<m
    · exact hstep m (by rw [f1,addT_old (Or.inr (in_take hlt (by omega)))]) hml (by omega) (by omega)
    · -- a new text: it is the next of the list
      have hno:leadsS l c.p.lk ∉ l.take m:=by
       rw [f1]
       intro hin
       obtain ⟨j,hj,e⟩:=mem_sAt hin
       rw [List.length_take] at hj
       have e1:sAt (l.take m) j=sAt l j:=by
        rw [sAt_lt (by rw [List.length_take];exact hj),sAt_lt (by omega),List.getElem_take]
       rw [e1] at e
       have:=nodup_at hd (by omega) (by omega) e
       omega
      have hne:leadsS l c.p.lk≠eT:=by rw [f1];exact f2
      have e2:=addT_new hne hno
      rw [e2] at hx1
      obtain ⟨y,hy⟩:=fold_pre (seqT cs l) (l.take m ++ [leadsS l c.p.lk])
      rw [hy] at hx1
      have hlen:m<l.length:=by
       have:=congrArg List.length hx1
       simp only [List.length_append,List.length_take,List.length_cons,List.length_nil] at this
       omega
      have hat:sAt l m=leadsS l c.p.lk:=by
       have e3:(l.take m).length=m:=by rw [List.length_take];omega
       have e5:=sAt_append_last (l.take m) (leadsS l c.p.lk)
       rw [e3] at e5
       have e6:sAt (l.take m ++ [leadsS l c.p.lk] ++ y ++ x) m=leadsS l c.p.lk:=by
        rw [List.append_assoc (l.take m ++ [leadsS l c.p.lk]),sAt_append_lt (by rw [List.length_append,e3,List.length_cons];omega),e5]
       exact (congrArg (fun z=>sAt z m) hx1).trans e6
      rw [f1] at hat
      have e4:=nodup_at hd hlen (by omega) hat
      refine hstep (m+1) ?_ (by omega) (by omega) (by omega)
      rw [e2,take_snocT hlen,f1,hat]
theorem setLk_self (c:Ce):setLk c c.p.lk=c:=rfl
theorem ord_is {cs:List Ce} {l:List ByteArray} (h0:∀ c∈cs,0≤c.p.lk):ordC cs l=ordS cs l:=by
 rw [Bool.eq_iff_iff]
 unfold ordC ordS
 simp only [Bool.and_eq_true,decide_eq_true_eq]
 constructor
 · rintro ⟨⟨⟨h1,hm⟩,hd⟩,hc⟩
   obtain ⟨_,hle⟩:=come_le cs 0 _ hc
   have hb:∀ c∈cs,0≤c.p.lk∧c.p.lk≤l.length:=fun c hx=>⟨h0 c hx,hle c hx⟩
   obtain ⟨_,hf⟩:=come_fold hm hd cs 0 (Nat.zero_le _) hb _ hc
   have hL:canonL cs l=l:=by
    have e:canonL cs l=l.take l.length:=hf
    rw [e,List.take_length]
   refine ⟨⟨h1,?_⟩,hL⟩
   unfold canonC
   rw [hL]
   conv=>rhs;rw [← List.map_id cs]
   refine List.map_congr_left fun c hx=>?_
   have hcb:=hb c hx
   show setLk c _=c
   have e:numI l (leadsS l c.p.lk)=c.p.lk:=by
    by_cases hz:c.p.lk<1
    · rw [leads_out (Or.inl hz)];unfold numI;rw [if_pos rfl];omega
    · obtain ⟨f1,f2⟩:=leads_in hm (n:=c.p.lk) (by omega) hcb.2
      unfold numI
      rw [f1,if_neg f2,place_nodup hd (by omega)]
      omega
   rw [e,setLk_self]
 · rintro ⟨⟨h1,hC⟩,hL⟩
   have hm:∀ s∈l,mayT s=true:=fun s hs=>(canonL_may (cs:=cs) (t:=l) (by rw [hL];exact hs)).1
   have hd:l.Nodup:=by rw [← hL];exact canonL_nodup cs l
   have hb:∀ c∈cs,0≤c.p.lk∧c.p.lk≤l.length:=fun c hx=>by
    refine ⟨h0 c hx,?_⟩
    obtain ⟨i,hi,e⟩:=List.getElem_of_mem hx
    have e1:(canonC cs l)[i]?=cs[i]?:=by rw [hC]
    unfold canonC at e1
    rw [List.getElem?_map,List.getElem?_eq_getElem hi,Option.map_some,e,hL] at e1
    injection e1 with e1
    have e2:numI l (leadsS l c.p.lk)=c.p.lk:=by
     have:=congrArg (fun x:Ce=>x.p.lk) e1
     exact this
    rw [← e2]
    unfold numI
    split
    · omega
    · have:=placeI_lt l (leadsS l c.p.lk);omega
   obtain ⟨k,e1,e2,e3⟩:=fold_come hm hd cs 0 (Nat.zero_le _) hb ⟨[],by
    have:canonL cs l=l:=hL
    rw [List.append_nil]
    exact this.symm⟩
   refine ⟨⟨⟨h1,hm⟩,hd⟩,?_⟩
   have e4:l=l.take k:=hL.symm.trans e3
   have e5:=congrArg List.length e4
   rw [List.length_take] at e5
   rw [e1,show k=l.length by omega]
structure AcS where
 k:Int
 r:Int
 m:Int
 fin:Int
 ps:List Int
 tx:List Int
deriving DecidableEq
structure PaS where
 st:Nat
 m:Int
 ps:List Int
 tx:List Int
 dec:List Int
deriving DecidableEq
def pa0:PaS:=⟨0,0,[],[],[]⟩
/-! ### Bounds -/
def psOk (l:List Int):Prop:=∀ z∈l,0≤z∧z≤9999
structure Spt where
 x:Int
 y:Int
 pen:Pn
 org:Bool
structure Tm where
 c:Nat
 r:Nat
 main:Rws
 other:Rws
 isO:Bool
 now:Spt
 sav:Spt
 full:Bool
 top:Int
 bot:Int
 nowrap:Bool
 ins:Bool
 hid:Bool
 mouse:Int
 tabs:List Bool
 title:List Int
 table:List ByteArray
 last:Int
 p:PaS
def spt0:Spt:=⟨0,0,pn0,false⟩
def tabs0:List Bool:=(List.range 80).map fun i=>decide (i≠0∧i % 8=0)
def blankR (c r:Nat):Rws:=List.replicate r (blanksS c pn0)
def tmNew (c r:Nat):Tm:=⟨c,r,blankR c r,blankR c r,false,spt0,spt0,false,0,r-1,false,false,false,0,tabs0,[],[],0,pa0⟩
namespace Tm
def shown (t:Tm):Rws:=if t.isO then t.other else t.main
end Tm
def titleF:List Int→List Int→List Int
 | acc,[]=>acc
 | acc,r :: l=>if widthS r > 0 then (if acc.length+(encS r).length > 64 then acc else titleF (acc ++ encS r) l) else titleF acc l
structure Sc where
 c:Int
 r:Int
 cells:List Ce
 x:Int
 y:Int
 hid:Bool
 mouse:Int
 title:List Int
 links:List ByteArray
def Tm.screen (t:Tm):Sc:=⟨t.c,t.r,canonC t.shown.flatten t.table,t.now.x,t.now.y,t.hid,t.mouse,t.title,canonL t.shown.flatten t.table⟩
noncomputable def rightSc (s:Sc):Bool :=
 gridMay s.c s.r s.cells && ordS s.cells s.links && decide (0≤s.x∧s.x<s.c∧0≤s.y∧s.y<s.r) && decide (s.mouse≤2) && decide (s.title.length≤64) && validS s.title && (foldS [] s.title).all fun r=>decide (widthS r≠0)
theorem width_may {r:Int} (h:widthS r≠0):mayS r=true:=by
 unfold widthS at h
 split at h
 · assumption
 · exact absurd rfl h
theorem titleF_is:∀ (l:List Int) (m:List Int),(∀ r∈m,widthS r≠0)→(encAll m).length≤64→∃ m',titleF (encAll m) l=encAll m'∧(∀ r∈m',widthS r≠0)∧(encAll m').length≤64
 | [],m,h,hl=>⟨m,rfl,h,hl⟩
 | r :: l,m,h,hl=>by
  unfold titleF
  split
  · rename_i hw
    split
    · exact ⟨m,rfl,h,hl⟩
    · rename_i hs
      have e:encAll m ++ encS r=encAll (m ++ [r]):=(encAll_snoc r m).symm
      rw [e]
      refine titleF_is l (m ++ [r]) (fun x hx=>?_) (by rw [← e,List.length_append];omega)
      rcases List.mem_append.1 hx with hx | hx
      · exact h x hx
      · rw [List.mem_singleton.1 hx];omega
  · exact titleF_is l m h hl
theorem title_ok (l:List Int):(titleF [] l).length≤64∧validS (titleF [] l)=true∧∀ r∈foldS [] (titleF [] l),widthS r≠0:=by
 obtain ⟨m,e,hm,hl⟩:=titleF_is l [] (fun r hr=>by cases hr) (by simp [encAll])
 have e0:titleF [] l=encAll m:=e
 have hf:m.map fixS=m:=by
  refine (List.map_congr_left fun r hr=>?_).trans (List.map_id m)
  simp [fixS,width_may (hm r hr)]
 have hF:foldS [] (encAll m)=m:=by rw [fold_encAll,hf]
 rw [e0]
 exact ⟨hl,by unfold validS;rw [hF];exact decide_eq_true rfl,by rw [hF];exact hm⟩
structure PnOk (p:Pn):Prop where
 fg:colMay p.fg=true
 bg:colMay p.bg=true
 f0:0≤p.fg∧p.fg≤33554431
 b0:0≤p.bg∧p.bg≤33554431
 st:0≤p.st∧p.st≤255
theorem pn0_ok (lk:Int):PnOk ⟨0,0,0,lk⟩:=⟨by show colMay 0=true;decide,by show colMay 0=true;decide,by show (0:Int)≤0∧(0:Int)≤33554431;omega,by show (0:Int)≤0∧(0:Int)≤33554431;omega,by show (0:Int)≤0∧(0:Int)≤255;omega⟩
theorem gk_blankE {c r:Nat} (h1:1≤c) (h2:c≤80) (h3:1≤r) (h4:r≤24):Gk c r (blankR c r):=by
 have hr:∀ y,y<r→lAt (blankR c r) y=blanksS c pn0:=fun y hy=>by
  unfold lAt blankR
  simp [List.getD,hy]
 exact ⟨⟨by simp [blankR],fun y hy=>by rw [hr y hy];simp [blanksS]⟩,h1,h2,h3,h4,fun y hy=>by rw [hr y hy];exact blanks_ok h1 h2 pn0_may⟩
structure TmOk (t:Tm):Prop where
 gm:Gk t.c t.r t.main
 go:Gk t.c t.r t.other
 x0:0≤t.now.x
 x1:t.now.x<t.c
 y0:0≤t.now.y
 y1:t.now.y<t.r
 pen:PnOk t.now.pen
 sx:0≤t.sav.x
 sy:0≤t.sav.y
 sp:PnOk t.sav.pen
 t0:0≤t.top
 tb:t.top≤t.bot
 b1:t.bot<t.r
 m0:0≤t.mouse∧t.mouse≤2
 tabs:t.tabs.length=80
 tbl:t.table.length≤16
 title:t.title.length≤64∧validS t.title=true∧∀ r∈foldS [] t.title,widthS r≠0
namespace TmOk
variable {t:Tm}
theorem shown (h:TmOk t):Gk t.c t.r t.shown:=by unfold Tm.shown;split;exact h.go;exact h.gm
theorem fresh {c r:Nat} (h1:1≤c) (h2:c≤80) (h3:1≤r) (h4:r≤24):TmOk (tmNew c r) where
 gm:=gk_blankE h1 h2 h3 h4
 go:=gk_blankE h1 h2 h3 h4
 x0:=Int.le_refl 0
 x1:=by show (0:Int)<c;omega
 y0:=Int.le_refl 0
 y1:=by show (0:Int)<r;omega
 pen:=pn0_ok 0
 sx:=Int.le_refl 0
 sy:=Int.le_refl 0
 sp:=pn0_ok 0
 t0:=Int.le_refl 0
 tb:=by show (0:Int)≤r-1;omega
 b1:=by show (r:Int)-1<r;omega
 m0:=by show (0:Int)≤0∧(0:Int)≤2;omega
 tabs:=by show tabs0.length=80;decide
 tbl:=by show (0:Nat)≤16;omega
 title:=by have:=title_ok [];rw [show titleF [] []=[] from rfl] at this;exact this
end TmOk
/-! ### Its screen -/
theorem cAt_map (g:Ce→Ce) {L:List Ce} {i:Nat} (h:i<L.length):cAt (L.map g) i=g (cAt L i):=by
 rw [cAt_lt (by rw [List.length_map];exact h),cAt_lt h,List.getElem_map]
theorem lk_row {L:List Ce} (f:Int→Int) (h:RowOk L):RowOk (L.map fun c=>setLk c (f c.p.lk)):=by
 have hl:(L.map fun c=>setLk c (f c.p.lk)).length=L.length:=List.length_map _
 refine ⟨by rw [hl];exact h.pos,by rw [hl];exact h.le,fun i hi=>?_⟩
 rw [hl] at hi
 obtain ⟨a,b,c⟩:=h.at_ i hi
 unfold OkAt
 rw [hl,cAt_map _ hi]
 refine ⟨a,fun e=>?_,fun e=>?_⟩
 · obtain ⟨b1,b2⟩:=b e
   refine ⟨b1,?_⟩
   rw [cAt_map _ b1,b2]
   rfl
 · obtain ⟨c1,c2⟩:=c e
   refine ⟨c1,?_⟩
   rw [cAt_map _ (by omega)]
   exact c2
theorem lk_grid {c r:Nat} {LL:Rws} (f:Int→Int) (h:Gk c r LL):Gk c r (LL.map fun L=>L.map fun c=>setLk c (f c.p.lk)):=by
 have hr:∀ y,y<r→lAt (LL.map fun L=>L.map fun c=>setLk c (f c.p.lk)) y=(lAt LL y).map fun c=>setLk c (f c.p.lk):=by
  intro y hy
  have:y<LL.length:=by rw [h.box.len];exact hy
  simp [lAt,List.getD,List.getElem?_eq_getElem this]
 exact ⟨⟨by rw [List.length_map];exact h.box.len,fun y hy=>by rw [hr y hy,List.length_map];exact h.box.row y hy⟩,h.c1,h.c80,h.r1,h.r24,fun y hy=>by rw [hr y hy];exact lk_row f (h.ok y hy)⟩
theorem screen_right {t:Tm} (h:TmOk t):rightSc t.screen=true:=by
 have e:canonC t.shown.flatten t.table=(t.shown.map fun L=>L.map fun c=>setLk c (numI (canonL t.shown.flatten t.table) (leadsS t.table c.p.lk))).flatten:=by
  rw [← List.map_flatten];rfl
 have hg:gridMay (t.c:Int) (t.r:Int) (canonC t.shown.flatten t.table)=true:=by
  rw [e]
  exact (lk_grid (fun n=>numI (canonL t.shown.flatten t.table) (leadsS t.table n)) h.shown).may
 have ho:=ord_again (cs:=t.shown.flatten) h.tbl
 unfold rightSc Tm.screen
 dsimp only
 rw [hg,ho,decide_eq_true (show 0≤t.now.x∧t.now.x<(t.c:Int)∧0≤t.now.y∧t.now.y<(t.r:Int) from ⟨h.x0,h.x1,h.y0,h.y1⟩),decide_eq_true h.m0.2,decide_eq_true h.title.1,h.title.2.1]
 simp only [Bool.true_and,List.all_eq_true,decide_eq_true_eq]
 exact h.title.2.2
def threeS (c:Int):Prop:=16777216≤c∧c<33554432
instance (c:Int):Decidable (threeS c):=by unfold threeS;infer_instance
def scZero:Sc:=⟨0,0,[],0,0,false,0,[],[]⟩
theorem w32:widthS 32=1:=by decide +kernel
theorem leads_none {n:Int}:leadsS [] n=eT:=by
 have e:textI [] n=eT:=by unfold textI;split<;>rfl
 unfold leadsS
 rw [e]
 split<;>rfl
theorem canonL_none (cs:List Ce):canonL cs []=[]:=by
 unfold canonL seqT
 induction cs with
 | nil=>rfl
 | cons c cs ih=>rw [List.map_cons,List.foldl_cons,leads_none,addT_old (.inl rfl)];exact ih
theorem ord_none {cs:List Ce} (h:∀ c∈cs,c.p.lk=0):ordS cs []=true:=by
 unfold ordS
 simp only [Bool.and_eq_true,decide_eq_true_eq]
 refine ⟨⟨by decide,?_⟩,canonL_none cs⟩
 unfold canonC
 rw [canonL_none]
 conv=>rhs;rw [← List.map_id cs]
 apply List.map_congr_left
 intro c hc
 rw [leads_none]
 have e:numI [] eT=0:=by unfold numI;rw [if_pos rfl]
 rw [e]
 have:=h c hc
 obtain ⟨r,wd,fg,bg,st,lk⟩:=c
 simp only at this
 subst this
 rfl
theorem ord_zero {cs:List Ce} (h:ordS cs []=true):∀ c∈cs,c.p.lk=0:=by
 unfold ordS at h
 simp only [Bool.and_eq_true,decide_eq_true_eq] at h
 obtain ⟨⟨_,h2⟩,_⟩:=h
 unfold canonC at h2
 intro c hc
 have:cs.map (fun c=>setLk c (numI (canonL cs []) (leadsS [] c.p.lk)))=cs.map id:=by rw [h2,List.map_id]
 have e:=congrArg (fun c=>c.p.lk) (List.map_inj_left.1 this c hc)
 rw [leads_none] at e
 have e0:numI (canonL cs []) eT=0:=by unfold numI;rw [if_pos rfl]
 rw [e0] at e
 exact e.symm
def PosC (L:List Ce):Prop:=∀ c∈L,0≤c.p.fg∧0≤c.p.bg
open Go.RowKit
def decS (L:List Int):Int × Nat:=match headS L with
 | some (r,n)=>(r,n)
 | none=>(65533,1)
theorem headN {L:List Int} (hne:L≠[]):headS L=if szF (L.getD 0 0)=1 then some (L.getD 0 0,1)
  else if szF (L.getD 0 0)=2∧2≤L.length∧okF (L.getD 0 0) (L.getD 1 0)=true then some (v2 (L.getD 0 0) (L.getD 1 0),2)
  else if szF (L.getD 0 0)=3∧3≤L.length∧okF (L.getD 0 0) (L.getD 1 0)=true∧ctF (L.getD 2 0)=true then some (v3 (L.getD 0 0) (L.getD 1 0) (L.getD 2 0),3)
  else if szF (L.getD 0 0)=4∧4≤L.length∧okF (L.getD 0 0) (L.getD 1 0)=true∧ctF (L.getD 2 0)=true∧ctF (L.getD 3 0)=true then some (v4 (L.getD 0 0) (L.getD 1 0) (L.getD 2 0) (L.getD 3 0),4)
  else none:=by
 rcases L with _ | ⟨a,_ | ⟨b,_ | ⟨c,_ | ⟨d,t⟩⟩⟩⟩
 · exact absurd rfl hne
 all_goals simp [headS]
set_option maxHeartbeats 1600000 in
theorem dec_nat (n x0 x1 x2 x3:Nat) (h0:x0<256) (h1:x1<256) (h2:x2<256) (h3:x3<256) (hn:1≤n) {L:List Int} (hl:L.length=n) (e0:L.getD 0 0=x0) (e1:L.getD 1 0=x1) (e2:L.getD 2 0=x2) (e3:L.getD 3 0=x3) :
  ((Lib.decodeN n x0 x1 x2 x3).1:Int)=(decS L).1∧(Lib.decodeN n x0 x1 x2 x3).2=(decS L).2:=by
 have hne:L≠[]:=fun e=>by subst e;simp at hl;omega
 unfold decS
 rw [headN hne,e0,e1,e2,e3,hl]
 rcases first_sz x0 h0 with ⟨hX,hsz⟩ | ⟨hX,hsz⟩ | ⟨X,hX,hX2,hX240,hm,hs2,hs4,hlo,hhi,h5⟩
 · rw [Lib.ascii_eq _ _ _ _ _ hX,if_pos hsz]
   exact ⟨rfl,rfl⟩
 · rw [Lib.bad_eq _ _ _ _ _ h0 hX,hsz]
   simp
 · have hs:=Lib.slow_eq n x0 x1 x2 x3 hn h1 h2 h3 (by rw [hX];exact hX240)
   rw [hX,hm] at hs
   rw [← hs]
   have hok:okF x0 x1=decide (loF x0≤x1∧x1≤hiF x0):=rfl
   rw [hok,← hlo,← hhi]
   clear hs hlo hhi hm hok
   generalize Lib.accLo (X / 16)=lo
   generalize Lib.accHi (X / 16)=hi
   unfold Lib.slowN ctF v2 v3 v4
   have hs:szF x0=2∨szF x0=3∨szF x0=4:=by omega
   rcases hs with hs | hs | hs<;>rw [hs]<;>simp only [Nat.reduceEqDiff,if_false,false_and,true_and,decide_eq_true_eq,Nat.reduceLeDiff,if_true,Nat.le_refl]
   · split
     · rw [if_neg (by omega)];exact ⟨rfl,rfl⟩
     · split
       · rw [if_neg (by omega)];exact ⟨rfl,rfl⟩
       · rw [if_pos (by omega)];simp
   · split
     · rw [if_neg (by omega)];exact ⟨rfl,rfl⟩
     · split
       · rw [if_neg (by omega)];exact ⟨rfl,rfl⟩
       · split
         · rw [if_neg (by omega)];exact ⟨rfl,rfl⟩
         · rw [if_pos (by omega)];simp
   · split
     · rw [if_neg (by omega)];exact ⟨rfl,rfl⟩
     · split
       · rw [if_neg (by omega)];exact ⟨rfl,rfl⟩
       · split
         · rw [if_neg (by omega)];exact ⟨rfl,rfl⟩
         · split
           · rw [if_neg (by omega)];exact ⟨rfl,rfl⟩
           · rw [if_pos (by omega)];simp
theorem sL_getD (s:ByteArray) (k:Nat):((s.data.toList.getD k 0).toNat:Int)=(sL s).getD k 0:=by
 unfold sL
 rw [List.getD,List.getD,List.getElem?_map]
 cases s.data.toList[k]?<;>rfl
theorem dec_at (s:ByteArray) (pos:Nat) (h:pos<s.size):((Utf8.decode s pos).1:Int)=(decS ((sL s).drop pos)).1∧(Utf8.decode s pos).2=(decS ((sL s).drop pos)).2:=by
 rw [Lib.decode_N]
 have hg:∀ k,((sL s).drop pos).getD k 0=(sL s).getD (pos+k) 0:=fun k=>by simp [List.getD]
 refine dec_nat _ _ _ _ _ (UInt8.toNat_lt _) (UInt8.toNat_lt _) (UInt8.toNat_lt _) (UInt8.toNat_lt _) ?_ ?_ ?_ ?_ ?_ ?_
 · have:s.data.toList.length=s.size:=rfl
   omega
 · rw [List.length_drop,sL_len];rfl
 · rw [hg,sL_getD];rfl
 · rw [hg,sL_getD]
 · rw [hg,sL_getD]
 · rw [hg,sL_getD]
theorem encAll_split (ls:List Int) (k:Nat):encAll ls=encAll (ls.take k) ++ encAll (ls.drop k):=by
 unfold encAll
 rw [List.map_take,List.map_drop,← List.flatten_append,List.take_append_drop]
open Go.ChangeShapes Go.WideShapes Go.ChangeAt Go.RowKit
structure Ik (q:IntKind) (w:World) (A:Option Addr) (n:Nat) (zs:List Int):Prop where
 len:zs.length=n
 at_:0<n→∃ ad,A=some ad∧ad.block<w.heap.size∧∀ k,k<n→w.cell? (ad.add k)=some (.int q (zs.getD k 0))
section
variable {q:IntKind} {w w':World} {A:Option Addr} {n:Nat} {zs:List Int}
theorem Ik.nil (q:IntKind) (w:World) (A:Option Addr):Ik q w A 0 []:=⟨rfl,fun h=>absurd h (by omega)⟩
theorem Ik.keep (h:Ik q w A n zs) (hs:w.heap.size≤w'.heap.size) (hk:∀ p:Addr,0<n→A.map (·.block)=some p.block→p.block<w.heap.size→w'.cell? p=w.cell? p):Ik q w' A n zs :=
 ⟨h.len,fun hn=>by
  obtain ⟨ad,rfl,hb,hc⟩:=h.at_ hn
  exact ⟨ad,rfl,by omega,fun k hkn=>(hk (ad.add k) hn (by simp [addBlock]) (by rw [addBlock];exact hb)).trans (hc k hkn)⟩⟩
theorem Ik.below (h:Ik q w A n zs) (hb:Below w.heap.size w w'):Ik q w' A n zs:=h.keep hb.size fun _ _ _ hp=>hb.cell hp
theorem Ik.grown (h:Ik q w A n zs) {row:Option Nat} (hg:w.grownBy w' row) (hne:∀ ad,A=some ad→0<n→row≠some ad.block):Ik q w' A n zs :=
 h.keep hg.size fun p hn hA hp=>World.cell?_of_block (hg.block p.block hp (fun e=>by
  cases A with
  | none=>simp at hA
  | some ad=>simp at hA;exact hne ad rfl hn (by rw [← e,hA])))
end
open Go.RowKit
theorem Ik.own {q:IntKind} {w:World} {A:Option Addr} {n:Nat} {zs:List Int} {base:Nat} {e:TypeId} {c:Nat} (h:w.ownsRow base e 1 (.slice A n c) n (zs.map (Value.int q))):Ik q w A n zs:=by
 have hl:zs.length=n:=by have:=h.1;simpa using this
 refine ⟨hl,fun hn=>?_⟩
 obtain ⟨_,h2⟩:=h
 rcases h2 with ⟨h3,h4⟩ | ⟨g,cap,cur,hv,hb,hg,hle,hm,hs,ht⟩
 · omega
 · injection hv with hA _ hc
   subst hA
   refine ⟨_,rfl,(Array.getElem?_eq_some_iff.1 hg).1,fun k hk=>?_⟩
   rw [addHead,cell_of_row w g k cur e (0,0) hg]
   have h5:(zs.map (Value.int q))[k]?=some (Value.int q (zs.getD k 0)):=by
    rw [List.getElem?_map,List.getElem?_eq_getElem (by omega),getD_lt (by omega)];rfl
   rw [← ht,List.getElem?_take,if_pos (by omega)] at h5
   simpa using h5
theorem Ik.cell {q:IntKind} {w:World} {n:Nat} {zs:List Int} {ad:Addr} (h:Ik q w (some ad) n zs) {k:Nat} (hk:k<n):w.cell? (ad.add k)=some (.int q (zs.getD k 0)):=by
 obtain ⟨ad',e,_,hc⟩:=h.at_ (by omega)
 injection e with e
 subst e
 exact hc k hk
theorem Ik.news {q:IntKind} {w:World} {ad:Addr} {n:Nat} {zs:List Int} (h:Ik q w (some ad) n zs):∀ (j:Nat) (u:Value),(zs.map (Value.int q))[j]?=some u→w.cell? (ad.add j)=some u:=by
 intro j u hu
 have hj:j<zs.length:=by
  rcases Nat.lt_or_ge j zs.length with hlt | hge
  · exact hlt
  · rw [List.getElem?_eq_none (by simpa using hge)] at hu;cases hu
 have hl:=h.len
 rw [h.cell (k:=j) (by omega),getD_lt hj]
 rw [List.getElem?_map,List.getElem?_eq_getElem hj] at hu
 simpa using hu
theorem oneCellsI (q:IntKind) (zs:List Int):∀ u∈zs.map (Value.int q),u.oneCell'=true:=by
 intro u hu
 obtain ⟨z,_,rfl⟩:=List.mem_map.1 hu
 rfl
theorem Ik.one (q:IntKind) (w:World) (e:TypeId) (z:Int):Ik q (w.alloc (.cells #[.int q z] e)) (some ⟨w.heap.size,0,none⟩) 1 [z]:=by
 refine ⟨rfl,fun _=>⟨_,rfl,by simp,fun k hk=>?_⟩⟩
 obtain rfl:k=0:=by omega
 rw [addHead,cell_of_row _ _ 0 _ _ _ (heap_alloc_new w (.cells #[.int q z] e))]
 rfl
theorem wpList_appI {P:Program} (w:World) {ops:Array Oper} {rest:List Oper} {o:Oper} {a:Act} {Q:Exit→Act→World→Prop} (hgd:o.guard=none) (s x:Operand) (t:TypeId)
  (ho:o.op=.call { callee:=.builtin .append,args:=#[s,x],argTypes:=#[t,t] })
  (base:Nat) (e:TypeId) (q:IntKind) (b8:Nat) (hb8:b8≤8) (ht:P.underlying t=some (.slice e)) (hi:(P.info? e).map (fun i=>(i.zero,i.size,i.bytes))=some (some (.int q 0),1,b8))
  (v:Value) (n:Nat) (xs:List Value) (hs:a.eval s=v) (hown:w.ownsRow base e 1 v n xs)
  (A:Option Addr) (m c k:Nat) (hk:n+m=k) (news:List Int) (hx:a.eval x=.slice A m c) (hr:Ik q w A m news) (h63:k≤1000000) (hbase:base≤w.heap.size)
  (h:∀ A' c' w',w'.ownsRow base e 1 (.slice A' k c') k (xs ++ news.map (Value.int q))→w.grownBy w' v.ownBlock→wpList P ops Q rest (a.put o.dst (.slice A' k c')) w'):wpList P ops Q (o :: rest) a w:=by
 subst hk
 obtain ⟨i0,hi,hz0,hz1,hz2⟩:=info_parts hi
 have hk:∀ v' w',w'.ownsRow base e 1 v' (n+m) (xs ++ news.map (Value.int q))→w.grownBy w' v.ownBlock→wpList P ops Q rest (a.put o.dst v') w':=by
  intro v' w' h1 h2
  obtain ⟨A',c',rfl,_⟩:=own_shape h1
  exact h A' c' w' h1 h2
 have h8:(n+m)*b8≤1000000*8:=Nat.mul_le_mul h63 hb8
 cases A with
 | none =>
  have hm:m=0:=by
   rcases Nat.eq_zero_or_pos m with h0 | h0
   · exact h0
   · obtain ⟨ad,e1,_⟩:=hr.at_ h0
     cases e1
  subst hm
  have hn:news=[]:=List.eq_nil_of_length_eq_zero hr.len
  subst hn
  refine wpList_plain hgd fun K hK=>?_
  have hrun:=run_app_nil (P:=P) w base t o.type e i0 1 ht hi v n xs hown c
  unfold Oper.wp
  simp [execOp,ho,resolve,invoke,builtin,hs,hx,hrun,Result.andThen]
  exact hK _ _ (hk v w (by simpa using hown) (World.grownBy.refl w _))
 | some ad =>
  exact wpList_append_own w hgd s x t ho base e i0 (.int q 0) 1 b8 ht hi hz0 hz1 hz2 rfl (by decide) v n xs hs hown ad m c (news.map (Value.int q)) hx (by simp [hr.len]) hr.news (oneCellsI q _)
   (by unfold maxLen;omega) (by omega) hbase fun v' w' h1 h2 _=>hk v' w' h1 h2
end Go.Proofs.YtikhknnhmnopbaaGreatDoor
