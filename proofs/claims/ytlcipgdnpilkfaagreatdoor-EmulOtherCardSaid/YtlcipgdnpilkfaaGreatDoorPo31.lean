/-
  Part 31 of what the laws of emul want: LinksCells, LinksSweep.
-/
import Derived.WalkKit
import Derived.Test.YtlcipgdnpilkfaaGreatDoorPo04
import Derived.Test.YtlcipgdnpilkfaaGreatDoorPo10
import Derived.Test.YtlcipgdnpilkfaaGreatDoorPo30
namespace Go.Proofs.YtlcipgdnpilkfaaGreatDoor
open Go.RowKit
structure Cx (base:Nat) (w:World) (A:Option Addr) (n c:Nat) (L:List Ce):Prop where
 len:L.length=n
 le:n≤c
 max:c≤maxLen
 own:0<n→∃ g,A=some ⟨g,0,none⟩∧base≤g∧Rw ceV 66 w g L
section
variable {base:Nat} {w w':World} {A:Option Addr} {n c:Nat} {L:List Ce}
theorem Cx.vs (h:Cx base w A n c L):Vs ceV w A n L:=by
 refine ⟨h.len,fun hn=>?_⟩
 obtain ⟨g,rfl,_,hR⟩:=h.own hn
 have:=hR.vs
 rw [h.len] at this
 exact this.at_ hn
theorem Cx.lower {B:Nat} (h:Cx base w A n c L) (hB:B≤base):Cx B w A n c L:=⟨h.len,h.le,h.max,fun hn=>by obtain ⟨g,e,hb,hR⟩:=h.own hn;exact ⟨g,e,by omega,hR⟩⟩
theorem Cx.keep (h:Cx base w A n c L) (hs:∀ g,base≤g→g<w.heap.size→w'.heap[g]?=w.heap[g]?):Cx base w' A n c L :=
 ⟨h.len,h.le,h.max,fun hn=>by obtain ⟨g,e,hb,hR⟩:=h.own hn;exact ⟨g,e,hb,hR.kept (hs g hb hR.lt)⟩⟩
theorem Cx.below (h:Cx base w A n c L) (hb:Below w.heap.size w w'):Cx base w' A n c L:=h.keep fun g _ hg=>hb.block g hg
end
def CxEnd (L:List Ce) (w:World) (e:Ending) (w':World):Prop:=Below w.heap.size w w'∧∃ A c,e=.returned (.slice A L.length c)∧Cx w.heap.size w' A L.length c L
theorem cloneCx_any {w:World} {A:Option Addr} {n c:Nat} {L:List Ce} (h:Vs ceV w A n L) (hn:n≤1000000) :
  Calls Tryz.prog 94 #[.slice A n c] w (CxEnd L w):=by
 have hrun:=fun (w:World)=>Lib.run_eql_slice_nil (P:=Tryz.prog) w 24 66 A n c 0 0 Tryz.underlying24
 cases A with
 | none =>
  have H0:Hid (n=0):=Lib.hid (by
   rcases Nat.eq_zero_or_pos n with h0 | h0
   · exact h0
   · obtain ⟨ad,e⟩:=h.addr h0;cases e)
  have X:CxEnd L w (.returned (.slice none 0 0)) w:=by
   obtain rfl:L=[]:=List.eq_nil_of_length_eq_zero (h.len.trans H0.out)
   exact ⟨Below.refl _ _,none,0,rfl,rfl,Nat.le_refl _,by unfold maxLen;omega,fun hn=>absurd hn (by decide)⟩
  clear h
  go_enter Tryz.func94,Tryz.ntmps94
  go_wp2_with fail
  go_ret
  exact X
 | some ad =>
  have H:=Lib.hid (h.alloc (.cells #[] 66))
  clear h
  go_enter Tryz.func94,Tryz.ntmps94
  go_wp2_with (at_builtin;refine wpList_app_V _ rfl _ _ 24 rfl ceV_len one_ce w.heap.size 66 _ 20 (by omega) Tryz.underlying24 infoCe3 rfl (by omega) (.slice (some ⟨w.heap.size,0,none⟩) 0 0) 0 [] rfl (World.ownsRow_lit w #[] 0 (Nat.le_refl _) (by unfold maxLen;omega) rfl) (some ad) n c n (by omega) L rfl H.out hn (by simp) ?_;intro A' c' w1 hown hg)
  have X:CxEnd L w (.returned (.slice A' n c')) w1:=by
   obtain ⟨A2,c2,e2,hle,hmx⟩:=own_shape hown
   injection e2 with _ _ e2
   subst e2
   have hl:=H.out.len
   refine ⟨((Below.refl _ _).alloc (Nat.le_refl _) _).grown hg (by simp) (by intro k hk;have:w.heap.size=k:=(by simpa [Value.ownBlock] using hk);omega),A',c',by rw [hl],⟨rfl,by omega,hmx,fun h0=>?_⟩⟩
   obtain ⟨g,e,hb,_,_,hR⟩:=own_some (by omega) hown
   exact ⟨g,e,hb,hR⟩
  clear hown hg
  go_ret
  exact X
theorem row_setLk (z:Int):∀ (L:List Ce) (k:Nat),k<L.length→(rowV ceV L).set (k*6+5) (.int .u16 z)=rowV ceV (L.set k (setLk (cAt L k) z)):=by
 intro L
 induction L with
 | nil=>intro k hk;simp at hk
 | cons a L ih =>
  intro k hk
  cases k with
  | zero =>
   show (ceV a ++ rowV ceV L).set 5 _=ceV (setLk a z) ++ rowV ceV L
   rw [List.set_append_left _ _ (by rw [ceV_len];omega)]
   rfl
  | succ k =>
   have:=ih k (by simpa using hk)
   show (ceV a ++ rowV ceV L).set ((k+1)*6+5) _=ceV a ++ rowV ceV (L.set k (setLk (cAt L k) z))
   rw [List.set_append_right _ _ (by rw [ceV_len];omega),ceV_len,← this,show (k+1)*6+5-6=k*6+5 by omega]
theorem Rw.setLk {t:TypeId} {w:World} {g:Nat} {L:List Ce} (h:Rw ceV t w g L) {k:Nat} (hk:k<L.length) (z:Int) :
  Rw ceV t (w.setCell ⟨g,k*6+5,none⟩ (.int .u16 z)) g (L.set k (Go.Proofs.YtlcipgdnpilkfaaGreatDoor.setLk (cAt L k) z)):=by
 obtain ⟨r,h⟩:=h
 refine ⟨r,?_⟩
 rw [heap_setCell_same w g (k*6+5) _ _ _ h,← row_setLk z L k hk]
 congr 2
 rw [List.setIfInBounds_toArray,List.set_append_left]
 rw [rowV_len ceV_len]
 omega
def partC (cs:List Ce) (t:List ByteArray) (k:Nat):List Ce:=(cs.take k).map (fun c=>setLk c (numI (canonL cs t) (leadsS t c.p.lk))) ++ cs.drop k
theorem partC_len (cs:List Ce) (t:List ByteArray) {k:Nat} (hk:k≤cs.length):(partC cs t k).length=cs.length:=by simp [partC];omega
theorem partC_zero (cs:List Ce) (t:List ByteArray):partC cs t 0=cs:=by simp [partC]
theorem partC_all (cs:List Ce) (t:List ByteArray):partC cs t cs.length=canonC cs t:=by simp [partC,canonC]
theorem partC_at {cs:List Ce} {t:List ByteArray} {k:Nat} (hk:k<cs.length):cAt (partC cs t k) k=cAt cs k:=by
 have h:(partC cs t k)[k]?=cs[k]?:=by
  unfold partC
  rw [List.getElem?_append_right (by simp;omega),List.length_map,List.length_take,List.getElem?_drop]
  congr 1
  omega
 rw [getElem?_cAt hk,getElem?_cAt (by rw [partC_len cs t (by omega)];exact hk)] at h
 exact Option.some.inj h
theorem partC_step {cs:List Ce} {t:List ByteArray} {k:Nat} (hk:k<cs.length) :
  (partC cs t k).set k (setLk (cAt cs k) (numI (canonL cs t) (leadsS t (cAt cs k).p.lk)))=partC cs t (k+1):=by
 unfold partC
 have hl:((cs.take k).map (fun c=>setLk c (numI (canonL cs t) (leadsS t c.p.lk)))).length=k:=by simp;omega
 rw [List.set_append_right _ _ (by omega),hl,Nat.sub_self,List.drop_eq_getElem_cons hk,List.set_cons_zero,List.take_succ_eq_append_getElem hk,List.map_append,List.append_assoc]
 rw [cAt_lt hk]
 rfl
theorem canonL_take {cs:List Ce} {t:List ByteArray} {k:Nat} (hk:k<cs.length):canonL (cs.take (k+1)) t=addT (canonL (cs.take k) t) (leadsS t (cAt cs k).p.lk):=by
 unfold canonL seqT
 rw [List.take_succ_eq_append_getElem hk,List.map_append,List.foldl_append,cAt_lt hk]
 rfl
theorem canonL_pre (cs:List Ce) (t:List ByteArray) (k:Nat):∃ m,canonL cs t=canonL (cs.take k) t ++ m:=by
 obtain ⟨m,e⟩:=fold_pre (seqT (cs.drop k) t) (canonL (cs.take k) t)
 refine ⟨m,?_⟩
 rw [← e]
 unfold canonL
 conv=>lhs;rw [← List.take_append_drop k cs]
 unfold seqT
 rw [List.map_append,List.foldl_append]
theorem num_take {cs:List Ce} {t:List ByteArray} {k:Nat} (hk:k<cs.length) (hx:leadsS t (cAt cs k).p.lk≠eT) :
  numI (canonL cs t) (leadsS t (cAt cs k).p.lk)=placeI (canonL (cs.take (k+1)) t) (leadsS t (cAt cs k).p.lk)+1:=by
 obtain ⟨m,e⟩:=canonL_pre cs t (k+1)
 have hin:leadsS t (cAt cs k).p.lk∈canonL (cs.take (k+1)) t:=by
  rw [canonL_take hk]
  rcases addT_cases (canonL (cs.take k) t) (leadsS t (cAt cs k).p.lk) with ⟨h1,e1⟩ | ⟨_,e1⟩<;>rw [e1]
  · exact h1.resolve_left hx
  · simp
 unfold numI
 rw [if_neg hx,e,placeI_append hin]
theorem num_none {cs:List Ce} {t:List ByteArray} {z:Int} (hx:leadsS t z=eT):numI (canonL cs t) (leadsS t z)=0:=by unfold numI;rw [if_pos hx]
open Go.RowKit
theorem lastN_spec (l:List ByteArray):(0<lastN l→sAt l (lastN l-1)≠eT)∧∀ j,lastN l≤j→sAt l j=eT:=by
 induction l with
 | nil=>exact ⟨fun h=>absurd h (by decide),fun j _=>sAt_ge (Nat.zero_le _)⟩
 | cons a l ih =>
  unfold lastN
  by_cases h0:lastN l=0
  · rw [if_pos h0]
    have hr:∀ j,sAt l j=eT:=fun j=>ih.2 j (by omega)
    by_cases ha:a=eT
    · rw [if_pos ha]
      refine ⟨fun h=>absurd h (by decide),fun j _=>?_⟩
      cases j with
      | zero=>exact ha
      | succ j=>exact hr j
    · rw [if_neg ha]
      refine ⟨fun _=>ha,fun j hj=>?_⟩
      cases j with
      | zero=>omega
      | succ j=>exact hr j
  · rw [if_neg h0]
    refine ⟨fun _=>?_,fun j hj=>?_⟩
    · have:=ih.1 (by omega)
      obtain ⟨k,hk⟩:∃ k,lastN l=k+1:=⟨lastN l-1,by omega⟩
      rw [hk] at this ⊢
      exact this
    · cases j with
      | zero=>omega
      | succ j=>exact ih.2 j (by omega)
theorem sAt_set {l:List ByteArray} {k i:Nat} {s:ByteArray} (hi:i<l.length):sAt (l.set k s) i=if k=i then s else sAt l i:=by
 rw [sAt_lt (by rw [List.length_set];exact hi),List.getElem_set,sAt_lt hi]
theorem lastN_set {l:List ByteArray} {k:Nat} {s:ByteArray} (hk:k<l.length) (hs:s≠eT):lastN (l.set k s)=max (lastN l) (k+1):=by
 obtain ⟨h1,h2⟩:=lastN_spec l
 have hl:=lastN_le l
 refine lastN_is (by rw [List.length_set];omega) (fun h=>?_) fun j hj=>?_
 · rw [sAt_set (by omega)]
   split
   · exact hs
   · rename_i hne
     rcases Nat.lt_or_ge k (lastN l) with h3 | h3
     · rw [show max (lastN l) (k+1)-1=lastN l-1 by omega]
       exact h1 (by omega)
     · omega
 · by_cases hjl:j<l.length
   · rw [sAt_set hjl,if_neg (by omega)]
     exact h2 j (by omega)
   · exact sAt_ge (by rw [List.length_set];omega)
theorem sweepM_nil (t:List ByteArray):sweepM t []=List.replicate t.length eT :=
 texts_ext (by simp [sweepM_len]) fun k hk=>by
  rw [sweepM_len] at hk
  rw [sweepM_at hk,if_neg (by simp),sAt_lt (by simpa using hk)]
  simp
theorem lastN_none (n:Nat):lastN (List.replicate n eT)=0 :=
 lastN_is (Nat.zero_le _) (fun h=>absurd h (by decide)) fun j _=>by
  by_cases hj:j<n
  · rw [sAt_lt (by simpa using hj)];simp
  · exact sAt_ge (by simp;omega)
theorem sweep_no {t:List ByteArray} {us:List Int} {z:Int} (h:textI t z=eT):sweepM t (us ++ [z])=sweepM t us :=
 texts_ext (by simp [sweepM_len]) fun k hk=>by
  rw [sweepM_len] at hk
  rw [sweepM_at hk,sweepM_at hk]
  by_cases hz:(k:Int)+1=z
  · have e:sAt t k=eT:=by
     rw [← h,← hz]
     unfold textI
     rw [if_neg (by omega),show ((k:Int)+1).toNat-1=k by omega]
    rw [e,if_pos (by simp [hz])]
    split<;>rfl
  · have e:((k:Int)+1∈us ++ [z])↔((k:Int)+1∈us):=by simp [hz]
    by_cases hu:(k:Int)+1∈us
    · rw [if_pos (e.2 hu),if_pos hu]
    · rw [if_neg (fun x=>hu (e.1 x)),if_neg hu]
theorem sweep_yes {t:List ByteArray} {us:List Int} {k:Nat}:sweepM t (us ++ [(k:Int)+1])=(sweepM t us).set k (sAt t k) :=
 texts_ext (by simp [sweepM_len]) fun i hi=>by
  rw [sweepM_len] at hi
  rw [sAt_set (by rw [sweepM_len];exact hi),sweepM_at hi,sweepM_at hi]
  by_cases hz:k=i
  · subst hz
    rw [if_pos rfl,if_pos (by simp)]
  · rw [if_neg hz]
    have e:((i:Int)+1∈us ++ [(k:Int)+1])↔((i:Int)+1∈us):=by
     simp only [List.mem_append,List.mem_singleton]
     constructor
     · rintro (x | x)
       · exact x
       · omega
     · exact Or.inl
    by_cases hu:(i:Int)+1∈us
    · rw [if_pos (e.2 hu),if_pos hu]
    · rw [if_neg (fun x=>hu (e.1 x)),if_neg hu]
theorem text_some {t:List ByteArray} {z:Int} (h:textI t z≠eT):∃ k:Nat,z=(k:Int)+1∧k<t.length∧textI t z=sAt t k:=by
 unfold textI at h ⊢
 by_cases h1:z<1∨(t.length:Int)<z
 · rw [if_pos h1] at h;exact absurd rfl h
 · refine ⟨z.toNat-1,by omega,by omega,if_neg h1⟩
theorem take_snocZ {us:List Int} {k:Nat} (h:k<us.length):us.take (k+1)=us.take k ++ [us.getD k 0]:=by
 rw [List.take_add_one,List.getElem?_eq_getElem h]
 simp [List.getD,h]
structure Sw (w:World) (b:Nat) (n:Nat) (L:List ByteArray) (us:List Int) (t:Nat) (wr:World):Prop where
 tx:Tx b wr (some ⟨b,0,none⟩) n n (sweepM L us)
 last:t=lastN (sweepM L us)
 bel:Below w.heap.size w wr
set_option maxHeartbeats 1600000 in
theorem sweep_any {w:World} {A A':Option Addr} {n c m c':Nat} {L:List ByteArray} {us:List Int} (h:Vs stV w A n L) (h':Ik .u16 w A' m us) (hu:∀ z∈us,0≤z∧z≤65535) (hn:n≤60000) (hm:m≤140737488351232) :
  Calls Tryz.prog 190 #[.slice A n c,.slice A' m c'] w (TxEnd (sweepS L us) w):=by
 have hmk:=make_texts n (by omega)
 obtain ⟨b,hb⟩:∃ b,b=w.heap.size:=⟨_,rfl⟩
 have HB:=Lib.hid hb
 have HM:=Lib.hid (Tx.made w n (by omega))
 have H:=Lib.hid (And.intro h (And.intro h' hu))
 clear h h' hu hb
 go_enter Tryz.func190,Tryz.ntmps190
 go_wp2
 have HS:Hid (Sw w b n L (us.take 0) 0 (w.alloc (.cells (rowV stV (List.replicate n eT)).toArray 9))):=by
  refine Lib.hid ⟨?_,?_,(Below.refl _ _).alloc (Nat.le_refl _) _⟩
  · have e:sweepM L []=List.replicate n eT:=by rw [sweepM_nil,H.out.1.len]
    show Tx b _ _ n n (sweepM L [])
    rw [e,HB.out]
    exact HM.out
  · show 0=lastN (sweepM L [])
    rw [sweepM_nil,lastN_none]
 rw [← HB.out] at ⊢
 generalize w.alloc (.cells (rowV stV (List.replicate n eT)).toArray 9)=w1 at HS ⊢
 go_loopw [6,15] (fun e i wr=>∃ j t:Nat,j≤m∧i=.int .i64 j∧e=.int .i64 t∧t≤n∧Sw w b n L (us.take j) t wr) (fun _ i _=>m-(intOf i).toNat)
 case atStart=>exact ⟨0,0,Nat.zero_le _,rfl,rfl,Nat.zero_le _,HS.out⟩
 case round =>
  obtain ⟨j,t,hj,rfl,rfl,htn,hS⟩:=hrel
  have HW:=Lib.hid hS
  clear hS HS
  by_cases hlt:j<m
  · have hv:=H.out.1.below HW.out.bel
    have hi:=H.out.2.1.below HW.out.bel
    obtain ⟨ad,rfl⟩:∃ ad,A'=some ad:=by obtain ⟨ad,e,_⟩:=hi.at_ (by omega);exact ⟨ad,e⟩
    have hc:=hi.cell hlt
    have hz:=H.out.2.2 (us.getD j 0) (by rw [getD_lt (by rw [H.out.2.1.len];exact hlt)];exact List.getElem_mem _)
    have HT:=Lib.hid (take_snocZ (us:=us) (k:=j) (by rw [H.out.2.1.len];exact hlt))
    have HV:=Lib.hid hv
    clear hv hi
    generalize us.getD j 0=z at hc hz HT
    have hz0:=hz.1
    have hz1:=hz.2
    clear hz
    by_cases hx:textI L z=eT
    · have HX:=Lib.hid hx
      have HN:Hid (Sw w b n L (us.take (j+1)) t wr):=Lib.hid (by
       rw [HT.out]
       exact ⟨by rw [sweep_no hx];exact HW.out.tx,by rw [sweep_no hx];exact HW.out.last,HW.out.bel⟩)
      clear hx
      have he:=emp_yes (rfl:eT=eT)
      go_wp2_with fail
      refine (textT_any HV.out z hz0 hz1 (by omega)).mono ?_
      rintro e w' ⟨rfl,rfl⟩
      rw [HX.out]
      go_wp2_with fail
      go_roundw
      case rel=>exact ⟨j+1,t,by omega,by go_num,rfl,htn,HN.out⟩
      case measure=>simp [intOf];omega
    · obtain ⟨k,rfl,hk,e⟩:=text_some hx
      have HX:=Lib.hid e
      have he:=emp_no hx
      rw [e] at he
      have hkn:k<n:=by rw [← H.out.1.len];exact hk
      obtain ⟨q1,q2⟩:=HW.out.tx.stored k (sAt L k)
      have hfr:wr.frozen? ⟨b,k,none⟩=false:=by
       obtain ⟨g,eg,_,_,hf⟩:=HW.out.tx.blk (by omega)
       injection eg with eg
       injection eg with eg
       rw [eg]
       exact hf k
      have hck:wr.cell? ⟨b,k,none⟩=some (.string (sAt (sweepM L (us.take j)) k)):=by
       have:=HW.out.tx.vs.str hkn
       rwa [addHead] at this
      have HN:Hid (Sw w b n L (us.take (j+1)) (max t (k+1)) (wr.setCell ⟨b,k,none⟩ (.string (sAt L k)))):=Lib.hid (by
       rw [HT.out]
       refine ⟨by rw [sweep_yes];exact q1,?_,HW.out.bel.setCell (by show w.heap.size≤b;rw [HB.out];exact Nat.le_refl _) _⟩
       rw [sweep_yes,lastN_set (by rw [sweepM_len];exact hk) (by rw [← e];exact hx),← HW.out.last])
      clear hx e q1 q2 hk HW
      generalize sAt (sweepM L (us.take j)) k=y at hck
      generalize sAt L k=x at HX he HN
      have hmax:max (t:Int) ((k:Int)+1)=((max t (k+1):Nat):Int):=by omega
      have hmn:max t (k+1)≤n:=by omega
      obtain ⟨t',ht'⟩:∃ t',max t (k+1)=t':=⟨_,rfl⟩
      rw [ht'] at hmax hmn HN
      clear ht'
      go_wp2_with fail
      refine (textT_any HV.out _ hz0 hz1 (by omega)).mono ?_
      rintro e w' ⟨rfl,rfl⟩
      rw [HX.out]
      go_wp2_with fail
      go_roundw
      case rel=>exact ⟨j+1,t',by omega,by go_num,rfl,hmn,HN.out⟩
      case measure=>simp [intOf];omega
  · have e:us.take j=us:=List.take_of_length_le (by rw [H.out.2.1.len];omega)
    have X:TxEnd (sweepS L us) w (.returned (.slice (some ⟨b,0,none⟩) t n)) wr:=by
     have h1:=HW.out.tx.front (k:=t) htn
     have h2:=HW.out.last
     rw [e] at h1 h2
     rw [h2] at h1 ⊢
     rw [HB.out] at h1 ⊢
     exact ⟨_,rfl,h1.post HW.out.bel⟩
    clear e
    go_wp2_with fail
    go_ret
    exact X
end Go.Proofs.YtlcipgdnpilkfaaGreatDoor
