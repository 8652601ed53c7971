/-
  Part 11 of what the laws of emul want: LinksText, LinksCells, LinksSweep, LinksCanon2.
-/
import Derived.WalkKit
import Derived.Maps.OwnOps
import Derived.StringKeys
import Derived.Maps.OwnSet
import Derived.Maps.RangeWalk
import Derived.Test.YtikhknnhmnopbaaGreatDoorPm04
import Derived.Test.YtikhknnhmnopbaaGreatDoorPm06
import Derived.Test.YtikhknnhmnopbaaGreatDoorPm10
namespace Go.Proofs.YtikhknnhmnopbaaGreatDoor
open Go.RowKit
theorem retSL {a b:ByteArray} (h:a=b):Ending.returned (.string a)=.returned (.string b):=by rw [h]
theorem textI_no {t:List ByteArray} {z:Int} (h:z<1∨(t.length:Int)<z):textI t z=eT:=by unfold textI;rw [if_pos h]
theorem textI_yes {t:List ByteArray} {z:Int} (h1:1≤z) (h2:z≤t.length):textI t z=sAt t (z.toNat-1):=by unfold textI;rw [if_neg (by omega)]
set_option maxHeartbeats 400000 in
theorem textT_any {w:World} {A:Option Addr} {n c:Nat} {L:List ByteArray} (h:Vs stV w A n L) (z:Int) (h0:0≤z) (h1:z≤65535) (hn:n≤140737488351232) :
  Calls Tryz.prog 99 #[.slice A n c,.int .u16 z] w fun e w'=>e=.returned (.string (textI L z))∧w=w':=by
 have HL:=Lib.hid h.len
 by_cases hz:z<1
 · have HR:Hid (textI L z=eT):=Lib.hid (textI_no (Or.inl hz))
   clear h
   go_enter Tryz.func99,Tryz.ntmps99
   go_wp2
   go_ret
   exact ⟨retSL HR.out.symm,rfl⟩
 · by_cases hl:(n:Int)<z
   · have HR:Hid (textI L z=eT):=Lib.hid (textI_no (Or.inr (by rw [HL.out];exact hl)))
     clear h
     go_enter Tryz.func99,Tryz.ntmps99
     go_wp2
     go_ret
     exact ⟨retSL HR.out.symm,rfl⟩
   · obtain ⟨k,rfl⟩:∃ k:Nat,z=(k:Int)+1:=⟨(z-1).toNat,by omega⟩
     have hk:k<n:=by omega
     obtain ⟨ad,rfl⟩:=h.addr (by omega)
     have hc:=h.str hk
     have HR:Hid (textI L ((k:Int)+1)=sAt L k):=Lib.hid (by
      rw [textI_yes (by omega) (by rw [HL.out];omega)]
      congr 1)
     clear h HL
     generalize sAt L k=x at hc HR
     go_enter Tryz.func99,Tryz.ntmps99
     go_wp2
     go_ret
     exact ⟨retSL HR.out.symm,rfl⟩
theorem leadsS_no {t:List ByteArray} {z:Int} (h:textI t z=eT):leadsS t z=eT:=by unfold leadsS;rw [h,eT_not];rfl
set_option maxHeartbeats 800000 in
theorem leadsT_any {w:World} {A:Option Addr} {n c:Nat} {L:List ByteArray} (h:Vs stV w A n L) (z:Int) (h0:0≤z) (h1:z≤65535) (hn:n≤140737488351232) (hs:∀ s∈L,s.size≤140737488351232) :
  Calls Tryz.prog 90 #[.slice A n c,.int .u16 z] w fun e w'=>e=.returned (.string (leadsS L z))∧w=w':=by
 have HL:=Lib.hid h.len
 by_cases hz:z=0
 · have HR:Hid (leadsS L z=eT):=Lib.hid (leadsS_no (textI_no (Or.inl (by omega))))
   clear h hs
   subst hz
   go_enter Tryz.func90,Tryz.ntmps90
   go_wp2
   go_ret
   exact ⟨retSL HR.out.symm,rfl⟩
 · by_cases hl:(n:Int)<z
   · have HR:Hid (leadsS L z=eT):=Lib.hid (leadsS_no (textI_no (Or.inr (by rw [HL.out];exact hl))))
     clear h hs
     have hz':(z == 0)=false:=by simpa using hz
     go_enter Tryz.func90,Tryz.ntmps90
     go_wp2
     go_ret
     exact ⟨retSL HR.out.symm,rfl⟩
   · obtain ⟨k,rfl⟩:∃ k:Nat,z=(k:Int)+1:=⟨(z-1).toNat,by omega⟩
     have hk:k<n:=by omega
     obtain ⟨ad,rfl⟩:=h.addr (by omega)
     have hc:=h.str hk
     have hx:=hs _ (sAt_mem (l:=L) (k:=k) (by rw [HL.out];exact hk))
     have HR:Hid (leadsS L ((k:Int)+1)=if mayT (sAt L k)=true then sAt L k else eT):=Lib.hid (by
      unfold leadsS
      rw [textI_yes (by omega) (by rw [HL.out];omega)]
      rfl)
     clear h HL hs hz
     have hz':((k:Int)+1 == 0)=false:=by simp;omega
     generalize sAt L k=x at hc HR hx
     obtain ⟨B,hB⟩:∃ B,mayT x=B:=⟨_,rfl⟩
     have HB:=Lib.hid hB
     clear hB
     go_enter Tryz.func90,Tryz.ntmps90
     go_wp2_with fail
     refine (refMayT_any x _ hx).mono ?_
     rintro e w' ⟨rfl,rfl⟩
     rw [HB.out]
     cases B
     · have HRR:Hid (leadsS L ((k:Int)+1)=eT):=Lib.hid (by rw [HR.out,HB.out];rfl)
       go_wp2_with fail
       go_ret
       exact ⟨retSL HRR.out.symm,rfl⟩
     · have HRR:Hid (leadsS L ((k:Int)+1)=x):=Lib.hid (by rw [HR.out,HB.out];rfl)
       go_wp2_with fail
       go_ret
       exact ⟨retSL HRR.out.symm,rfl⟩
open Go.RowKit
structure Cx (base:Nat) (w:World) (A:Option Addr) (n c:Nat) (L:List Ce):Prop where
 len:L.length=n
 le:n≤c
 max:c≤maxLen
 own:0<n→∃ g,A=some ⟨g,0,none⟩∧base≤g∧Rw ceV 43 w g L
section
variable {base:Nat} {w w':World} {A:Option Addr} {n c:Nat} {L:List Ce}
theorem Cx.vs (h:Cx base w A n c L):Vs ceV w A n L:=by
 refine ⟨h.len,fun hn=>?_⟩
 obtain ⟨g,rfl,_,hR⟩:=h.own hn
 have:=hR.vs
 rw [h.len] at this
 exact this.at_ hn
theorem Cx.lower {B:Nat} (h:Cx base w A n c L) (hB:B≤base):Cx B w A n c L:=⟨h.len,h.le,h.max,fun hn=>by obtain ⟨g,e,hb,hR⟩:=h.own hn;exact ⟨g,e,by omega,hR⟩⟩
theorem Cx.keep (h:Cx base w A n c L) (hs:∀ g,base≤g→g<w.heap.size→w'.heap[g]?=w.heap[g]?):Cx base w' A n c L :=
 ⟨h.len,h.le,h.max,fun hn=>by obtain ⟨g,e,hb,hR⟩:=h.own hn;exact ⟨g,e,hb,hR.kept (hs g hb hR.lt)⟩⟩
theorem Cx.below (h:Cx base w A n c L) (hb:Below w.heap.size w w'):Cx base w' A n c L:=h.keep fun g _ hg=>hb.block g hg
end
def CxEnd (L:List Ce) (w:World) (e:Ending) (w':World):Prop:=Below w.heap.size w w'∧∃ A c,e=.returned (.slice A L.length c)∧Cx w.heap.size w' A L.length c L
theorem cloneCx_any {w:World} {A:Option Addr} {n c:Nat} {L:List Ce} (h:Vs ceV w A n L) (hn:n≤1000000) :
  Calls Tryz.prog 98 #[.slice A n c] w (CxEnd L w):=by
 have hrun:=fun (w:World)=>Lib.run_eql_slice_nil (P:=Tryz.prog) w 22 43 A n c 0 0 Tryz.underlying22
 cases A with
 | none =>
  have H0:Hid (n=0):=Lib.hid (by
   rcases Nat.eq_zero_or_pos n with h0 | h0
   · exact h0
   · obtain ⟨ad,e⟩:=h.addr h0;cases e)
  have X:CxEnd L w (.returned (.slice none 0 0)) w:=by
   obtain rfl:L=[]:=List.eq_nil_of_length_eq_zero (h.len.trans H0.out)
   exact ⟨Below.refl _ _,none,0,rfl,rfl,Nat.le_refl _,by unfold maxLen;omega,fun hn=>absurd hn (by decide)⟩
  clear h
  go_enter Tryz.func98,Tryz.ntmps98
  go_wp2_with fail
  go_ret
  exact X
 | some ad =>
  have H:=Lib.hid (h.alloc (.cells #[] 43))
  clear h
  go_enter Tryz.func98,Tryz.ntmps98
  go_wp2_with (at_builtin;refine wpList_app_V _ rfl _ _ 22 rfl ceV_len one_ce w.heap.size 43 _ 20 (by omega) Tryz.underlying22 infoCe3 rfl (by omega) (.slice (some ⟨w.heap.size,0,none⟩) 0 0) 0 [] rfl (World.ownsRow_lit w #[] 0 (Nat.le_refl _) (by unfold maxLen;omega) rfl) (some ad) n c n (by omega) L rfl H.out hn (by simp) ?_;intro A' c' w1 hown hg)
  have X:CxEnd L w (.returned (.slice A' n c')) w1:=by
   obtain ⟨A2,c2,e2,hle,hmx⟩:=own_shape hown
   injection e2 with _ _ e2
   subst e2
   have hl:=H.out.len
   refine ⟨((Below.refl _ _).alloc (Nat.le_refl _) _).grown hg (by simp) (by intro k hk;have:w.heap.size=k:=(by simpa [Value.ownBlock] using hk);omega),A',c',by rw [hl],⟨rfl,by omega,hmx,fun h0=>?_⟩⟩
   obtain ⟨g,e,hb,_,_,hR⟩:=own_some (by omega) hown
   exact ⟨g,e,hb,hR⟩
  clear hown hg
  go_ret
  exact X
theorem row_setLk (z:Int):∀ (L:List Ce) (k:Nat),k<L.length→(rowV ceV L).set (k*6+5) (.int .u16 z)=rowV ceV (L.set k (setLk (cAt L k) z)):=by
 intro L
 induction L with
 | nil=>intro k hk;simp at hk
 | cons a L ih =>
  intro k hk
  cases k with
  | zero =>
   show (ceV a ++ rowV ceV L).set 5 _=ceV (setLk a z) ++ rowV ceV L
   rw [List.set_append_left _ _ (by rw [ceV_len];omega)]
   rfl
  | succ k =>
   have:=ih k (by simpa using hk)
   show (ceV a ++ rowV ceV L).set ((k+1)*6+5) _=ceV a ++ rowV ceV (L.set k (setLk (cAt L k) z))
   rw [List.set_append_right _ _ (by rw [ceV_len];omega),ceV_len,← this,show (k+1)*6+5-6=k*6+5 by omega]
theorem Rw.setLk {t:TypeId} {w:World} {g:Nat} {L:List Ce} (h:Rw ceV t w g L) {k:Nat} (hk:k<L.length) (z:Int) :
  Rw ceV t (w.setCell ⟨g,k*6+5,none⟩ (.int .u16 z)) g (L.set k (Go.Proofs.YtikhknnhmnopbaaGreatDoor.setLk (cAt L k) z)):=by
 obtain ⟨r,h⟩:=h
 refine ⟨r,?_⟩
 rw [heap_setCell_same w g (k*6+5) _ _ _ h,← row_setLk z L k hk]
 congr 2
 rw [List.setIfInBounds_toArray,List.set_append_left]
 rw [rowV_len ceV_len]
 omega
def partC (cs:List Ce) (t:List ByteArray) (k:Nat):List Ce:=(cs.take k).map (fun c=>setLk c (numI (canonL cs t) (leadsS t c.p.lk))) ++ cs.drop k
theorem partC_len (cs:List Ce) (t:List ByteArray) {k:Nat} (hk:k≤cs.length):(partC cs t k).length=cs.length:=by simp [partC];omega
theorem partC_zero (cs:List Ce) (t:List ByteArray):partC cs t 0=cs:=by simp [partC]
theorem partC_all (cs:List Ce) (t:List ByteArray):partC cs t cs.length=canonC cs t:=by simp [partC,canonC]
theorem partC_at {cs:List Ce} {t:List ByteArray} {k:Nat} (hk:k<cs.length):cAt (partC cs t k) k=cAt cs k:=by
 have h:(partC cs t k)[k]?=cs[k]?:=by
  unfold partC
  rw [List.getElem?_append_right (by simp;omega),List.length_map,List.length_take,List.getElem?_drop]
  congr 1
  omega
 rw [getElem?_cAt hk,getElem?_cAt (by rw [partC_len cs t (by omega)];exact hk)] at h
 exact Option.some.inj h
theorem partC_step {cs:List Ce} {t:List ByteArray} {k:Nat} (hk:k<cs.length) :
  (partC cs t k).set k (setLk (cAt cs k) (numI (canonL cs t) (leadsS t (cAt cs k).p.lk)))=partC cs t (k+1):=by
 unfold partC
 have hl:((cs.take k).map (fun c=>setLk c (numI (canonL cs t) (leadsS t c.p.lk)))).length=k:=by simp;omega
 rw [List.set_append_right _ _ (by omega),hl,Nat.sub_self,List.drop_eq_getElem_cons hk,List.set_cons_zero,List.take_succ_eq_append_getElem hk,List.map_append,List.append_assoc]
 rw [cAt_lt hk]
 rfl
theorem canonL_take {cs:List Ce} {t:List ByteArray} {k:Nat} (hk:k<cs.length):canonL (cs.take (k+1)) t=addT (canonL (cs.take k) t) (leadsS t (cAt cs k).p.lk):=by
 unfold canonL seqT
 rw [List.take_succ_eq_append_getElem hk,List.map_append,List.foldl_append,cAt_lt hk]
 rfl
theorem canonL_pre (cs:List Ce) (t:List ByteArray) (k:Nat):∃ m,canonL cs t=canonL (cs.take k) t ++ m:=by
 obtain ⟨m,e⟩:=fold_pre (seqT (cs.drop k) t) (canonL (cs.take k) t)
 refine ⟨m,?_⟩
 rw [← e]
 unfold canonL
 conv=>lhs;rw [← List.take_append_drop k cs]
 unfold seqT
 rw [List.map_append,List.foldl_append]
theorem num_take {cs:List Ce} {t:List ByteArray} {k:Nat} (hk:k<cs.length) (hx:leadsS t (cAt cs k).p.lk≠eT) :
  numI (canonL cs t) (leadsS t (cAt cs k).p.lk)=placeI (canonL (cs.take (k+1)) t) (leadsS t (cAt cs k).p.lk)+1:=by
 obtain ⟨m,e⟩:=canonL_pre cs t (k+1)
 have hin:leadsS t (cAt cs k).p.lk∈canonL (cs.take (k+1)) t:=by
  rw [canonL_take hk]
  rcases addT_cases (canonL (cs.take k) t) (leadsS t (cAt cs k).p.lk) with ⟨h1,e1⟩ | ⟨_,e1⟩<;>rw [e1]
  · exact h1.resolve_left hx
  · simp
 unfold numI
 rw [if_neg hx,e,placeI_append hin]
theorem num_none {cs:List Ce} {t:List ByteArray} {z:Int} (hx:leadsS t z=eT):numI (canonL cs t) (leadsS t z)=0:=by unfold numI;rw [if_pos hx]
open Go.RowKit
theorem text_some {t:List ByteArray} {z:Int} (h:textI t z≠eT):∃ k:Nat,z=(k:Int)+1∧k<t.length∧textI t z=sAt t k:=by
 unfold textI at h ⊢
 by_cases h1:z<1∨(t.length:Int)<z
 · rw [if_pos h1] at h;exact absurd rfl h
 · refine ⟨z.toNat-1,by omega,by omega,if_neg h1⟩
open Go.RowKit
open Go.Maps
theorem lawS:Keyed Tryz.prog 9:=string_keyed Tryz.underlying9
theorem zeroU (w:World):(zeroValue 39).run Tryz.prog w=.ok (.int .u16 0) w:=by kernel_rfl
structure NumM (l:List ByteArray) (D:DataW Unit):Prop where
 isMap:IsMap D
 at_:∀ s:ByteArray,D.atKey (.string s.data.toList) (.lit (.int .u16 0))=.lit (.int .u16 (placeI l s+1))
theorem NumM.new:NumM [] (.map []):=⟨isMap_empty,fun s=>by rw [atKey_of_not_has rfl];rfl⟩
theorem NumM.more {l:List ByteArray} {D:DataW Unit} (h:NumM l D) {s:ByteArray} (hs:s ∉ l):NumM (l ++ [s]) (D.put (.string s.data.toList) (.lit (.int .u16 ((l.length:Int)+1)))):=by
 refine ⟨h.isMap.put _ _,fun x=>?_⟩
 by_cases e:x=s
 · subst e
   rw [atKey_put_same (k:=.string x.data.toList) h.isMap trivial,placeI_last hs]
 · rw [atKey_put_other (fun e1=>e (WideShapes.bytes_inj (by injection e1))),h.at_]
   by_cases hx:x∈l
   · rw [placeI_append hx]
   · rw [placeI_none.2 hx,placeI_none.2 (fun hm=>(List.mem_append.1 hm).elim hx fun h1=>e (List.mem_singleton.1 h1))]
def CnPost (C:List Ce) (M:List ByteArray) (w:World) (e:Ending) (w':World):Prop :=
 Below w.heap.size w w'∧∃ A c A' c',e=.returned (.tuple #[.slice A C.length c,.slice A' M.length c'])∧Cx w.heap.size w' A C.length c C∧Tx w.heap.size w' A' M.length c' M
structure Cn (b mb:Nat) (A6:Option Addr) (n c6:Nat) (C:List Ce) (A7:Option Addr) (m c7:Nat) (l:List ByteArray) (D:DataW Unit) (w wr:World):Prop where
 cx:Cx b wr A6 n c6 C
 tx:Tx b wr A7 m c7 l
 map:wr.ownsMap Tryz.prog 9 (plainElem (H:=Unit) Tryz.prog 39) mb m D
 num:NumM l D
 bel:Below b w wr
 ge:b≤mb
theorem cx_not_map {base:Nat} {w:World} {A:Option Addr} {n c mb m:Nat} {L:List Ce} {D:DataW Unit} {K:TypeId} {R:Value→Option (DataW Unit × List MemPlace)} (h:Cx base w A n c L) (hm:w.ownsMap Tryz.prog K R mb m D) (hn:0<n):∀ g,A=some ⟨g,0,none⟩→g≠mb:=by
 rintro g rfl rfl
 obtain ⟨g',e,_,r,hR⟩:=h.own hn
 injection e with e
 injection e with e
 subst e
 obtain ⟨es,clock,hb,_⟩:=hm
 rw [hb] at hR
 cases hR
theorem tx_not_map {base:Nat} {w:World} {A:Option Addr} {n c mb m:Nat} {L:List ByteArray} {D:DataW Unit} {K:TypeId} {R:Value→Option (DataW Unit × List MemPlace)} (h:Tx base w A n c L) (hm:w.ownsMap Tryz.prog K R mb m D):(Value.slice A n c).ownBlock≠some mb:=by
 intro hk
 obtain ⟨es,clock,hb,_⟩:=hm
 rcases h.own.2 with ⟨h1,_⟩ | ⟨g,cap,cur,hv,_,hg,_⟩
 · rw [h1] at hk;cases hk
 · rw [hv] at hk
   injection hk with hk
   subst hk
   rw [show (⟨g,0,none⟩:Addr).block=g from rfl] at hb
   rw [hb] at hg
   cases hg
theorem cx_not_tx {base base':Nat} {w:World} {A A':Option Addr} {n c n' c':Nat} {L:List Ce} {L':List ByteArray} (h:Cx base w A n c L) (h':Tx base' w A' n' c' L') (hn:0<n):∀ g,A=some ⟨g,0,none⟩→(Value.slice A' n' c').ownBlock≠some g:=by
 rintro g rfl hk
 obtain ⟨g',e,_,r,hR⟩:=h.own hn
 injection e with e
 injection e with e
 subst e
 rcases h'.own.2 with ⟨h1,_⟩ | ⟨g2,cap,cur,hv,_,hg,_⟩
 · rw [h1] at hk;cases hk
 · rw [hv] at hk
   injection hk with hk
   have hk':g2=g:=hk
   subst hk'
   rw [hR] at hg
   injection hg with hg
   injection hg with _ hg _
   exact absurd hg (by decide)
theorem Cn.setLk {b mb n c6 m c7 g k:Nat} {A7:Option Addr} {C:List Ce} {l:List ByteArray} {D:DataW Unit} {w wr:World} (h:Cn b mb (some ⟨g,0,none⟩) n c6 C A7 m c7 l D w wr) (hk:k<n) (z:Int) :
  Cn b mb (some ⟨g,0,none⟩) n c6 (C.set k (Go.Proofs.YtikhknnhmnopbaaGreatDoor.setLk (cAt C k) z)) A7 m c7 l D w (wr.setCell ⟨g,k*6+5,none⟩ (.int .u16 z)):=by
 have hlen:=h.cx.len
 have hg2:wr.grownBy (wr.setCell ⟨g,k*6+5,none⟩ (.int .u16 z)) (some g):=grownBy_set wr ⟨g,k*6+5,none⟩ _
 obtain ⟨g',e,hb,hR⟩:=h.cx.own (by omega)
 injection e with e
 injection e with e
 subst e
 refine ⟨⟨by rw [List.length_set];exact hlen,h.cx.le,h.cx.max,fun _=>⟨g,rfl,hb,hR.setLk (by omega) z⟩⟩,h.tx.grown hg2 fun g2 e2 e3=>?_,h.map.kept hg2 fun e2=>?_,h.num,h.bel.setCell hb _,h.ge⟩
 · injection e3 with e3
   exact cx_not_tx h.cx h.tx (by omega) g rfl (by rw [e2,e3];rfl)
 · injection e2 with e2
   exact cx_not_map h.cx h.map (by omega) g rfl e2.symm
theorem Cn.more {b mb n c6 m m8 c7 c':Nat} {A6 A7 A':Option Addr} {C:List Ce} {l:List ByteArray} {D:DataW Unit} {w wr w3 w4:World} {x:ByteArray} (h:Cn b mb A6 n c6 C A7 m c7 l D w wr) (hx:x ∉ l) (hb:b≤wr.heap.size) (hm8:m+1=m8)
  (hown:Tx b w3 A' m8 c' (l ++ [x])) (hg:(wr.alloc (.cells #[.string x] 9)).grownBy w3 (Value.slice A7 m c7).ownBlock)
  (hown4:w4.ownsMap Tryz.prog 9 (plainElem (H:=Unit) Tryz.prog 39) mb (m+1) (D.put (.string x.data.toList) (.lit (.int .u16 (m8:Int))))) (hg4:w3.grownBy w4 (some mb)) :
  Cn b mb A6 n c6 C A' m8 c' (l ++ [x]) (D.put (.string x.data.toList) (.lit (.int .u16 (m8:Int)))) w w4:=by
 subst hm8
 have hge:=h.ge
 have hml:=h.map.lt
 have hs3:=hg.size
 simp at hs3
 have hall:wr.grownBy w3 (Value.slice A7 m c7).ownBlock:=grownBy_trans (World.grownBy_alloc wr _ _) hg
 have hm3:=h.map.kept hall fun e=>tx_not_map h.tx h.map e.symm
 have hcx3:Cx b w3 A6 n c6 C:=⟨h.cx.len,h.cx.le,h.cx.max,fun hn=>by
  obtain ⟨g,e,hb2,hR⟩:=h.cx.own hn
  exact ⟨g,e,hb2,hR.grown hall (cx_not_tx h.cx h.tx hn g e)⟩⟩
 have hn:=h.num.more hx
 rw [h.tx.len] at hn
 have ec:((m+1:Nat):Int)=(m:Int)+1:=by omega
 rw [ec] at hown4 ⊢
 refine ⟨⟨hcx3.len,hcx3.le,hcx3.max,fun hn=>?_⟩,hown.grown hg4 fun g e e2=>?_,hown4,hn,(h.bel.grown hall hb fun k hk=>h.tx.ownB k hk).grown hg4 (by omega) fun k hk=>by injection hk with hk;omega,hge⟩
 · obtain ⟨g,e,hb2,hR⟩:=hcx3.own hn
   exact ⟨g,e,hb2,hR.grown hg4 fun e2=>cx_not_map hcx3 hm3 hn g e (by injection e2 with e2;exact e2.symm)⟩
 · injection e2 with e2
   exact tx_not_map hown hm3 (by rw [e,e2];rfl)
set_option maxHeartbeats 4000000 in
theorem canon_any {w:World} {A A':Option Addr} {n c m c':Nat} {cs:List Ce} {L:List ByteArray} (h:Vs ceV w A n cs) (h':Vs stV w A' m L) (hl:∀ x∈cs,0≤x.p.lk∧x.p.lk≤65535) (hs:∀ s∈L,s.size≤140737488351232) (hn:n≤60000) (hm:m≤60000) :
  Calls Tryz.prog 79 #[.slice A n c,.slice A' m c'] w (CnPost (canonC cs L) (canonL cs L) w):=by
 obtain rfl:=h.len
 have hmm:=@run_makeMap Tryz.prog
 have H:=Lib.hid (And.intro h h')
 have HL:=Lib.hid (And.intro hl hs)
 clear h h' hl hs
 go_enter Tryz.func79,Tryz.ntmps79
 go_wp2_with fail
 refine (cloneCx_any H.out.1 (by omega)).mono ?_
 rintro e w1 ⟨hb1,A6,c6,rfl,hcx⟩
 obtain ⟨b,hb⟩:∃ b,b=w.heap.size:=⟨_,rfl⟩
 have HB:=Lib.hid hb
 have HC:=Lib.hid (And.intro hb1 hcx)
 clear hb1 hcx hb
 go_wp2_with fail
 obtain ⟨mb,hmb⟩:∃ x,x=w1.heap.size:=⟨_,rfl⟩
 rw [← hmb]
 have HMB:=Lib.hid hmb
 clear hmb
 have HS:Hid (Cn b mb A6 cs.length c6 (partC cs L 0) none 0 0 (canonL (cs.take 0) L) (.map []) w (w1.alloc (.map #[] 0))∧b≤w1.heap.size):=Lib.hid (by
  have hsz:=HC.out.1.size
  rw [HB.out,HMB.out]
  refine ⟨⟨?_,Tx.nil _ _,World.ownsMap_made _ _ _ _,NumM.new,HC.out.1.alloc hsz _,hsz⟩,hsz⟩
  rw [partC_zero]
  exact HC.out.2.below ((Below.refl _ _).alloc (Nat.le_refl _) _))
 clear HC HMB
 have hbw:=HS.out.2
 have hbw2:b≤(w1.alloc (.map #[] 0)).heap.size:=by simp;omega
 have HB2:=Lib.hid hbw2
 clear hbw hbw2
 generalize w1.alloc (.map #[] 0)=w2 at HS HB2 ⊢
 go_loopw [7,17] (fun o i wr=>∃ (k m7 c7:Nat) (A7:Option Addr) (D:DataW Unit),k≤cs.length∧m7≤k∧i=.int .i64 k∧o=.slice A7 m7 c7∧b≤wr.heap.size∧Cn b mb A6 cs.length c6 (partC cs L k) A7 m7 c7 (canonL (cs.take k) L) D w wr) (fun _ i _=>cs.length-(intOf i).toNat)
 case atStart=>exact ⟨0,0,0,none,_,Nat.zero_le _,Nat.le_refl _,rfl,rfl,HB2.out,HS.out.1⟩
 case round =>
  obtain ⟨k,m7,c7,A7,D,hk,hmk,rfl,rfl,hbr,hX⟩:=hrel
  have Y:=Lib.hid hX
  have HBR:=Lib.hid hbr
  clear hX HS HB2 hbr
  by_cases hlt:k<cs.length
  · obtain ⟨g,rfl,hg,hR⟩:=Y.out.cx.own (by omega)
    have hlk:=HL.out.1 (cAt cs k) (by rw [cAt_lt hlt];exact List.getElem_mem _)
    have hc5:wr.cell? ⟨g,k*6+5,none⟩=some (.int .u16 (cAt cs k).p.lk):=by
     have:=hR.cell (rowV_get ceV_len (getElem?_cAt (L:=partC cs L k) (k:=k) (by rw [partC_len _ _ hk];exact hlt)) (j:=5) rfl)
     rwa [partC_at hlt] at this
    have hf5:=hR.free (k*6+5)
    have hv:=H.out.2.below (Below.mono Y.out.bel (by rw [HB.out];exact Nat.le_refl _))
    have HV:=Lib.hid hv
    have HST:=Lib.hid (partC_step (cs:=cs) (t:=L) hlt)
    have HCL:=Lib.hid (canonL_take (cs:=cs) (t:=L) hlt)
    have HNT:=Lib.hid (num_take (cs:=cs) (t:=L) hlt)
    have HPA:=Lib.hid (partC_at (cs:=cs) (t:=L) hlt)
    clear hR hv hg
    generalize hz:(cAt cs k).p.lk=z at hlk hc5 HST HCL HNT
    clear hz
    have hz0:=hlk.1
    have hz1:=hlk.2
    clear hlk
    go_wp2_with fail
    refine (textT_any HV.out z hz0 hz1 (by omega)).mono ?_
    rintro e w' ⟨rfl,rfl⟩
    obtain ⟨x,hx⟩:∃ x,textI L z=x:=⟨_,rfl⟩
    have hxs:x.size≤140737488351232:=by
     rw [← hx]
     by_cases h0:textI L z=eT
     · rw [h0];decide
     · obtain ⟨j,_,hj,e⟩:=text_some h0
       rw [e]
       exact HL.out.2 _ (sAt_mem hj)
    obtain ⟨B,hB⟩:∃ B,mayT x=B:=⟨_,rfl⟩
    have HLD:Hid (leadsS L z=if B=true then x else eT):=Lib.hid (by unfold leadsS;rw [hx,hB])
    rw [hx]
    have HMY:=Lib.hid hB
    clear hx hB
    go_wp2_with fail
    refine (mayT_any x _ hxs).mono ?_
    rintro e w' ⟨rfl,rfl⟩
    rw [HMY.out]
    cases B
    · have HN:Hid (Cn b mb (some ⟨g,0,none⟩) cs.length c6 (partC cs L (k+1)) A7 m7 c7 (canonL (cs.take (k+1)) L) D w (wr.setCell ⟨g,k*6+5,none⟩ (.int .u16 0))):=Lib.hid (by
       have e0:leadsS L z=eT:=HLD.out
       have h1:=Y.out.setLk hlt 0
       rw [HPA.out] at h1
       rw [HCL.out,addT_old (Or.inl e0),← HST.out,num_none e0]
       exact h1)
      clear HST HCL HNT HPA HLD HV
      go_wp2_with fail
      go_roundw
      case rel=>exact ⟨k+1,m7,c7,A7,D,by omega,by omega,by go_num,rfl,by have:=HBR.out;simpa using this,HN.out⟩
      case measure=>simp [intOf];omega
    · have e0:leadsS L z=x:=HLD.out
      have hne:=mayT_ne HMY.out
      rw [e0] at HST HCL HNT
      have HNE:=Lib.hid hne
      have hxm:x.size≤maxLen:=by unfold maxLen;omega
      have HNU:=Lib.hid (Y.out.num.at_ x)
      clear HLD e0 hne HV
      obtain ⟨l,hl⟩:∃ l,canonL (cs.take k) L=l:=⟨_,rfl⟩
      rw [hl] at HNU HCL Y
      clear hl
      by_cases hin:x∈l
      · obtain ⟨j,hj,e1,_,_⟩:=placeI_mem hin
        have hjm:j<m7:=by rw [← Y.out.tx.len];exact hj
        have HN:Hid (Cn b mb (some ⟨g,0,none⟩) cs.length c6 (partC cs L (k+1)) A7 m7 c7 (canonL (cs.take (k+1)) L) D w (wr.setCell ⟨g,k*6+5,none⟩ (.int .u16 ((j:Int)+1)))):=Lib.hid (by
         have h1:=Y.out.setLk hlt ((j:Int)+1)
         have h2:=HNT.out HNE.out
         rw [HCL.out,addT_old (Or.inr hin),e1] at h2
         rw [HPA.out] at h1
         rw [HCL.out,addT_old (Or.inr hin),← HST.out,h2]
         exact h1)
        have HQ:Hid (∀ c2,D.atKey (.string x.data.toList) (.lit (.int .u16 0))=.lit (.int .u16 c2)→c2=(j:Int)+1):=Lib.hid (fun c2 hat=>by
         rw [HNU.out,e1] at hat
         injection hat with hat
         injection hat with _ hat
         exact hat.symm)
        have hj0:((j:Int)+1 == 0)=false:=by rw [beq_eq_false_iff_ne];omega
        clear HST HCL HNT HPA e1 hin
        go_wp2_with (at_lookup;refine wpList_lookup_own_int _ rfl _ _ 145 rfl 9 39 .u16 lawS Tryz.underlying145 Tryz.underlying39 (zeroU _) mb m7 _ rfl Y.out.map _ _ rfl (WideMaps.keyOf_string_mk Tryz.underlying9 hxm) ?_;intro c2 hat hwc;obtain rfl:c2=_:=HQ.out _ hat;clear hat hwc)
        go_roundw
        case rel=>exact ⟨k+1,m7,c7,A7,D,by omega,by omega,by go_num,rfl,by have:=HBR.out;simpa using this,HN.out⟩
        case measure=>simp [intOf];omega
      · have HIN:=Lib.hid hin
        have HQ:Hid (∀ c2,D.atKey (.string x.data.toList) (.lit (.int .u16 0))=.lit (.int .u16 c2)→c2=0):=Lib.hid (fun c2 hat=>by
         rw [HNU.out,placeI_none.2 HIN.out] at hat
         injection hat with hat
         injection hat with _ hat
         exact hat.symm)
        have hm7:(m7:Int)≤60000:=by omega
        obtain ⟨m8,hm8⟩:∃ m8,m7+1=m8:=⟨_,rfl⟩
        have h78:(m8:Int)=(m7:Int)+1:=by omega
        have h79:m8≤60001:=by omega
        have HM8:=Lib.hid (And.intro hm8 h78)
        clear hm8 h78 hin
        have hwf:(Lit.int .u16 (m8:Int)).wf=true:=WalkArith.wf_u16 (by omega)
        have HQ2:Hid (∀ c2,(D.put (.string x.data.toList) (.lit (.int .u16 (m8:Int)))).atKey (.string x.data.toList) (.lit (.int .u16 0))=.lit (.int .u16 c2)→c2=(m8:Int)):=Lib.hid (fun c2 hat=>by
         rw [atKey_put_same (k:=.string x.data.toList) Y.out.num.isMap trivial] at hat
         injection hat with hat
         injection hat with _ hat
         exact hat.symm)
        go_wp2_with (first
         | (at_lookup;refine wpList_lookup_own_int _ rfl _ _ 145 rfl 9 39 .u16 lawS Tryz.underlying145 Tryz.underlying39 (zeroU _) mb m7 _ rfl Y.out.map _ _ rfl (WideMaps.keyOf_string_mk Tryz.underlying9 hxm) ?_;intro c2 hat hwc;obtain rfl:c2=_:=HQ.out _ hat;clear hat hwc)
         | (at_builtin; refine wpList_appT _ rfl _ _ rfl b A7 m7 c7 l rfl (Y.out.tx.below ((Below.refl _ _).alloc (Nat.le_refl _) _)) (some ⟨wr.heap.size, 0, none⟩) 1 1 m8 HM8.out.1 [x] rfl (litT wr x) (by omega) (by have := HBR.out; simp; omega) ?_; intro A' c' w3 hown hg3
            have HG3:=Lib.hid (And.intro hown hg3)
            have hm3:=Y.out.map.kept (grownBy_trans (World.grownBy_alloc wr _ _) hg3) fun e=>tx_not_map Y.out.tx Y.out.map e.symm
            clear hown hg3 HQ hc5 hf5)
         | (at_mapUpdate; refine wpList_mapUpdate_own _ rfl _ _ _ 145 rfl 9 39 lawS Tryz.underlying145 _ mb m7 _ rfl hm3 (by unfold maxLen; omega) _ _ _ rfl rfl (WideMaps.keyOf_string_mk Tryz.underlying9 hxm) _ [] (plainElem_int Tryz.underlying39 hwf) ?_; intro w4 hown4 hg4
            have HM:=Lib.hid (Y.out.more HIN.out HBR.out HM8.out.1 HG3.out.1 HG3.out.2 hown4 hg4)
            have HBR4:Hid (b≤w4.heap.size):=Lib.hid (by
             have h1:=hg4.size
             have h2:=HG3.out.2.size
             have h3:=HBR.out
             simp at h2
             omega)
            obtain ⟨g',eg,hg,hR⟩:=HM.out.cx.own (by omega)
            obtain rfl:g=g':=by injection eg with eg;injection eg
            have hc5:=hR.cell (rowV_get ceV_len (getElem?_cAt (L:=partC cs L k) (k:=k) (by rw [partC_len _ _ hk];exact hlt)) (j:=5) rfl)
            have hf5:=hR.free (k*6+5)
            have HN:Hid (Cn b mb (some ⟨g,0,none⟩) cs.length c6 (partC cs L (k+1)) A' m8 c' (canonL (cs.take (k+1)) L) (D.put (.string x.data.toList) (.lit (.int .u16 (m8:Int)))) w (w4.setCell ⟨g,k*6+5,none⟩ (.int .u16 (m8:Int)))):=Lib.hid (by
             have h1:=HM.out.setLk hlt (m8:Int)
             have h2:=HNT.out HNE.out
             rw [HCL.out,addT_new HNE.out HIN.out,placeI_last HIN.out,Y.out.tx.len,← HM8.out.2] at h2
             rw [HPA.out] at h1
             rw [HCL.out,addT_new HNE.out HIN.out,← HST.out,h2]
             exact h1)
            have hmk8:m8≤k+1:=by have:=HM8.out.1;omega
            clear hR hg eg hm3 HM Y hg4)
         | (at_lookup;refine wpList_lookup_own_int _ rfl _ _ 145 rfl 9 39 .u16 lawS Tryz.underlying145 Tryz.underlying39 (zeroU _) mb (m7+1) _ rfl hown4 _ _ rfl (WideMaps.keyOf_string_mk Tryz.underlying9 hxm) ?_;intro c2 hat hwc;obtain rfl:c2=_:=HQ2.out _ hat;clear hat hwc))
        go_roundw
        case rel=>exact ⟨k+1,m8,c',A',_,by omega,hmk8,by go_num,rfl,by have:=HBR4.out;simpa using this,HN.out⟩
        case measure=>simp [intOf];omega
  · have e:cs.take k=cs:=List.take_of_length_le (by omega)
    obtain rfl:k=cs.length:=by omega
    have X:CnPost (canonC cs L) (canonL cs L) w (.returned (.tuple #[.slice A6 cs.length c6,.slice A7 m7 c7])) wr:=by
     have h1:=Y.out
     rw [e,partC_all] at h1
     have h2:=h1.cx
     have h3:=h1.tx
     obtain rfl:=h3.len
     have e2:=canonC_len cs L
     refine ⟨by rw [← HB.out];exact h1.bel,A6,c6,A7,c7,by rw [e2],?_,?_⟩
     · rw [e2,← HB.out];exact h2
     · rw [← HB.out];exact h3
    clear e Y
    go_wp2_with fail
    go_ret2
    exact X
end Go.Proofs.YtikhknnhmnopbaaGreatDoor
