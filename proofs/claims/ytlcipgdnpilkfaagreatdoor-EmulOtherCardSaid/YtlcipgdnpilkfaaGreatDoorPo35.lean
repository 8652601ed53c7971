/-
  Part 35 of what the laws of emul want: EmulOtherS, LinksPut.
-/
import Derived.WalkKit
import Derived.Test.YtlcipgdnpilkfaaGreatDoorPo30
import Derived.Test.YtlcipgdnpilkfaaGreatDoorPo33
import Derived.Test.YtlcipgdnpilkfaaGreatDoorPo34
namespace Go.Proofs.YtlcipgdnpilkfaaGreatDoor
/-! ### Tables -/
theorem lastN_after:∀ (l:List ByteArray) {j:Nat},lastN l≤j→sAt l j=eT
 | [],j,_=>rfl
 | a :: l,j,h=>by
  unfold lastN at h
  by_cases h0:lastN l=0
  · rw [if_pos h0] at h
    cases j with
    | zero =>
     by_cases ha:a=eT
     · exact ha
     · rw [if_neg ha] at h;omega
    | succ j=>exact lastN_after l (j:=j) (by omega)
  · rw [if_neg h0] at h
    cases j with
    | zero=>omega
    | succ j=>exact lastN_after l (j:=j) (by omega)
theorem leads_zero (t:List ByteArray):leadsS t 0=eT:=leads_out (.inl (by omega))
theorem leads_text {t t':List ByteArray} {n:Int} (h:textI t' n=textI t n):leadsS t' n=leadsS t n:=by unfold leadsS;rw [h]
theorem text_of {t:List ByteArray} {k:Nat} (h:k<t.length):textI t ((k:Int)+1)=sAt t k:=by
 unfold textI
 rw [if_neg (by omega),show ((k:Int)+1).toNat-1=k by omega]
theorem leads_inv {t:List ByteArray} {n:Int} (h:leadsS t n≠eT):∃ k:Nat,n=(k:Int)+1∧k<t.length∧sAt t k≠eT:=by
 by_cases h1:n<1∨(t.length:Int)<n
 · exact absurd (leads_out h1) h
 · refine ⟨n.toNat-1,by omega,by omega,fun e=>h ?_⟩
   unfold leadsS textI
   rw [if_neg h1,e,if_neg (by rw [eT_not];simp)]
theorem intern_keep {tb tb':List ByteArray} {s:ByteArray} {n:Int} (h:internS tb s=(tb',n,0)):(∀ m,leadsS tb m≠eT→leadsS tb' m=leadsS tb m)∧leadsS tb' n≠eT:=by
 unfold internS at h
 by_cases hm:mayT s=false
 · rw [if_pos hm] at h;injection h with _ h;injection h with _ h;cases h
 rw [if_neg hm] at h
 have hm':mayT s=true:=by simpa using hm
 have lead_s:∀ {T:List ByteArray} {k:Nat},k<T.length→sAt T k=s→leadsS T ((k:Int)+1)≠eT:=fun {T k} hk e=>by
  unfold leadsS
  rw [text_of hk,e,if_pos hm']
  exact mayT_ne hm'
 by_cases h1:placeI tb s≠-1
 · rw [if_pos h1] at h
   injection h with h2 h
   injection h with h3 _
   subst h2
   subst h3
   obtain ⟨k,hk,e1,e2,_⟩:=placeI_mem (mem_place.1 h1)
   exact ⟨fun _ _=>rfl,by rw [e1];exact lead_s hk e2⟩
 rw [if_neg h1] at h
 by_cases h2:placeI tb eT≠-1
 · rw [if_pos h2] at h
   injection h with h3 h
   injection h with h4 _
   obtain ⟨k,hk,e1,e2,_⟩:=placeI_mem (mem_place.1 h2)
   rw [e1,Int.toNat_natCast] at h3
   rw [e1] at h4
   subst h3
   subst h4
   refine ⟨fun m hmm=>?_,lead_s (by rw [List.length_set];exact hk) (by rw [sAt_lt (by rw [List.length_set];exact hk)];simp)⟩
   obtain ⟨j,rfl,hj,hne⟩:=leads_inv hmm
   apply leads_text
   rw [text_of (by rw [List.length_set];exact hj),text_of hj,sAt_lt (by rw [List.length_set];exact hj),sAt_lt hj,List.getElem_set_ne]
   exact fun e=>hne (by rw [← e];exact e2)
 rw [if_neg h2] at h
 by_cases h3:tb.length<16
 · rw [if_pos h3] at h
   injection h with h4 h
   injection h with h5 _
   subst h4
   subst h5
   refine ⟨fun m hmm=>?_,lead_s (by simp) (sAt_append_last tb s)⟩
   obtain ⟨j,rfl,hj,hne⟩:=leads_inv hmm
   apply leads_text
   rw [text_of (by simp;omega),text_of hj,sAt_append_lt hj]
 · rw [if_neg h3] at h;injection h with _ h;injection h with _ h;cases h
theorem sweep_keep (tb:List ByteArray) {used:List Int} {n:Int} (hn:n∈used):leadsS (sweepS tb used) n=leadsS tb n:=by
 apply leads_text
 have hl:=sweepS_len tb used
 by_cases h1:n<1∨(tb.length:Int)<n
 · unfold textI
   rw [if_pos (by omega),if_pos h1]
 · obtain ⟨k,rfl⟩:∃ k:Nat,n=(k:Int)+1:=⟨n.toNat-1,by omega⟩
   have hk:k<tb.length:=by omega
   rw [text_of hk]
   have e1:sAt (sweepM tb used) k=sAt tb k:=by rw [sweepM_at hk,if_pos hn]
   by_cases h2:k<(sweepS tb used).length
   · rw [text_of h2,← e1]
     unfold sweepS at h2 ⊢
     rw [List.length_take] at h2
     unfold sAt
     rw [List.getD,List.getD,List.getElem?_take,if_pos (by omega)]
   · have h3:lastN (sweepM tb used)≤k:=by
      unfold sweepS at h2
      rw [List.length_take,sweepM_len] at h2
      omega
     rw [← e1,lastN_after _ h3]
     unfold textI
     rw [if_pos (by omega)]
/-! ### Links that lead somewhere -/
def LkP (tb:List ByteArray) (n:Int):Prop:=n=0∨leadsS tb n≠eT
structure LkOk (t:Tm):Prop where
 main:PRws (LkP t.table) t.main
 other:PRws (LkP t.table) t.other
 pen:LkP t.table t.now.pen.lk
 sav:LkP t.table t.sav.pen.lk
namespace LkOk
variable {t u:Tm}
theorem shown (h:LkOk t):PRws (LkP t.table) t.shown:=by unfold Tm.shown;split;exact h.other;exact h.main
theorem back (h:LkOk t):PRws (LkP t.table) t.back:=by unfold Tm.back;split;exact h.main;exact h.other
theorem step (h:LkOk t) (s:Stp t u):LkOk u:=by
 obtain ⟨h1,h2⟩:=s.lks (LkP t.table) (.inl rfl) h.pen h.sav h.shown
 have h3:=h.back
 rw [← s.bk] at h3
 unfold Tm.shown at h2
 unfold Tm.back at h3
 rw [← s.tb] at h1 h2 h3
 by_cases ho:u.isO=true
 · rw [if_pos ho] at h2 h3
   exact ⟨h3,h2,h1,by rw [s.tb,s.sv];exact h.sav⟩
 · rw [if_neg ho] at h2 h3
   exact ⟨h2,h3,h1,by rw [s.tb,s.sv];exact h.sav⟩
theorem fresh (c r:Nat):LkOk (tmNew c r):=⟨prws_blank (.inl rfl) c r,prws_blank (.inl rfl) c r,.inl rfl,.inl rfl⟩
theorem with_p (h:LkOk t) (q:PaS):LkOk { t with p:=q }:={ h with }
theorem saved (h:LkOk t):LkOk { t with sav:=t.now }:={ h with sav:=h.pen }
theorem showO (h:LkOk t) (o:Bool):LkOk (t.showO o):=by
 unfold Tm.showO
 split
 · exact { h with other:=prws_blank (.inl rfl) _ _ }
 · exact { h with }
theorem reset (h:LkOk t):LkOk t.reset:={ h with pen:=.inl rfl,sav:=.inl rfl }
theorem mode (h:LkOk t) (n:Int) (on:Bool):LkOk (t.mode n on):=by
 unfold Tm.mode
 repeat' split
 all_goals first
  | exact LkOk.step (t:={ t with now:={ t.now with org:=on } }) { h with } (Stp.home _)
  | exact h.showO on
  | exact h.saved.showO true
  | exact (h.showO false).step (Stp.restored _)
  | exact h
  | exact { h with }
theorem modes (on:Bool):∀ (l:List Int) {t:Tm},LkOk t→LkOk (l.foldl (fun t n=>t.mode n on) t)
 | [],_,h=>h
 | n :: l,_,h=>modes on l (h.mode n on)
theorem lead (h:LkOk t) (s:ByteArray):LkOk (t.lead s)∧(∀ n,n∈t.sav.pen.lk :: (t.main.flatten.map (·.p.lk) ++ t.other.flatten.map (·.p.lk))→leadsS (t.lead s).table n=leadsS t.table n)∧(t.lead s).main=t.main∧(t.lead s).other=t.other∧(t.lead s).sav=t.sav∧(t.lead s).isO=t.isO∧(t.lead s).c=t.c∧(t.lead s).r=t.r∧(t.lead s).p=t.p:=by
 have h0:LkOk { t with now:={ t.now with pen:={ t.now.pen with lk:=0 } } }:={ h with pen:=.inl rfl }
 unfold Tm.lead
 dsimp only
 by_cases hs:s=eT
 · rw [if_pos hs]
   exact ⟨h0,fun _ _=>rfl,rfl,rfl,rfl,rfl,rfl,rfl,rfl⟩
 rw [if_neg hs]
 generalize hU:(t.sav.pen.lk :: (t.main.flatten.map (·.p.lk) ++ t.other.flatten.map (·.p.lk)))=used
 have hP:∀ n∈used,LkP t.table n:=by
  intro n hn
  rw [← hU] at hn
  rcases List.mem_cons.1 hn with rfl | hn
  · exact h.sav
  · rcases List.mem_append.1 hn with hn | hn
    · obtain ⟨c,hc,rfl⟩:=List.mem_map.1 hn
      exact prws_flat h.main c hc
    · obtain ⟨c,hc,rfl⟩:=List.mem_map.1 hn
      exact prws_flat h.other c hc
 have key:∀ (tb':List ByteArray) (n:Int),(∀ m∈used,leadsS tb' m=leadsS t.table m)→leadsS tb' n≠eT →
   LkOk { t with table:=tb',now:={ t.now with pen:={ t.now.pen with lk:=n } } }:=by
  intro tb' n h1 h2
  have h3:∀ m∈used,LkP tb' m:=fun m hm=>by
   rcases hP m hm with e | e
   · exact .inl e
   · exact .inr (by rw [h1 m hm];exact e)
  refine ⟨fun L hL c hc=>h3 _ ?_,fun L hL c hc=>h3 _ ?_,.inr h2,h3 _ ?_⟩
  · rw [← hU]
    exact List.mem_cons_of_mem _ (List.mem_append_left _ (List.mem_map.2 ⟨c,List.mem_flatten.2 ⟨L,hL,hc⟩,rfl⟩))
  · rw [← hU]
    exact List.mem_cons_of_mem _ (List.mem_append_right _ (List.mem_map.2 ⟨c,List.mem_flatten.2 ⟨L,hL,hc⟩,rfl⟩))
  · rw [← hU];exact List.mem_cons_self
 have fin:∀ (tb:List ByteArray),(∀ m∈used,leadsS tb m=leadsS t.table m)→∀ v,internS tb s=v→v.2.2=0 →
   LkOk { t with table:=v.1,now:={ t.now with pen:={ t.now.pen with lk:=v.2.1 } } }∧∀ n∈used,leadsS v.1 n=leadsS t.table n:=by
  intro tb h1 v hv h2
  obtain ⟨tb',n,e⟩:=v
  simp only at h2
  subst h2
  obtain ⟨k1,k2⟩:=intern_keep hv
  have k3:∀ m∈used,leadsS tb' m=leadsS t.table m:=fun m hm=>by
   rcases hP m hm with e | e
   · rw [e,leads_zero,leads_zero]
   · rw [k1 m (by rw [h1 m hm];exact e),h1 m hm]
  exact ⟨key tb' n k3 k2,k3⟩
 by_cases h11:(internS t.table s).2.2=11
 · rw [if_pos h11]
   by_cases hz:(internS (sweepS t.table used) s).2.2=0
   · rw [if_pos hz]
     obtain ⟨a,b⟩:=fin (sweepS t.table used) (fun m hm=>sweep_keep t.table hm) _ rfl hz
     exact ⟨a,b,rfl,rfl,rfl,rfl,rfl,rfl,rfl⟩
   · rw [if_neg hz]
     exact ⟨h0,fun _ _=>rfl,rfl,rfl,rfl,rfl,rfl,rfl,rfl⟩
 · rw [if_neg h11]
   by_cases hz:(internS t.table s).2.2=0
   · rw [if_pos hz]
     obtain ⟨a,b⟩:=fin t.table (fun _ _=>rfl) _ rfl hz
     exact ⟨a,b,rfl,rfl,rfl,rfl,rfl,rfl,rfl⟩
   · rw [if_neg hz]
     exact ⟨h0,fun _ _=>rfl,rfl,rfl,rfl,rfl,rfl,rfl,rfl⟩
end LkOk
theorem osc_is (t:Tm) (b:List Int):(∃ s,t.osc b=t.lead s)∨Stp t (t.osc b):=by
 unfold Tm.osc
 split
 · exact .inr (Stp.refl t)
 · dsimp only
   split
   · exact .inr (Stp.same rfl rfl rfl rfl rfl rfl rfl rfl (.inl rfl))
   · split
     · split
       · exact .inr (Stp.refl t)
       · exact .inl ⟨_,rfl⟩
     · exact .inr (Stp.refl t)
def savesA (a:AcS):Bool:=(decide (a.k=3) && (decide (a.fin=55) || decide (a.fin=99))) || (decide (a.k=4) && (decide (a.m=63) || decide (a.m=33) || decide (a.fin=115)))
theorem act_is (t:Tm) {a:AcS} (h:savesA a=false):(∃ s,t.doA a=t.lead s)∨Stp t (t.doA a):=by
 have hf:Stp t { t with full:=false }:=Stp.same rfl rfl rfl rfl rfl rfl rfl rfl (.inl rfl)
 unfold Tm.doA
 split
 · exact .inr (Stp.refl t)
 · split
   · exact .inr (Stp.print t _)
   · split
     · exact .inr (hf.trans (Stp.c0 _ _))
     · split
       · rename_i hk
         have hb:a.fin≠55∧a.fin≠99:=by simpa [savesA,hk] using h
         split
         · exact .inr (hf.trans (Stp.esc _ hb.1 hb.2))
         · exact .inr hf
       · split
         · rename_i hk
           have hb:(a.m≠63∧a.m≠33)∧a.fin≠115:=by simpa [savesA,hk] using h
           split
           · exact .inr (hf.trans (Stp.csi _ hb.1.1 hb.1.2 hb.2))
           · exact .inr (Stp.csi _ hb.1.1 hb.1.2 hb.2)
         · split
           · exact osc_is t _
           · exact .inr (Stp.refl t)
namespace LkOk
variable {t:Tm}
theorem csi (h:LkOk t) (a:AcS):LkOk (t.csi a):=by
 by_cases h1:a.m=63
 · unfold Tm.csi
   by_cases h2:a.m=63∧(a.fin=104∨a.fin=108)
   · rw [if_pos h2];exact modes _ _ h
   · rw [if_neg h2,if_neg (fun e=>by have:=e.1;omega),if_pos (by omega)];exact h
 by_cases h2:a.m=33
 · unfold Tm.csi
   rw [if_neg (fun e=>h1 e.1)]
   by_cases h3:a.m=33∧a.fin=112
   · rw [if_pos h3];exact h.reset
   · rw [if_neg h3,if_pos (by omega)];exact h
 by_cases h3:a.fin=115
 · unfold Tm.csi
   rw [if_neg (fun e=>h1 e.1),if_neg (fun e=>h2 e.1)]
   obtain ⟨k,r,m,f,ps,tx⟩:=a
   simp only at h3
   subst h3
   by_cases hm:m=0
   · rw [if_neg (fun e=>e hm)]
     dsimp only
     repeat rw [if_neg (by decide)]
     rw [if_pos rfl]
     exact h.saved
   · rw [if_pos hm]
     exact h
 · exact h.step (Stp.csi t h1 h2 h3)
theorem esc (h:LkOk t) (b:Int):LkOk (t.esc b):=by
 by_cases h1:b=55
 · unfold Tm.esc;rw [if_pos h1];exact h.saved
 by_cases h2:b=99
 · subst h2
   exact (fresh t.c t.r).with_p t.p
 · exact h.step (Stp.esc t h1 h2)
theorem doA (h:LkOk t) (a:AcS):LkOk (t.doA a):=by
 have hf:LkOk { t with full:=false }:={ h with }
 cases hs:savesA a
 · rcases act_is t hs with ⟨s,e⟩ | e
   · rw [e];exact (h.lead s).1
   · exact h.step e
 · unfold Tm.doA
   split
   · exact h
   · split
     · exact h.step (Stp.print t _)
     · split
       · exact hf.step (Stp.c0 _ _)
       · split
         · split
           · exact hf.esc _
           · exact hf
         · split
           · split
             · exact hf.csi _
             · exact h.csi _
           · split
             · rcases osc_is t a.tx with ⟨s,e⟩ | e
               · rw [e];exact (h.lead s).1
               · exact h.step e
             · exact h
theorem all:∀ (l:List AcS) {t:Tm},LkOk t→LkOk (l.foldl Tm.doA t)
 | [],_,h=>h
 | a :: l,_,h=>all l (h.doA a)
theorem byte (h:LkOk t) (b:Int):LkOk (t.byte b):=all _ (h.with_p _)
end LkOk
/-! ### With the other grid shown -/
structure Oth (t1 t:Tm):Prop where
 lk:LkOk t
 o:t.isO=true
 main:t.main=t1.main
 sv:t.sav=t1.now
 c:t.c=t1.c
 r:t.r=t1.r
 p:t.p=t1.p
 ld:∀ c∈t1.main.flatten,leadsS t.table c.p.lk=leadsS t1.table c.p.lk
namespace Oth
variable {t1 t u:Tm}
theorem step (h:Oth t1 t) (s:Stp t u):Oth t1 u:=by
 have e:u.main=t.main:=by
  have h1:=s.bk
  unfold Tm.back at h1
  rw [s.o,h.o,if_pos rfl,if_pos rfl] at h1
  exact h1
 exact ⟨h.lk.step s,s.o.trans h.o,e.trans h.main,s.sv.trans h.sv,s.c.trans h.c,s.r.trans h.r,s.p.trans h.p,fun c hc=>by rw [s.tb];exact h.ld c hc⟩
theorem doA (h:Oth t1 t) {a:AcS} (ha:savesA a=false):Oth t1 (t.doA a):=by
 rcases act_is t ha with ⟨s,e⟩ | e
 · rw [e]
   obtain ⟨k,kl,k1,k2,k3,k4,k5,k6,k7⟩:=h.lk.lead s
   refine ⟨k,k4.trans h.o,k1.trans h.main,k3.trans h.sv,k5.trans h.c,k6.trans h.r,k7.trans h.p,fun c hc=>?_⟩
   rw [← h.ld c hc]
   apply kl
   rw [h.main]
   exact List.mem_cons_of_mem _ (List.mem_append_left _ (List.mem_map.2 ⟨c,hc,rfl⟩))
 · exact h.step e
theorem all:∀ (l:List AcS) {t:Tm},Oth t1 t→(∀ a∈l,savesA a=false)→Oth t1 (l.foldl Tm.doA t)
 | [],_,h,_=>h
 | a :: l,_,h,hl=>all l (h.doA (hl a (by simp))) fun x hx=>hl x (by simp [hx])
end Oth
theorem on_is (t:Tm):t.doA (acCsi 63 104 [1049])=({ { t with full:=false } with sav:=t.now }:Tm).showO true:=by
 have e:mayAct (acCsi 63 104 [1049])=true:=by decide
 unfold Tm.doA
 rw [e]
 simp [acCsi,Tm.csi,Tm.mode]
theorem off_is (t:Tm):t.doA (acCsi 63 108 [1049])=(({ t with full:=false }:Tm).showO false).restored:=by
 have e:mayAct (acCsi 63 108 [1049])=true:=by decide
 unfold Tm.doA
 rw [e]
 simp [acCsi,Tm.csi,Tm.mode]
theorem canon_same {cs:List Ce} {a b:List ByteArray} (h:∀ c∈cs,leadsS a c.p.lk=leadsS b c.p.lk):canonC cs a=canonC cs b:=by
 have e1:seqT cs a=seqT cs b:=by unfold seqT;exact List.map_congr_left h
 have e2:canonL cs a=canonL cs b:=by unfold canonL;rw [e1]
 unfold canonC
 rw [e2]
 exact List.map_congr_left fun c hc=>by rw [h c hc]
theorem other_back {t1:Tm} (h1:TmOk t1) (hl:LkOk t1) (ho:t1.isO=false) (l:List AcS) (ha:∀ a∈l,savesA a=false) :
  let t4:=((l.foldl Tm.doA (t1.doA (acCsi 63 104 [1049]))).doA (acCsi 63 108 [1049]))
  t4.screen.cells=t1.screen.cells∧t4.screen.x=t1.screen.x∧t4.screen.y=t1.screen.y∧t4.p=t1.p∧rightSc t4.screen=true:=by
 have h2:Oth t1 (t1.doA (acCsi 63 104 [1049])):=by
  have hk:=hl.doA (acCsi 63 104 [1049])
  rw [on_is] at hk ⊢
  unfold Tm.showO at hk ⊢
  rw [if_pos ⟨rfl,ho⟩] at hk ⊢
  exact ⟨hk,rfl,rfl,rfl,rfl,rfl,rfl,fun _ _=>rfl⟩
 have h3:=Oth.all l h2 ha
 have ok3:TmOk (l.foldl Tm.doA (t1.doA (acCsi 63 104 [1049]))):=TmOk.all h1 l (h1.doA _)
 dsimp only
 generalize l.foldl Tm.doA (t1.doA (acCsi 63 104 [1049]))=t3 at h3 ok3
 have ok4:=ok3.doA (acCsi 63 108 [1049])
 rw [off_is] at ok4 ⊢
 unfold Tm.showO at ok4 ⊢
 rw [if_neg (fun e=>by cases e.1)] at ok4 ⊢
 refine ⟨?_,?_,?_,h3.p,screen_right ok4⟩
 · show canonC t3.main.flatten t3.table=canonC t1.shown.flatten t1.table
   have e:t1.shown=t1.main:=by unfold Tm.shown;rw [ho];rfl
   rw [e,h3.main]
   exact canon_same h3.ld
 · show min t3.sav.x (t3.c-1)=t1.now.x
   rw [h3.sv,h3.c]
   have:=h1.x1
   omega
 · show min t3.sav.y (t3.r-1)=t1.now.y
   rw [h3.sv,h3.r]
   have:=h1.y1
   omega
open Go.RowKit
def pfS (t:List ByteArray) (u:ByteArray):Int × Bool :=
 if placeI t u≠-1 then (placeI t u,true) else if placeI t eT≠-1 then (placeI t eT,true) else if t.length<16 then ((t.length:Int),true) else (0,false)
theorem set_same {l:List ByteArray} {k:Nat} (h:k<l.length):l.set k (sAt l k)=l:=by rw [sAt_lt h];exact List.set_getElem_self h
theorem pf_hit {t:List ByteArray} {u:ByteArray} (h:placeI t u≠-1):pfS t u=(placeI t u,true):=by unfold pfS;rw [if_pos h]
theorem pf_free {t:List ByteArray} {u:ByteArray} (h:placeI t u=-1) (h1:placeI t eT≠-1):pfS t u=(placeI t eT,true):=by unfold pfS;rw [if_neg (fun x=>x h),if_pos h1]
theorem pf_else {t:List ByteArray} {u:ByteArray} (h:placeI t u=-1) (h1:placeI t eT=-1):pfS t u=if t.length<16 then ((t.length:Int),true) else (0,false):=by
 unfold pfS;rw [if_neg (fun x=>x h),if_neg (fun x=>x h1)]
theorem intern_cases {t:List ByteArray} {u:ByteArray} (hm:mayT u=true) :
  (∃ k:Nat,k<t.length∧pfS t u=((k:Int),true)∧internS t u=(t.set k u,(k:Int)+1,0)) ∨
  (pfS t u=((t.length:Int),true)∧t.length<16∧internS t u=(t ++ [u],(t.length:Int)+1,0))∨(pfS t u=(0,false)∧internS t u=([],0,11)):=by
 by_cases h:placeI t u=-1
 · by_cases h1:placeI t eT=-1
   · rw [pf_else h h1]
     by_cases h2:t.length<16
     · exact Or.inr (Or.inl ⟨if_pos h2,h2,by unfold internS;simp [hm,h,h1,h2]⟩)
     · exact Or.inr (Or.inr ⟨if_neg h2,by unfold internS;simp [hm,h,h1,h2]⟩)
   · obtain ⟨k,hk,e,e1,_⟩:=placeI_mem (mem_place.1 h1)
     refine Or.inl ⟨k,hk,by rw [pf_free h h1,e],?_⟩
     unfold internS
     simp [hm,h,e]
 · obtain ⟨k,hk,e,e1,_⟩:=placeI_mem (mem_place.1 h)
   refine Or.inl ⟨k,hk,by rw [pf_hit h,e],?_⟩
   have e2:t.set k u=t:=by rw [← e1,set_same hk]
   rw [e2]
   unfold internS
   simp [hm,e]
set_option maxHeartbeats 800000 in
set_option maxRecDepth 100000 in
theorem placeFor_any {w:World} {A:Option Addr} {n c:Nat} {L:List ByteArray} (h:Vs stV w A n L) (u:ByteArray) (hn:n≤60000) (hc:n≤c) :
  Calls Tryz.prog 238 #[.slice A n c,.string u] w fun e w'=>e=.returned (.tuple #[.int .i64 (pfS L u).1,.bool (pfS L u).2])∧Below w.heap.size w w':=by
 have H1:=Lib.hid (h.alloc (.cells #[.string u,.string ⟨#[]⟩] 9))
 have HL:=Lib.hid h.len
 clear h
 have hmin:min (n:Int) 65535=n:=by omega
 have q0:=placeI_ge L u
 have q1:=placeI_lt L u
 have q2:=placeI_ge L eT
 have q3:=placeI_lt L eT
 rw [HL.out] at q1 q3
 have HE:=Lib.hid (@pf_hit L u)
 have HF:=Lib.hid (@pf_free L u)
 have HG:=Lib.hid (@pf_else L u)
 obtain ⟨z,hz⟩:∃ z,placeI L u=z:=⟨_,rfl⟩
 obtain ⟨y,hy⟩:∃ y,placeI L eT=y:=⟨_,rfl⟩
 rw [hz] at q0 q1
 rw [hy] at q2 q3
 have HZ:=Lib.hid hz
 have HY:=Lib.hid hy
 clear hz hy
 have HB:=Lib.hid (((Below.refl w.heap.size w).alloc (Nat.le_refl _) (.cells #[.string u,.string ⟨#[]⟩] 9)))
 go_enter Tryz.func238,Tryz.ntmps238
 go_wp2
 go_loop [18] (fun i=>∃ k:Nat,k≤2∧i=.int .i64 k∧(0<k→z=-1)∧(1<k→y=-1)) (fun i=>2-(intOf i).toNat)
 case atStart=>exact ⟨0,Nat.zero_le _,rfl,fun x=>absurd x (by omega),fun x=>absurd x (by omega)⟩
 case round =>
  obtain ⟨k,hk,rfl,h1,h2⟩:=hrel
  have HH:=Lib.hid (And.intro h1 h2)
  clear h1 h2
  have hk3:k=0∨k=1∨k=2:=by omega
  rcases hk3 with rfl | rfl | rfl
  · go_wp2_with fail
    refine (idxT_any H1.out u (by omega)).mono ?_
    rintro e w' ⟨rfl,rfl⟩
    rw [HZ.out]
    by_cases hz:0≤z
    · have X:Hid (pfS L u=(z,true)):=Lib.hid ((HE.out (by rw [HZ.out];omega)).trans (by rw [HZ.out]))
      go_wp2_with fail
      go_ret2
      rw [X.out]
      exact ⟨rfl,HB.out⟩
    · have HX:Hid (z=-1):=Lib.hid (by omega)
      go_wp2_with fail
      go_round
      case rel=>exact ⟨1,by omega,rfl,fun _=>HX.out,fun x=>absurd x (by omega)⟩
      case measure=>simp [intOf]
  · go_wp2_with fail
    refine (idxT_any H1.out eT (by omega)).mono ?_
    rintro e w' ⟨rfl,rfl⟩
    rw [HY.out]
    by_cases hz:0≤y
    · have X:Hid (pfS L u=(y,true)):=Lib.hid ((HF.out (by rw [HZ.out];exact HH.out.1 (by omega)) (by rw [HY.out];omega)).trans (by rw [HY.out]))
      go_wp2_with fail
      go_ret2
      rw [X.out]
      exact ⟨rfl,HB.out⟩
    · have HX:Hid (y=-1):=Lib.hid (by omega)
      go_wp2_with fail
      go_round
      case rel=>exact ⟨2,by omega,rfl,fun _=>HH.out.1 (by omega),fun _=>HX.out⟩
      case measure=>simp [intOf]
  · have X:Hid (pfS L u=if n<16 then ((n:Int),true) else (0,false)):=Lib.hid (by
     rw [HG.out (by rw [HZ.out];exact HH.out.1 (by omega)) (by rw [HY.out];exact HH.out.2 (by omega)),HL.out])
    by_cases hl:n<16
    · have hl':(n:Int)<16:=by omega
      have X1:Hid (pfS L u=((n:Int),true)):=Lib.hid (X.out.trans (if_pos hl))
      go_wp2_with fail
      go_ret2
      rw [X1.out]
      exact ⟨rfl,HB.out⟩
    · have hl':¬ (n:Int)<16:=by omega
      have X1:Hid (pfS L u=(0,false)):=Lib.hid (X.out.trans (if_neg hl))
      go_wp2_with fail
      go_ret2
      rw [X1.out]
      exact ⟨rfl,HB.out⟩
def InPost (X:List ByteArray × Int × Int) (w:World) (e:Ending) (w':World):Prop:=∃ v,e=.returned (.tuple #[v,.int .u16 X.2.1,.int .i64 X.2.2])∧TxPost X.1 w v w'
theorem InPost.no (w:World) (k:Int) {w':World} (hb:Below w.heap.size w w'):InPost ([],0,k) w (.returned (.tuple #[.slice none 0 0,.int .u16 0,.int .i64 k])) w':=⟨_,rfl,hb,none,0,rfl,(Tx.nil _ _)⟩
set_option maxHeartbeats 1600000 in
set_option maxRecDepth 100000 in
theorem intern_any {w:World} {A:Option Addr} {n c:Nat} {L:List ByteArray} (h:Vs stV w A n L) (u:ByteArray) (hn:n≤60000) (hc:n≤c) (hu:u.size≤140737488351232) :
  Calls Tryz.prog 189 #[.slice A n c,.string u] w (InPost (internS L u) w):=by
 obtain rfl:=h.len
 obtain ⟨B,hB⟩:∃ B,mayT u=B:=⟨_,rfl⟩
 cases B
 · have X:InPost (internS L u) w (.returned (.tuple #[.slice none 0 0,.int .u16 0,.int .i64 3])) w:=by
    have e:internS L u=([],0,3):=by unfold internS;rw [if_pos hB]
    rw [e]
    exact InPost.no w 3 (Below.refl _ _)
   have HB:=Lib.hid hB
   clear h hB
   go_enter Tryz.func189,Tryz.ntmps189
   go_wp2_with fail
   refine (mayT_any u w hu).mono ?_
   rintro e w' ⟨rfl,rfl⟩
   rw [HB.out]
   go_wp2_with fail
   go_ret3
   exact X
 · have HC:=Lib.hid (intern_cases (t:=L) hB)
   have HB:=Lib.hid hB
   have H:=Lib.hid h
   clear hB h
   go_enter Tryz.func189,Tryz.ntmps189
   go_wp2_with fail
   refine (mayT_any u w hu).mono ?_
   rintro e w' ⟨rfl,rfl⟩
   rw [HB.out]
   go_wp2_with fail
   refine (placeFor_any H.out u hn hc).mono ?_
   rintro e w1 ⟨rfl,hb1⟩
   have HB1:=Lib.hid hb1
   clear hb1
   rcases HC.out with ⟨k,hk,e1,e2⟩ | ⟨e1,hl,e2⟩ | ⟨e1,e2⟩
   · rw [e1]
     have E2:=Lib.hid e2
     clear e1 e2 HC
     have hne:((k:Int) == (L.length:Int))=false:=by rw [beq_eq_false_iff_ne];omega
     go_wp2_with fail
     refine (cloneT_any (H.out.below HB1.out) (by omega)).mono ?_
     rintro e w2 ⟨v,rfl,hb2,A1,c1,rfl,hT⟩
     obtain ⟨g,rfl,hg,hgl,hfr⟩:=hT.blk (by omega)
     have hc2:w2.cell? ⟨g,k,none⟩=some (.string (sAt L k)):=by have:=hT.vs.str hk;rwa [addHead] at this
     have hf2:=hfr k
     have X:InPost (internS L u) w (.returned (.tuple #[.slice (some ⟨g,0,none⟩) L.length c1,.int .u16 ((k:Int)+1),.int .i64 0])) (w2.setCell ⟨g,k,none⟩ (.string u)):=by
      obtain ⟨hs1,hs2⟩:=hT.stored k u
      have hsz:=HB1.out.size
      rw [E2.out]
      exact ⟨_,rfl,(hs1.lower hsz).post ((HB1.out.trans (hb2.mono hsz)).setCell (by simp;omega) _)⟩
     clear hT hfr hb2
     generalize sAt L k=x at hc2
     go_wp2_with fail
     go_ret3
     exact X
   · rw [e1]
     have E2:=Lib.hid e2
     clear e1 e2 HC
     go_wp2_with fail
     refine (cloneT_any (H.out.below HB1.out) (by omega)).mono ?_
     rintro e w2 ⟨v,rfl,hb2,A1,c1,rfl,hT⟩
     have HT:=Lib.hid (And.intro hT hb2)
     clear hT hb2
     obtain ⟨m,hm⟩:∃ m,L.length+1=m:=⟨_,rfl⟩
     have hlm:L.length<m:=by omega
     have hmn:m≤60001:=by omega
     have HM:=Lib.hid hm
     clear hm
     go_wp2_with (at_builtin;refine wpList_appT _ rfl _ _ rfl w1.heap.size A1 L.length c1 L rfl (HT.out.1.below ((Below.refl _ _).alloc (Nat.le_refl _) _)) (some ⟨w2.heap.size,0,none⟩) 1 1 m HM.out [u] rfl (litT w2 u) (by omega) (by have:=HT.out.2.size;simp;omega) ?_;intro A' c' w3 hown hg3)
     obtain ⟨g,rfl,hg,hgl,hfr⟩:=hown.blk (by omega)
     have hc2:w3.cell? ⟨g,L.length,none⟩=some (.string u):=by
      have:=hown.vs.str (k:=L.length) hlm
      rwa [addHead,sAt_append_last] at this
     have hf2:=hfr L.length
     have X:InPost (internS L u) w (.returned (.tuple #[.slice (some ⟨g,0,none⟩) m c',.int .u16 ((L.length:Int)+1),.int .i64 0])) (w3.setCell ⟨g,L.length,none⟩ (.string u)):=by
      obtain ⟨hs1,hs2⟩:=hown.stored L.length u
      have hsz:=HB1.out.size
      have hsz2:=HT.out.2.size
      have e:(L ++ [u]).set L.length u=L ++ [u]:=by simp
      rw [e] at hs1
      rw [E2.out]
      refine ⟨_,rfl,(hs1.lower hsz).post (Below.setCell ?_ (by simp;omega) _)⟩
      exact ((HB1.out.trans (HT.out.2.mono hsz)).alloc (by omega) _).grown hg3 (by simp;omega) fun k hk=>Nat.le_trans hsz (HT.out.1.ownB k hk)
     clear hown hfr hg3
     go_wp2_with fail
     go_simp
     go_wp2_with fail
     go_ret3
     exact X
   · rw [e1]
     have X:InPost (internS L u) w (.returned (.tuple #[.slice none 0 0,.int .u16 0,.int .i64 11])) w1:=by
      rw [e2]
      exact InPost.no w 11 HB1.out
     clear e1 e2 HC
     go_wp2_with fail
     go_ret3
     exact X
end Go.Proofs.YtlcipgdnpilkfaaGreatDoor
