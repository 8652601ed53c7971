/-
  Part 36 of what the laws of emul want: EmulLead, EmulShelf, EmulCutB.
-/
import Derived.Deep.DeepCutAuto
import Derived.Shelf.Bytes.SlIndexSmall
import Derived.Shelf.Bytes.SlIndexAt
import Derived.Shelf.Bytes.SlCut
import Derived.Test.YtlcipgdnpilkfaaGreatDoorProg
import Derived.Lib.IndexLaws
import Derived.WalkKit
import Derived.Test.YtlcipgdnpilkfaaGreatDoorPo01
import Derived.Test.YtlcipgdnpilkfaaGreatDoorPo10
import Derived.Test.YtlcipgdnpilkfaaGreatDoorPo11
import Derived.Test.YtlcipgdnpilkfaaGreatDoorPo31
import Derived.Test.YtlcipgdnpilkfaaGreatDoorPo34
import Derived.Test.YtlcipgdnpilkfaaGreatDoorPo35
namespace Go.Proofs.YtlcipgdnpilkfaaGreatDoor
open Go.RowKit
theorem infoU16:(Tryz.prog.info? 29).map (fun i=>(i.zero,i.size,i.bytes))=some (some (.int .u16 0),1,2):=by kernel_rfl
def usedN (t:Tm) (k:Nat):List Int:=t.sav.pen.lk :: ((if 1≤k then t.main.flatten.map (·.p.lk) else []) ++ (if 2≤k then t.other.flatten.map (·.p.lk) else []))
def usedS (t:Tm):List Int:=t.sav.pen.lk :: (t.main.flatten.map (·.p.lk) ++ t.other.flatten.map (·.p.lk))
theorem usedN_end (t:Tm):usedN t 2=usedS t:=rfl
theorem usedN_next (t:Tm) {k:Nat} (hk:k<2):usedN t (k+1)=usedN t k ++ (if k=0 then t.main.flatten else t.other.flatten).map (·.p.lk):=by
 obtain rfl | rfl:k=0∨k=1:=by omega
 · simp [usedN]
 · simp [usedN]
theorem usedN_len (t:Tm) (k:Nat):(usedN t k).length≤1+t.main.flatten.length+t.other.flatten.length:=by
 unfold usedN
 have h:∀ (c:Prop) [Decidable c] (L:List Ce),(if c then L.map (·.p.lk) else []).length≤L.length:=fun c _ L=>by split<;>simp
 have h1:=h (1≤k) t.main.flatten
 have h2:=h (2≤k) t.other.flatten
 rw [List.length_cons,List.length_append]
 omega
theorem take_lk {L:List Ce} {j:Nat} (h:j<L.length):(L.map (·.p.lk)).take (j+1)=(L.map (·.p.lk)).take j ++ [(cAt L j).p.lk]:=by
 rw [List.take_add_one,List.getElem?_map,getElem?_cAt h]
 rfl
section
variable {B:Nat} {w:World} {g:Nat} {x:CT}
structure Usd (w:World) (b2:Nat) (x:CT) (v:Value) (us:List Int) (wr:World):Prop where
 own:wr.ownsRow w.heap.size 29 1 v us.length (us.map (Value.int .u16))
 b:wr.heap[b2]?=some (.cells #[.slice (some ⟨x.mb,0,none⟩) x.mN x.mK,.slice (some ⟨x.ob,0,none⟩) x.oN x.oK] 24 (0,0))
 bel:Below w.heap.size w wr
theorem Usd.lt {b2:Nat} {v:Value} {us:List Int} {wr:World} (h:Usd w b2 x v us wr):b2<wr.heap.size:=(Array.getElem?_eq_some_iff.1 h.b).1
theorem Usd.below {b2:Nat} {v:Value} {us:List Int} {wr w':World} (h:Usd w b2 x v us wr) (hb:Below wr.heap.size wr w'):Usd w b2 x v us w':=⟨ownI_below h.own hb,(hb.block _ h.lt).trans h.b,h.bel.trans (hb.mono h.bel.size)⟩
theorem Usd.app {b2:Nat} {v v':Value} {us vs:List Int} {wr w':World} (h:Usd w b2 x v us wr) (ho:w'.ownsRow w.heap.size 29 1 v' vs.length (vs.map (Value.int .u16))) (hg:wr.grownBy w' v.ownBlock):Usd w b2 x v' vs w':=by
 have hne:v.ownBlock≠some b2:=row_off h.own ⟨_,_,h.b⟩ (by decide)
 exact ⟨ho,(hg.block b2 h.lt (fun e=>hne e.symm)).trans h.b,h.bel.grown hg h.bel.size (fun q hq=>(h.own.lt q hq).1)⟩
set_option maxRecDepth 100000 in
set_option maxHeartbeats 3200000 in
theorem used_any (h:Cz B w g x):Calls Tryz.prog 191 #[.pointer (some ⟨g,0,none⟩)] w fun e w'=>∃ A c,e=.returned (.slice A (usedS x.t).length c)∧Ik .u16 w' A (usedS x.t).length (usedS x.t)∧(usedS x.t).length≤4000∧Below w.heap.size w w':=by
 have HZ:=Lib.hid h
 have hlm:x.t.main.flatten.length=x.mN∧x.mN≤1920∧x.t.other.flatten.length=x.oN∧x.oN≤1920:=by
  have h1:=h.ok.gm.box.flen
  have h2:=h.ok.go.box.flen
  have h3:=h.ok.gm.small
  have h4:=h.ok.go.small
  have h5:=h.mn
  have h6:=h.on
  omega
 have HLM:=Lib.hid hlm
 have c13:w.cell? ⟨g,13,none⟩=some (.int .u16 x.t.sav.pen.lk):=h.cell rfl
 clear h hlm
 obtain ⟨w1,hw1⟩:∃ w1,w1=w.alloc (.cells #[.int .u16 x.t.sav.pen.lk] 29):=⟨_,rfl⟩
 obtain ⟨b1,hb1⟩:∃ b1,b1=w.heap.size:=⟨_,rfl⟩
 have H1:=Lib.hid (show Below w.heap.size w w1∧w1.ownsRow w.heap.size 29 1 (.slice (some ⟨b1,0,none⟩) 1 1) 1 [.int .u16 x.t.sav.pen.lk] from by
  rw [hw1,hb1]
  exact ⟨(Below.refl _ _).alloc (Nat.le_refl _) _,World.ownsRow_lit w #[.int .u16 x.t.sav.pen.lk] 1 (Nat.le_refl _) (by unfold maxLen;omega) rfl⟩)
 go_enter Tryz.func191,Tryz.ntmps191
 go_upto_region 2 with fail
 rw [← hw1,← hb1]
 clear hw1 hb1 c13
 have c17:w1.cell? ⟨g,17,none⟩=some (.slice (some ⟨x.mb,0,none⟩) x.mN x.mK):=(HZ.out.below H1.out.1).cell rfl
 have c20:w1.cell? ⟨g,20,none⟩=some (.slice (some ⟨x.ob,0,none⟩) x.oN x.oK):=(HZ.out.below H1.out.1).cell rfl
 go_region
 obtain ⟨b2,hb2⟩:∃ b2,b2=w1.heap.size:=⟨_,rfl⟩
 obtain ⟨w2,hw2⟩:∃ w2,w2=(w1.alloc (.cells #[.slice (some ⟨x.mb,0,none⟩) x.mN x.mK,.slice (some ⟨x.ob,0,none⟩) x.oN x.oK] 24)).drew:=⟨_,rfl⟩
 have U0:=Lib.hid (show Usd w b2 x (.slice (some ⟨b1,0,none⟩) 1 1) (usedN x.t 0) w2 from by
  have h1:Below w1.heap.size w1 w2:=by rw [hw2];exact ((Below.refl _ _).alloc (Nat.le_refl _) _).drew
  refine ⟨ownI_below H1.out.2 h1,?_,H1.out.1.trans (h1.mono H1.out.1.size)⟩
  rw [hw2,hb2]
  exact heap_alloc_new w1 _)
 rw [← hw2,← hb2]
 clear hw2 hb2 c17 c20
 go_wp2_with fail
 go_loopw [3,30] (fun v i wr=>∃ (k:Nat),k≤2∧i=.int .i64 k∧Usd w b2 x v (usedN x.t k) wr) (fun _ i _=>2-(intOf i).toNat)
 case atStart=>exact ⟨0,Nat.zero_le _,rfl,U0.out⟩
 case round =>
  obtain ⟨k,hk,rfl,hU⟩:=hrel
  have U:=Lib.hid hU
  clear hU U0
  by_cases hlt:k<2
  · obtain ⟨q,n,c,L,hs,hv,hn,hnx⟩:∃ (q:Addr) (n c:Nat) (L:List Ce),wr.cell? ⟨b2,k,none⟩=some (.slice (some q) n c)∧(∀ w',Below w.heap.size w w'→Vs ceV w' (some q) n L)∧n≤1920∧usedN x.t (k+1)=usedN x.t k ++ L.map (·.p.lk):=by
     have hc:=usedN_next x.t hlt
     obtain ⟨e1,e2,e3,e4⟩:=HLM.out
     have hb:=U.out.b
     obtain rfl | rfl:k=0∨k=1:=by omega
     · refine ⟨⟨x.mb,0,none⟩,x.mN,x.mK,x.t.main.flatten,?_,fun w' hb'=>?_,e2,hc⟩
       · rw [cell_of_row _ _ 0 _ _ _ hb];rfl
       · have:=(HZ.out.below hb').m.vs;rwa [e1] at this
     · refine ⟨⟨x.ob,0,none⟩,x.oN,x.oK,x.t.other.flatten,?_,fun w' hb'=>?_,e4,hc⟩
       · rw [cell_of_row _ _ 1 _ _ _ hb];rfl
       · have:=(HZ.out.below hb').o.vs;rwa [e3] at this
    have hks:(k:Int)<2:=by omega
    have hk0:(0:Int)≤(k:Int):=by omega
    have HV:=Lib.hid (And.intro hv hnx)
    clear hv hnx
    go_wp2_with fail
    go_loopw [3,36] (fun v i w4=>∃ (j:Nat),j≤n∧i=.int .i64 j∧Usd w b2 x v (usedN x.t k ++ (L.map (·.p.lk)).take j) w4) (fun _ i _=>n-(intOf i).toNat)
    case atStart=>exact ⟨0,Nat.zero_le _,rfl,by rw [List.take_zero,List.append_nil];exact U.out⟩
    case round =>
     obtain ⟨j,hj,rfl,hU⟩:=hrel
     have X:=Lib.hid hU
     clear hU
     by_cases hjn:j<n
     · have hL:j<L.length:=by rw [(HV.out.1 w (Below.refl _ _)).len];exact hjn
       obtain ⟨hc0,hc1,hc2,hc3,hc4,hc5⟩:=(HV.out.1 wr X.out.bel).six hjn
       have HT:=Lib.hid (take_lk hL)
       have HB:=Lib.hid (show (usedN x.t k ++ (L.map (·.p.lk)).take j).length+1≤1000000 from by
        have h1:=usedN_len x.t k
        have h2:=HLM.out
        rw [List.length_append,List.length_take]
        omega)
       have hji:(j:Int)<(n:Int):=by omega
       generalize cAt L j=ce at hc0 hc1 hc2 hc3 hc4 hc5 HT
       obtain ⟨us,hus⟩:∃ us,usedN x.t k ++ (L.map (·.p.lk)).take j=us:=⟨_,rfl⟩
       rw [hus] at X HB
       have HUS:=Lib.hid hus
       clear hL hus
       go_wp2_with (refine wpList_appI _ rfl (.tmp 40) (.tmp 44) 184 rfl w.heap.size 29 .u16 2 (by omega) Tryz.underlying184 infoU16 u3 us.length _ rfl ((X.out.below (((Below.refl _ _).alloc (Nat.le_refl _) _).alloc (by simp [World.size_alloc]) _)).own) (some ⟨wr.heap.size+1,0,none⟩) 1 1 (us.length+1) rfl [ce.p.lk] rfl (by have:=Ik.one .u16 (wr.alloc (.cells #[.int .i32 ce.r,.int .u8 ce.wd,.int .u32 ce.p.fg,.int .u32 ce.p.bg,.int .u8 ce.p.st,.int .u16 ce.p.lk] 66)) 29 ce.p.lk;simpa [World.size_alloc] using this) HB.out (by have:=X.out.bel.size;simp [World.size_alloc];omega) ?_)
       intro A' c' w4 hown4 hg4
       have Z:=Lib.hid (show Usd w b2 x (.slice A' (us.length+1) c') (usedN x.t k ++ (L.map (·.p.lk)).take (j+1)) w4 from by
        rw [HT.out,← List.append_assoc,HUS.out]
        exact (X.out.below (((Below.refl _ _).alloc (Nat.le_refl _) _).alloc (by simp [World.size_alloc]) _)).app (by simpa using hown4) hg4)
       clear hown4 hg4 hc0 hc1 hc2 hc3 hc4 hc5 X
       go_wp2_with fail
       go_roundw
       case rel=>exact ⟨j+1,by omega,by go_num,Z.out⟩
       case measure=>simp [intOf];omega
     · obtain rfl:j=n:=by omega
       have hfull:(L.map (·.p.lk)).take j=L.map (·.p.lk):=List.take_of_length_le (by rw [List.length_map,(HV.out.1 w (Below.refl _ _)).len];exact Nat.le_refl _)
       have X2:=Lib.hid (show Usd w b2 x u3 (usedN x.t (k+1)) wr from by rw [HV.out.2,← hfull];exact X.out)
       clear hfull X U
       go_wp2_with fail
       go_roundw
       case rel=>exact ⟨k+1,by omega,by go_num,X2.out⟩
       case measure=>simp [intOf];omega
  · obtain rfl:k=2:=by omega
    obtain ⟨A1,c1,rfl,_,_⟩:=own_shape U.out.own
    have hown:=Ik.own U.out.own
    have Y:=Lib.hid (And.intro hown U.out.bel)
    clear hown
    have HLL:=Lib.hid (show (usedS x.t).length≤4000 from by
     have h1:=usedN_len x.t 2
     have h2:=HLM.out
     rw [← usedN_end]
     omega)
    go_wp2_with fail
    go_ret
    exact ⟨A1,c1,rfl,Y.out.1,HLL.out,Y.out.2⟩
theorem LkP.rng {tb:List ByteArray} {n:Int} (h:LkP tb n) (ht:tb.length≤16):0≤n∧n≤65535:=by
 rcases h with rfl | h
 · omega
 · obtain ⟨k,rfl,hk,_⟩:=leads_inv h
   omega
theorem LkOk.used (h:LkOk x.t) (ht:x.t.table.length≤16):∀ z∈usedS x.t,0≤z∧z≤65535:=by
 intro z hz
 unfold usedS at hz
 rcases List.mem_cons.1 hz with rfl | hz
 · exact h.sav.rng ht
 · rcases List.mem_append.1 hz with hz | hz
   · obtain ⟨c,hc,rfl⟩:=List.mem_map.1 hz
     exact (prws_flat h.main c hc).rng ht
   · obtain ⟨c,hc,rfl⟩:=List.mem_map.1 hz
     exact (prws_flat h.other c hc).rng ht
def Tm.unl (t:Tm):Tm:={ t with now:={ t.now with pen:={ t.now.pen with lk:=0 } } }
def Tm.inS (t:Tm) (s:ByteArray):List ByteArray × Int × Int:=if (internS t.table s).2.2=11 then internS (sweepS t.table (usedS t)) s else internS t.table s
theorem intern_eT (l:List ByteArray):internS l eT=([],0,3):=by unfold internS;rw [if_pos (by decide +kernel)]
theorem lead_is (t:Tm) (s:ByteArray):t.lead s=if (t.inS s).2.2=0 then { t.unl with table:=(t.inS s).1,now:={ t.unl.now with pen:={ t.unl.now.pen with lk:=(t.inS s).2.1 } } } else t.unl:=by
 unfold Tm.lead
 dsimp only
 by_cases h:s=eT
 · subst h
   rw [if_pos rfl]
   have e:t.inS eT=([],0,3):=by unfold Tm.inS;rw [intern_eT];rfl
   rw [e]
   rfl
 · rw [if_neg h]
   rfl
theorem sweep_sizes {l:List ByteArray} {us:List Int} (h:∀ s∈l,s.size≤100000):∀ s∈sweepS l us,s.size≤100000:=by
 intro s hs
 have h1:=List.mem_of_mem_take hs
 unfold sweepM at h1
 obtain ⟨i,hi,rfl⟩:=List.mem_map.1 h1
 split
 · rw [sAt_lt (List.mem_range.1 hi)];exact h _ (List.getElem_mem _)
 · decide
theorem intern_sizes {l:List ByteArray} {u:ByteArray} (h:∀ s∈l,s.size≤100000) (hu:u.size≤100000):∀ s∈(internS l u).1,s.size≤100000:=by
 intro s hs
 unfold internS at hs
 split at hs
 · cases hs
 · split at hs
   · exact h s hs
   · split at hs
     · rcases List.mem_or_eq_of_mem_set hs with h1 | h1
       · exact h s h1
       · rw [h1];exact hu
     · split at hs
       · rcases List.mem_append.1 hs with h1 | h1
         · exact h s h1
         · rw [List.mem_singleton.1 h1];exact hu
       · cases hs
theorem Cz.tabled (h:Cz B w g x) {w1 w':World} (hb:Below w.heap.size w w1) {A:Option Addr} {n c:Nat} {L':List ByteArray} {k:Int} (hT:Tx w.heap.size w1 A n c L') (hl:L'.length≤16) (hs:∀ s∈L',s.size≤100000)
  (hr:RwG w1 g (((ctV x).set 110 (.slice A n c)).set 6 (.int .u16 k)) w') :
  CzTo B g x { x.t with table:=L',now:={ x.t.now with pen:={ x.t.now.pen with lk:=k } } } w w' { x with t:={ x.t with table:=L',now:={ x.t.now with pen:={ x.t.now.pen with lk:=k } } },bA:=A,bN:=n,bK:=c }:=by
 have hB:=h.bB
 have hz:=h.below hb
 have hsz:=hr.gr.size
 have hsz1:=hb.size
 have hk:∀ q,q<w1.heap.size→q≠g→w'.heap[q]?=w1.heap[q]?:=fun q hq hne=>hr.gr.block q hq (fun e=>hne (by injection e))
 have hlt:=h.lt
 have hbig:∀ q,(Value.slice A n c).ownBlock=some q→w.heap.size≤q∧q<w1.heap.size:=fun q hq=>hT.own.lt q hq
 have e1:(ctV x).set (109+1) (.slice A n c)=ctV { x with bA:=A,bN:=n,bK:=c }:=ctV_setTl h.ok.tabs 1 _ rfl rfl rfl
 refine ⟨rfl,⟨?_,h.gB,{ h.ok with tbl:=hl,pen:=⟨h.ok.pen.fg,h.ok.pen.bg,h.ok.pen.f0,h.ok.pen.b0,h.ok.pen.st⟩ },hz.m.kept (hk _ hz.m.lt hz.gm.symm),h.mB,h.mn,h.mkk,hz.o.kept (hk _ hz.o.lt hz.go.symm),h.oB,h.on,h.okk,h.ne,hz.p.kept hsz fun q hq=>hk q (hz.p.hi q hq) (fun e=>hz.gp (e ▸ hq)),?_,h.tl,hs⟩,⟨?_,fun q hq hS=>?_⟩,fun q hq=>?_⟩
 · rw [hr.blk,show (ctV x).set 110 (.slice A n c)=ctV { x with bA:=A,bN:=n,bK:=c } from e1]
   rfl
 · exact (hT.lower hB).same fun q hq=>hk q (hbig q hq).2 (fun e=>by have:=(hbig q hq).1;omega)
 · exact ⟨hr.gr.os.trans hb.os,hr.gr.tape.trans hb.tape,hr.gr.output.trans hb.output,Nat.le_trans hsz1 hsz,fun q hq=>by rw [hk q (by omega) (fun e=>by have:=h.gB;omega)];exact hb.block q (by omega)⟩
 · rw [hk q (by omega) (fun e=>hS (.inl e))]
   exact hb.block q hq
 · rcases hq with hq | hq | hq | hq | hq
   · exact .inl (.inl hq)
   · exact .inl (.inr (.inl hq))
   · exact .inl (.inr (.inr (.inl hq)))
   · exact .inl (.inr (.inr (.inr (.inl hq))))
   · exact .inr (hbig q hq).1
set_option maxRecDepth 100000 in
set_option maxHeartbeats 3200000 in
theorem lead_any (h:Cz B w g x) (hl:LkOk x.t) (u:ByteArray) (hu:u.size≤100000):Calls Tryz.prog 119 #[.pointer (some ⟨g,0,none⟩),.string u] w (CzP B g x (x.t.lead u) w):=by
 have HLD:=Lib.hid (lead_is x.t u)
 generalize x.t.lead u=T' at HLD ⊢
 have HUS:=Lib.hid (hl.used h.ok.tbl)
 have HU0:=Lib.hid hu
 obtain ⟨w1,hw1⟩:∃ w1,w1=w.setCell ⟨g,6,none⟩ (.int .u16 0):=⟨_,rfl⟩
 obtain ⟨y,hy⟩:∃ y:CT,y={ x with t:=x.t.unl }:=⟨_,rfl⟩
 have K1:=Lib.hid (show CzTo B g x x.t.unl w w1 y from by
  rw [hw1,hy]
  exact (h.raw.set 6 (.int .u16 0)).fin h (y:={ x with t:=x.t.unl }) rfl ⟨rfl,rfl,rfl,rfl,rfl,rfl,rfl,rfl,rfl,rfl,rfl,rfl,rfl,rfl,rfl,rfl,rfl,h.tl⟩ { h.ok with pen:=⟨h.ok.pen.fg,h.ok.pen.bg,h.ok.pen.f0,h.ok.pen.b0,h.ok.pen.st⟩ })
 have HY:=Lib.hid (show y.t=x.t.unl∧y.t.table=x.t.table∧usedS y.t=usedS x.t∧y.bA=x.bA∧y.bN=x.bN∧y.bK=x.bK from by rw [hy];exact ⟨rfl,rfl,rfl,rfl,rfl,rfl⟩)
 have c6:w.cell? ⟨g,6,none⟩=some (.int .u16 x.t.now.pen.lk):=h.cell rfl
 have f6:=h.fr 6
 have HIN:=Lib.hid (show ∀ w',Below w1.heap.size w1 w'→Calls Tryz.prog 189 #[.slice y.bA y.bN y.bK,.string u] w' (InPost (internS x.t.table u) w') from fun w' hb=>by
  have h4:=(K1.out.cz.below hb).b
  have h5:=(K1.out.cz.below hb).ok.tbl
  have h6:=h4.len
  have h7:=intern_any h4.vs u (by omega) h4.le (by have:=HU0.out;omega)
  rw [HY.out.2.1] at h7
  exact h7)
 have HUD:=Lib.hid (show ∀ w',Below w1.heap.size w1 w'→Calls Tryz.prog 191 #[.pointer (some ⟨g,0,none⟩)] w' fun e w''=>∃ A c,e=.returned (.slice A (usedS x.t).length c)∧Ik .u16 w'' A (usedS x.t).length (usedS x.t)∧(usedS x.t).length≤4000∧Below w'.heap.size w' w'' from fun w' hb=>by
  have h7:=used_any (K1.out.cz.below hb)
  rw [HY.out.2.2.1] at h7
  exact h7)
 have HSW:=Lib.hid (show ∀ w' A c,Below w1.heap.size w1 w'→Ik .u16 w' A (usedS x.t).length (usedS x.t)→(usedS x.t).length≤4000→Calls Tryz.prog 190 #[.slice y.bA y.bN y.bK,.slice A (usedS x.t).length c] w' (TxEnd (sweepS x.t.table (usedS x.t)) w') from fun w' A c hb hI hle=>by
  have h4:=(K1.out.cz.below hb).b
  have h5:=(K1.out.cz.below hb).ok.tbl
  have h6:=h4.len
  have h7:=sweep_any (c:=y.bK) (c':=c) h4.vs hI HUS.out (by omega) (by omega)
  rw [HY.out.2.1] at h7
  exact h7)
 have HLS:=Lib.hid (show (sweepS x.t.table (usedS x.t)).length≤16 from by have:=sweepS_len x.t.table (usedS x.t);have:=h.ok.tbl;omega)
 have HFIN:=Lib.hid (show (x.t.inS u).1.length≤16∧∀ s∈(x.t.inS u).1,s.size≤100000 from by
  unfold Tm.inS
  split
  · exact ⟨TmOk.intern_len u HLS.out,intern_sizes (sweep_sizes h.bs) hu⟩
  · exact ⟨TmOk.intern_len u h.ok.tbl,intern_sizes h.bs hu⟩)
 clear hl hu hy h
 go_enter Tryz.func119,Tryz.ntmps119
 go_upto_region 1 with fail
 rw [← hw1]
 clear hw1 c6 f6
 have c110:w1.cell? ⟨g,110,none⟩=some (.slice y.bA y.bN y.bK):=K1.out.cz.table.1
 go_wp2_with fail
 refine (HIN.out w1 (Below.refl _ _)).mono ?_
 rintro e w2 ⟨v,rfl,hb2,A2,c2,rfl,hT2⟩
 have X2:=Lib.hid (And.intro hb2 hT2)
 clear hb2 hT2 c110
 obtain ⟨E,hE⟩:∃ E,(internS x.t.table u).2.2=E:=⟨_,rfl⟩
 rw [hE]
 have HE:=Lib.hid hE
 clear hE
 go_upto_if 25 with fail
 go_cut [4,5,6] from 26 to 39 (fun v4 v5 v6 wc=>∃ A c,v4=.slice A (x.t.inS u).1.length c∧v5=.int .u16 (x.t.inS u).2.1∧v6=.int .i64 (x.t.inS u).2.2∧Tx w1.heap.size wc A (x.t.inS u).1.length c (x.t.inS u).1∧Below w1.heap.size w1 wc)
 case first =>
  by_cases h11:E=11
  · have EQ:=Lib.hid (show x.t.inS u=internS (sweepS x.t.table (usedS x.t)) u from by unfold Tm.inS;rw [HE.out,if_pos h11])
    subst h11
    have c110:w2.cell? ⟨g,110,none⟩=some (.slice y.bA y.bN y.bK):=(K1.out.cz.below X2.out.1).table.1
    have SX:=Lib.hid (show ∀ w',Below w1.heap.size w1 w'→(Below w1.heap.size w1 w'∧w'.cell? ⟨g,110,none⟩=some (.slice y.bA y.bN y.bK)) from fun w' hb=>⟨hb,(K1.out.cz.below hb).table.1⟩)
    have hb0:Below w1.heap.size w1 w2.drew:=X2.out.1.drew
    have hbz:Below w1.heap.size w1 w2:=X2.out.1
    go_wp2_with fail
    go_region_held3 (fun w'=>Below w1.heap.size w1 w'∧w'.cell? ⟨g,110,none⟩=some (.slice y.bA y.bN y.bK))
     ((refine SX.out _ ?_;assumption))
     ((first
      | (go_at_call 191;refine (HUD.out _ (by assumption)).mono ?_;rintro e w4 ⟨A4,c4,rfl,hI4,hl4,hb4⟩;have hbU:=Below.trans (B:=w1.heap.size) (by assumption) (hb4.mono (below_szp (a:=w1) (B:=w1.heap.size) (by assumption)));clear hb4)
      | (go_at_call 190;refine (HSW.out _ _ _ (by assumption) hI4 hl4).mono ?_;rintro e w5 ⟨v,rfl,hb5,A5,c5,rfl,hT5⟩;have hbS:=Below.trans (B:=w1.heap.size) (by assumption) (hb5.mono (below_szp (a:=w1) (B:=w1.heap.size) (by assumption)));clear hb5)
      | (go_at_call 189;refine (intern_any hT5.vs u (by have:=HLS.out;omega) hT5.le (by have:=HU0.out;omega)).mono ?_;rintro e w6 ⟨v,rfl,hb6,A6,c6,rfl,hT6⟩;have hbI:=Below.trans (B:=w1.heap.size) (by assumption) (hb6.mono (below_szp (a:=w1) (B:=w1.heap.size) (by assumption)));have hT7:=hT6.lower (B:=w1.heap.size) (below_szp (a:=w1) (B:=w1.heap.size) (by assumption));clear hb6 hT6)))
    have X6:=Lib.hid (And.intro hT7 hbI)
    clear hT7 hbI hT5 hI4 hl4 hbU hbS
    go_wp2_with fail
    go_meet
    case rel=>exact ⟨A6,c6,by rw [EQ.out],by rw [EQ.out],by rw [EQ.out],by rw [EQ.out];exact X6.out.1,X6.out.2⟩
  · have EQ:=Lib.hid (show x.t.inS u=internS x.t.table u from by unfold Tm.inS;rw [HE.out,if_neg h11])
    have b0:(E == 11)=false:=beq_eq_false_iff_ne.2 h11
    go_wp2_with fail
    go_meet
    case rel=>exact ⟨A2,c2,by rw [EQ.out],by rw [EQ.out],by rw [EQ.out,HE.out],by rw [EQ.out];exact X2.out.2,X2.out.1⟩
 case rest =>
  obtain ⟨A,c,rfl,rfl,rfl,hT,hb⟩:=hcut
  have X3:=Lib.hid (And.intro hT hb)
  clear hT hb
  generalize x.t.inS u=V at X3 HFIN HLD ⊢
  obtain ⟨L',k,E'⟩:=V
  dsimp only at X3 HFIN HLD ⊢
  by_cases h0:E'=0
  · subst h0
    rw [if_pos rfl] at HLD
    have Z:=K1.out.cz.below X3.out.2
    have c6:wc.cell? ⟨g,6,none⟩=some (.int .u16 y.t.now.pen.lk):=Z.cell rfl
    have f6:=Z.fr 6
    have c110:=Z.table.1
    have f110:=Z.fr 110
    have FIN:=Lib.hid (K1.out.trans (K1.out.cz.tabled (k:=k) X3.out.2 X3.out.1 HFIN.out.1 HFIN.out.2 ((Z.raw.set 110 (.slice A L'.length c)).set 6 (.int .u16 k))))
    clear Z
    go_wp2_with fail
    go_end0
    exact ⟨rfl,_,FIN.out.as (by rw [HLD.out,HY.out.1])⟩
  · rw [if_neg h0] at HLD
    have b0:(E' == 0)=false:=beq_eq_false_iff_ne.2 h0
    go_wp2_with fail
    go_end0
    exact ⟨rfl,y,(K1.out.below X3.out.2).as HLD.out.symm⟩
end
end Go.Proofs.YtlcipgdnpilkfaaGreatDoor
namespace Go.Proofs
open Go.Shelf
def Tryz.lays185_ren:Go.Shelf.Ren:=⟨fun | 185=>187 | 187=>232 | 115=>233 | 253=>234 | 224=>235 | 254=>236 | 255=>264 | 291=>265 | n=>n,fun | 37=>36 | 3=>3 | 4=>4 | 0=>0 | 5=>5 | 46=>217 | 9=>9 | 146=>243 | 51=>27 | n=>n,fun | 1=>1 | n=>n⟩
theorem Tryz.lays185:Go.Proofs.Lays.n185 Tryz.prog Tryz.lays185_ren:={
 mixed:=by kernel_rfl
 f115:=Tryz.func233.trans (congrArg some (by kernel_rfl))
 f185:=Tryz.func187.trans (congrArg some (by kernel_rfl))
 f187:=Tryz.func232.trans (congrArg some (by kernel_rfl))
 f224:=Tryz.func235.trans (congrArg some (by kernel_rfl))
 f253:=Tryz.func234.trans (congrArg some (by kernel_rfl))
 f254:=Tryz.func236.trans (congrArg some (by kernel_rfl))
 f255:=Tryz.func264.trans (congrArg some (by kernel_rfl))
 f291:=Tryz.func265.trans (congrArg some (by kernel_rfl))
 t0:=Tryz.underlying0
 a0:=Tryz.isAgg0
 z0:=Tryz.sizeOf0
 v0:=Tryz.zeroValue0
 t3:=Tryz.underlying3
 a3:=Tryz.isAgg3
 z3:=Tryz.sizeOf3
 v3:=Tryz.zeroValue3
 t4:=Tryz.underlying4
 a4:=Tryz.isAgg4
 z4:=Tryz.sizeOf4
 v4:=Tryz.zeroValue4
 t5:=Tryz.underlying5
 a5:=Tryz.isAgg5
 z5:=Tryz.sizeOf5
 v5:=Tryz.zeroValue5
 t9:=Tryz.underlying9
 a9:=Tryz.isAgg9
 z9:=Tryz.sizeOf9
 v9:=Tryz.zeroValue9
 t37:=Tryz.underlying36
 a37:=Tryz.isAgg36
 z37:=Tryz.sizeOf36
 v37:=Tryz.zeroValue36
 t46:=Tryz.underlying217
 a46:=Tryz.isAgg217
 z46:=Tryz.sizeOf217
 v46:=Tryz.zeroValue217
 t51:=Tryz.underlying27
 a51:=Tryz.isAgg27
 z51:=Tryz.sizeOf27
 v51:=Tryz.zeroValue27
 t146:=Tryz.underlying243
 a146:=Tryz.isAgg243
 z146:=Tryz.sizeOf243
 v146:=Tryz.zeroValue243
 g1:=by kernel_rfl }
open Go.RowKit Go.Lib in
theorem Tryz.bytes_Index_one_nil (b2 o2 d:Nat) (cv:Int) (w:World) (hc2:w.cell? ⟨b2,o2,none⟩=some (.int .u8 cv)) :
  Calls Tryz.prog 187 #[.slice none 0 0,.slice (some ⟨b2,o2,none⟩) 1 d] w fun e w'=>e=.returned (.int .i64 (-1))∧w'=w:=Any.bytes_Index_one_nil Tryz.lays185 b2 o2 d cv w hc2
open Go.RowKit Go.Lib in
theorem Tryz.bytes_Index_one_at (a:Addr) (n c b2 o2 d:Nat) (xs:List Int) (cv:Int) (w:World) (hx:xs.length=n) (hc:∀ i,i<n→w.cell? (a.add i)=some (.int .u8 (xs.getD i 0))) (hc2:w.cell? ⟨b2,o2,none⟩=some (.int .u8 cv)) :
  Calls Tryz.prog 187 #[.slice (some a) n c,.slice (some ⟨b2,o2,none⟩) 1 d] w fun e w'=>e=.returned (.int .i64 (Lib.indexByte (Lib.bytesOf xs) cv.toNat.toUInt8))∧w'=w:=Any.bytes_Index_one_at Tryz.lays185 a n c b2 o2 d xs cv w hx hc hc2
def Tryz.laysSlT4_ren:Go.Shelf.Ren:=⟨fun | 4=>117 | 5=>187 | 6=>232 | 7=>233 | 8=>234 | 9=>235 | 10=>236 | 11=>264 | 12=>265 | n=>n,fun | 22=>36 | 4=>4 | 3=>3 | 0=>0 | 5=>5 | 29=>217 | 9=>9 | 31=>243 | 30=>27 | n=>n,fun | 0=>1 | n=>n⟩
theorem Tryz.laysSlT4:Go.Proofs.SlLaysT.n4 Tryz.prog Tryz.laysSlT4_ren:={
 mixed:=by kernel_rfl
 f4:=Tryz.func117.trans (congrArg some (by kernel_rfl))
 f5:=Tryz.func187.trans (congrArg some (by kernel_rfl))
 f6:=Tryz.func232.trans (congrArg some (by kernel_rfl))
 f7:=Tryz.func233.trans (congrArg some (by kernel_rfl))
 f8:=Tryz.func234.trans (congrArg some (by kernel_rfl))
 f9:=Tryz.func235.trans (congrArg some (by kernel_rfl))
 f10:=Tryz.func236.trans (congrArg some (by kernel_rfl))
 f11:=Tryz.func264.trans (congrArg some (by kernel_rfl))
 f12:=Tryz.func265.trans (congrArg some (by kernel_rfl))
 t0:=Tryz.underlying0
 a0:=Tryz.isAgg0
 z0:=Tryz.sizeOf0
 v0:=Tryz.zeroValue0
 t3:=Tryz.underlying3
 a3:=Tryz.isAgg3
 z3:=Tryz.sizeOf3
 v3:=Tryz.zeroValue3
 t4:=Tryz.underlying4
 a4:=Tryz.isAgg4
 z4:=Tryz.sizeOf4
 v4:=Tryz.zeroValue4
 t5:=Tryz.underlying5
 a5:=Tryz.isAgg5
 z5:=Tryz.sizeOf5
 v5:=Tryz.zeroValue5
 t9:=Tryz.underlying9
 a9:=Tryz.isAgg9
 z9:=Tryz.sizeOf9
 v9:=Tryz.zeroValue9
 t22:=Tryz.underlying36
 a22:=Tryz.isAgg36
 z22:=Tryz.sizeOf36
 v22:=Tryz.zeroValue36
 t29:=Tryz.underlying217
 a29:=Tryz.isAgg217
 z29:=Tryz.sizeOf217
 v29:=Tryz.zeroValue217
 t30:=Tryz.underlying27
 a30:=Tryz.isAgg27
 z30:=Tryz.sizeOf27
 v30:=Tryz.zeroValue27
 t31:=Tryz.underlying243
 a31:=Tryz.isAgg243
 z31:=Tryz.sizeOf243
 v31:=Tryz.zeroValue243
 g0:=by kernel_rfl }
theorem Tryz.bytes_Cut_of (p1 p2:Option Addr) (n c1 k c2:Nat) (i:Int) (w:World) (hcap:n≤c1) (hlo:-1≤i) (hroom:0≤i→i+k≤n) (hn:n≤4611686018427387904) (hidx:Calls Tryz.prog 187 #[.slice p1 n c1,.slice p2 k c2] w fun e w'=>e=.returned (.int .i64 i)∧∃ q,w'=w.drewN q) :
  Calls Tryz.prog 117 #[.slice p1 n c1,.slice p2 k c2] w fun e w'=>e=.returned (Lib.cutV p1 n c1 k i)∧∃ q,w'=w.drewN q:=Any.bytes_Cut_of Tryz.laysSlT4 p1 p2 n c1 k c2 i w hcap hlo hroom hn hidx
end Go.Proofs
namespace Go.Proofs.YtlcipgdnpilkfaaGreatDoor
open Go.RowKit
set_option maxRecDepth 1000000 in
theorem indexByte_nilc (c:Nat) (cv:Int) (w:World):Calls Tryz.prog 232 #[.slice none 0 c,.int .u8 cv] w fun e w'=>e=.returned (.int .i64 (-1))∧w'=w:=by
 go_enter Tryz.func232,Tryz.ntmps232
 go_wp2_with fail
 rw [run_callFunc_extern Tryz.func264 (by kernel_rfl) (by kernel_rfl) (by kernel_rfl) (e:=Extern.BytealgIndexByte.indexByte) (by kernel_rfl),Lib.run_indexByteNil w 0 c cv]
 simp only [Result.andThen]
 rw [Oper.upon_value]
 go_wp2_with fail
 go_ret
 exact ⟨rfl,rfl⟩
set_option maxHeartbeats 2000000 in
set_option maxRecDepth 1000000 in
theorem index_nilc (c b2 o2 d:Nat) (cv:Int) (w:World) (hc2:w.cell? ⟨b2,o2,none⟩=some (.int .u8 cv)) :
  Calls Tryz.prog 187 #[.slice none 0 c,.slice (some ⟨b2,o2,none⟩) 1 d] w fun e w'=>e=.returned (.int .i64 (-1))∧w'=w:=by
 go_enter Tryz.func187,Tryz.ntmps187
 go_wp2_with fail
 refine (indexByte_nilc c cv w).mono ?_
 rintro e w' ⟨rfl,rfl⟩
 go_wp2_with fail
 go_ret
 exact ⟨rfl,rfl⟩
theorem idx_is:∀ {zs:List Int},U8s zs→Lib.indexByte (Lib.bytesOf zs) (59:Int).toNat.toUInt8=match zs.idxOf? 59 with | some k=>(k:Int) | none=>-1
 | [],_=>rfl
 | z :: zs,h=>by
  have hz:=h z (by simp)
  have ih:=idx_is (zs:=zs) fun y hy=>h y (by simp [hy])
  have hb:Lib.bytesOf (z :: zs)=z.toNat.toUInt8 :: Lib.bytesOf zs:=rfl
  have hiff:(z.toNat.toUInt8 == (59:Int).toNat.toUInt8)=decide (z=59):=by
   rw [Bool.eq_iff_iff]
   simp only [beq_iff_eq,decide_eq_true_eq]
   constructor
   · intro e
     have:=congrArg UInt8.toNat e
     simp at this
     omega
   · rintro rfl;rfl
  rw [hb]
  unfold Lib.indexByte
  rw [hiff,ih]
  by_cases h9:z=59
  · subst h9
    simp [List.idxOf?,List.findIdx?_cons]
  · have e:(z :: zs).idxOf? 59=(zs.idxOf? 59).map (·+1):=by
     simp [List.idxOf?,List.findIdx?_cons,h9]
    rw [e,decide_eq_false h9]
    cases zs.idxOf? 59 with
    | none=>simp
    | some k =>
     simp only [Option.map_some,Bool.false_eq_true,if_false]
     rw [if_neg (by simp)]
     rfl
theorem idx_lt {zs:List Int} {k:Nat} (h:zs.idxOf? 59=some k):k<zs.length:=by
 simp [List.idxOf?,List.findIdx?_eq_some_iff_findIdx_eq] at h
 omega
def CutP (A:Option Addr) (n c:Nat) (zs:List Int) (w:World) (e:Ending) (w':World):Prop :=
 (∃ q,w'=w.drewN q)∧((zs.idxOf? 59=none∧e=.returned (.tuple #[.slice A n c,.slice none 0 0,.bool false])) ∨
  ∃ (k:Nat) (A':Option Addr),zs.idxOf? 59=some k∧k<n∧e=.returned (.tuple #[.slice A k c,.slice A' (n-(k+1)) (c-(k+1)),.bool true])∧Sb w A k (zs.take k)∧Sb w A' (n-(k+1)) (zs.drop (k+1)))
theorem cutB_any {w:World} {A:Option Addr} {n c:Nat} {zs:List Int} (hs:Sb w A n zs) (h8:U8s zs) (hn:n≤1000000) (hc:n≤c) (b2 d:Nat) (hc2:w.cell? ⟨b2,0,none⟩=some (.int .u8 59)) :
  Calls Tryz.prog 117 #[.slice A n c,.slice (some ⟨b2,0,none⟩) 1 d] w (CutP A n c zs w):=by
 have hl:=hs.len
 have hidx:Calls Tryz.prog 187 #[.slice A n c,.slice (some ⟨b2,0,none⟩) 1 d] w fun e w'=>e=.returned (.int .i64 (match zs.idxOf? 59 with | some k=>(k:Int) | none=>-1))∧∃ q,w'=w.drewN q:=by
  cases A with
  | none =>
   have h0:n=0:=by
    rcases Nat.eq_zero_or_pos n with h0 | h0
    · exact h0
    · obtain ⟨ad,e,_⟩:=hs.at_ h0;cases e
   subst h0
   obtain rfl:=List.eq_nil_of_length_eq_zero hl
   refine (index_nilc c b2 0 d 59 w hc2).mono ?_
   rintro e w' ⟨rfl,rfl⟩
   exact ⟨rfl,0,rfl⟩
  | some ad =>
   refine (Tryz.bytes_Index_one_at ad n c b2 0 d zs 59 w hl (fun i hi=>?_) hc2).mono ?_
   · obtain ⟨ad',e,_,hcl⟩:=hs.at_ (by omega)
     injection e with e
     rw [e]
     exact hcl i hi
   · rintro e w' ⟨rfl,rfl⟩
     exact ⟨by rw [idx_is h8],0,rfl⟩
 cases hI:zs.idxOf? 59 with
 | none =>
  rw [hI] at hidx
  refine (Tryz.bytes_Cut_of A (some ⟨b2,0,none⟩) n c 1 d (-1) w hc (by omega) (by omega) (by omega) hidx).mono ?_
  rintro e w' ⟨rfl,hq⟩
  exact ⟨hq,.inl ⟨hI,rfl⟩⟩
 | some k =>
  rw [hI] at hidx
  have hk:=idx_lt hI
  rw [hl] at hk
  refine (Tryz.bytes_Cut_of A (some ⟨b2,0,none⟩) n c 1 d (k:Int) w hc (by omega) (by omega) (by omega) hidx).mono ?_
  rintro e w' ⟨rfl,hq⟩
  obtain ⟨ad,rfl⟩:∃ ad,A=some ad:=by obtain ⟨ad,e,_⟩:=hs.at_ (by omega);exact ⟨ad,e⟩
  refine ⟨hq,.inr ⟨k,_,hI,hk,?_,hs.front (by omega),hs.cut (by omega) hc⟩⟩
  unfold Lib.cutV Lib.fromV
  rw [if_pos (by omega),Int.toNat_natCast]
end Go.Proofs.YtlcipgdnpilkfaaGreatDoor
