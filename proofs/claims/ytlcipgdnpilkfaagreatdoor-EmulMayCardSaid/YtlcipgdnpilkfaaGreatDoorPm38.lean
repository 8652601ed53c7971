/-
  Part 38 of what the laws of emul want: LinksPut, EmulLead.
-/
import Derived.WalkKit
import Derived.Deep.DeepCutAuto
import Derived.Test.YtlcipgdnpilkfaaGreatDoorPm12
import Derived.Test.YtlcipgdnpilkfaaGreatDoorPm13
import Derived.Test.YtlcipgdnpilkfaaGreatDoorPm32
import Derived.Test.YtlcipgdnpilkfaaGreatDoorPm33
import Derived.Test.YtlcipgdnpilkfaaGreatDoorPm35
import Derived.Test.YtlcipgdnpilkfaaGreatDoorPm36
import Derived.Test.YtlcipgdnpilkfaaGreatDoorPm37
namespace Go.Proofs.YtlcipgdnpilkfaaGreatDoor
open Go.RowKit
def pfS (t:List ByteArray) (u:ByteArray):Int × Bool :=
 if placeI t u≠-1 then (placeI t u,true) else if placeI t eT≠-1 then (placeI t eT,true) else if t.length<16 then ((t.length:Int),true) else (0,false)
theorem set_same {l:List ByteArray} {k:Nat} (h:k<l.length):l.set k (sAt l k)=l:=by rw [sAt_lt h];exact List.set_getElem_self h
theorem pf_hit {t:List ByteArray} {u:ByteArray} (h:placeI t u≠-1):pfS t u=(placeI t u,true):=by unfold pfS;rw [if_pos h]
theorem pf_free {t:List ByteArray} {u:ByteArray} (h:placeI t u=-1) (h1:placeI t eT≠-1):pfS t u=(placeI t eT,true):=by unfold pfS;rw [if_neg (fun x=>x h),if_pos h1]
theorem pf_else {t:List ByteArray} {u:ByteArray} (h:placeI t u=-1) (h1:placeI t eT=-1):pfS t u=if t.length<16 then ((t.length:Int),true) else (0,false):=by
 unfold pfS;rw [if_neg (fun x=>x h),if_neg (fun x=>x h1)]
theorem intern_cases {t:List ByteArray} {u:ByteArray} (hm:mayT u=true) :
  (∃ k:Nat,k<t.length∧pfS t u=((k:Int),true)∧internS t u=(t.set k u,(k:Int)+1,0)) ∨
  (pfS t u=((t.length:Int),true)∧t.length<16∧internS t u=(t ++ [u],(t.length:Int)+1,0))∨(pfS t u=(0,false)∧internS t u=([],0,11)):=by
 by_cases h:placeI t u=-1
 · by_cases h1:placeI t eT=-1
   · rw [pf_else h h1]
     by_cases h2:t.length<16
     · exact Or.inr (Or.inl ⟨if_pos h2,h2,by unfold internS;simp [hm,h,h1,h2]⟩)
     · exact Or.inr (Or.inr ⟨if_neg h2,by unfold internS;simp [hm,h,h1,h2]⟩)
   · obtain ⟨k,hk,e,e1,_⟩:=placeI_mem (mem_place.1 h1)
     refine Or.inl ⟨k,hk,by rw [pf_free h h1,e],?_⟩
     unfold internS
     simp [hm,h,e]
 · obtain ⟨k,hk,e,e1,_⟩:=placeI_mem (mem_place.1 h)
   refine Or.inl ⟨k,hk,by rw [pf_hit h,e],?_⟩
   have e2:t.set k u=t:=by rw [← e1,set_same hk]
   rw [e2]
   unfold internS
   simp [hm,e]
set_option maxHeartbeats 800000 in
set_option maxRecDepth 100000 in
theorem placeFor_any {w:World} {A:Option Addr} {n c:Nat} {L:List ByteArray} (h:Vs stV w A n L) (u:ByteArray) (hn:n≤60000) (hc:n≤c) :
  Calls Tryz.prog 238 #[.slice A n c,.string u] w fun e w'=>e=.returned (.tuple #[.int .i64 (pfS L u).1,.bool (pfS L u).2])∧Below w.heap.size w w':=by
 have H1:=Lib.hid (h.alloc (.cells #[.string u,.string ⟨#[]⟩] 9))
 have HL:=Lib.hid h.len
 clear h
 have hmin:min (n:Int) 65535=n:=by omega
 have q0:=placeI_ge L u
 have q1:=placeI_lt L u
 have q2:=placeI_ge L eT
 have q3:=placeI_lt L eT
 rw [HL.out] at q1 q3
 have HE:=Lib.hid (@pf_hit L u)
 have HF:=Lib.hid (@pf_free L u)
 have HG:=Lib.hid (@pf_else L u)
 obtain ⟨z,hz⟩:∃ z,placeI L u=z:=⟨_,rfl⟩
 obtain ⟨y,hy⟩:∃ y,placeI L eT=y:=⟨_,rfl⟩
 rw [hz] at q0 q1
 rw [hy] at q2 q3
 have HZ:=Lib.hid hz
 have HY:=Lib.hid hy
 clear hz hy
 have HB:=Lib.hid (((Below.refl w.heap.size w).alloc (Nat.le_refl _) (.cells #[.string u,.string ⟨#[]⟩] 9)))
 go_enter Tryz.func238,Tryz.ntmps238
 go_wp2
 go_loop [18] (fun i=>∃ k:Nat,k≤2∧i=.int .i64 k∧(0<k→z=-1)∧(1<k→y=-1)) (fun i=>2-(intOf i).toNat)
 case atStart=>exact ⟨0,Nat.zero_le _,rfl,fun x=>absurd x (by omega),fun x=>absurd x (by omega)⟩
 case round =>
  obtain ⟨k,hk,rfl,h1,h2⟩:=hrel
  have HH:=Lib.hid (And.intro h1 h2)
  clear h1 h2
  have hk3:k=0∨k=1∨k=2:=by omega
  rcases hk3 with rfl | rfl | rfl
  · go_wp2_with fail
    refine (idxT_any H1.out u (by omega)).mono ?_
    rintro e w' ⟨rfl,rfl⟩
    rw [HZ.out]
    by_cases hz:0≤z
    · have X:Hid (pfS L u=(z,true)):=Lib.hid ((HE.out (by rw [HZ.out];omega)).trans (by rw [HZ.out]))
      go_wp2_with fail
      go_ret2
      rw [X.out]
      exact ⟨rfl,HB.out⟩
    · have HX:Hid (z=-1):=Lib.hid (by omega)
      go_wp2_with fail
      go_round
      case rel=>exact ⟨1,by omega,rfl,fun _=>HX.out,fun x=>absurd x (by omega)⟩
      case measure=>simp [intOf]
  · go_wp2_with fail
    refine (idxT_any H1.out eT (by omega)).mono ?_
    rintro e w' ⟨rfl,rfl⟩
    rw [HY.out]
    by_cases hz:0≤y
    · have X:Hid (pfS L u=(y,true)):=Lib.hid ((HF.out (by rw [HZ.out];exact HH.out.1 (by omega)) (by rw [HY.out];omega)).trans (by rw [HY.out]))
      go_wp2_with fail
      go_ret2
      rw [X.out]
      exact ⟨rfl,HB.out⟩
    · have HX:Hid (y=-1):=Lib.hid (by omega)
      go_wp2_with fail
      go_round
      case rel=>exact ⟨2,by omega,rfl,fun _=>HH.out.1 (by omega),fun _=>HX.out⟩
      case measure=>simp [intOf]
  · have X:Hid (pfS L u=if n<16 then ((n:Int),true) else (0,false)):=Lib.hid (by
     rw [HG.out (by rw [HZ.out];exact HH.out.1 (by omega)) (by rw [HY.out];exact HH.out.2 (by omega)),HL.out])
    by_cases hl:n<16
    · have hl':(n:Int)<16:=by omega
      have X1:Hid (pfS L u=((n:Int),true)):=Lib.hid (X.out.trans (if_pos hl))
      go_wp2_with fail
      go_ret2
      rw [X1.out]
      exact ⟨rfl,HB.out⟩
    · have hl':¬ (n:Int)<16:=by omega
      have X1:Hid (pfS L u=(0,false)):=Lib.hid (X.out.trans (if_neg hl))
      go_wp2_with fail
      go_ret2
      rw [X1.out]
      exact ⟨rfl,HB.out⟩
def InPost (X:List ByteArray × Int × Int) (w:World) (e:Ending) (w':World):Prop:=∃ v,e=.returned (.tuple #[v,.int .u16 X.2.1,.int .i64 X.2.2])∧TxPost X.1 w v w'
theorem InPost.no (w:World) (k:Int) {w':World} (hb:Below w.heap.size w w'):InPost ([],0,k) w (.returned (.tuple #[.slice none 0 0,.int .u16 0,.int .i64 k])) w':=⟨_,rfl,hb,none,0,rfl,(Tx.nil _ _)⟩
set_option maxHeartbeats 1600000 in
set_option maxRecDepth 100000 in
theorem intern_any {w:World} {A:Option Addr} {n c:Nat} {L:List ByteArray} (h:Vs stV w A n L) (u:ByteArray) (hn:n≤60000) (hc:n≤c) (hu:u.size≤140737488351232) :
  Calls Tryz.prog 189 #[.slice A n c,.string u] w (InPost (internS L u) w):=by
 obtain rfl:=h.len
 obtain ⟨B,hB⟩:∃ B,mayT u=B:=⟨_,rfl⟩
 cases B
 · have X:InPost (internS L u) w (.returned (.tuple #[.slice none 0 0,.int .u16 0,.int .i64 3])) w:=by
    have e:internS L u=([],0,3):=by unfold internS;rw [if_pos hB]
    rw [e]
    exact InPost.no w 3 (Below.refl _ _)
   have HB:=Lib.hid hB
   clear h hB
   go_enter Tryz.func189,Tryz.ntmps189
   go_wp2_with fail
   refine (mayT_any u w hu).mono ?_
   rintro e w' ⟨rfl,rfl⟩
   rw [HB.out]
   go_wp2_with fail
   go_ret3
   exact X
 · have HC:=Lib.hid (intern_cases (t:=L) hB)
   have HB:=Lib.hid hB
   have H:=Lib.hid h
   clear hB h
   go_enter Tryz.func189,Tryz.ntmps189
   go_wp2_with fail
   refine (mayT_any u w hu).mono ?_
   rintro e w' ⟨rfl,rfl⟩
   rw [HB.out]
   go_wp2_with fail
   refine (placeFor_any H.out u hn hc).mono ?_
   rintro e w1 ⟨rfl,hb1⟩
   have HB1:=Lib.hid hb1
   clear hb1
   rcases HC.out with ⟨k,hk,e1,e2⟩ | ⟨e1,hl,e2⟩ | ⟨e1,e2⟩
   · rw [e1]
     have E2:=Lib.hid e2
     clear e1 e2 HC
     have hne:((k:Int) == (L.length:Int))=false:=by rw [beq_eq_false_iff_ne];omega
     go_wp2_with fail
     refine (cloneT_any (H.out.below HB1.out) (by omega)).mono ?_
     rintro e w2 ⟨v,rfl,hb2,A1,c1,rfl,hT⟩
     obtain ⟨g,rfl,hg,hgl,hfr⟩:=hT.blk (by omega)
     have hc2:w2.cell? ⟨g,k,none⟩=some (.string (sAt L k)):=by have:=hT.vs.str hk;rwa [addHead] at this
     have hf2:=hfr k
     have X:InPost (internS L u) w (.returned (.tuple #[.slice (some ⟨g,0,none⟩) L.length c1,.int .u16 ((k:Int)+1),.int .i64 0])) (w2.setCell ⟨g,k,none⟩ (.string u)):=by
      obtain ⟨hs1,hs2⟩:=hT.stored k u
      have hsz:=HB1.out.size
      rw [E2.out]
      exact ⟨_,rfl,(hs1.lower hsz).post ((HB1.out.trans (hb2.mono hsz)).setCell (by simp;omega) _)⟩
     clear hT hfr hb2
     generalize sAt L k=x at hc2
     go_wp2_with fail
     go_ret3
     exact X
   · rw [e1]
     have E2:=Lib.hid e2
     clear e1 e2 HC
     go_wp2_with fail
     refine (cloneT_any (H.out.below HB1.out) (by omega)).mono ?_
     rintro e w2 ⟨v,rfl,hb2,A1,c1,rfl,hT⟩
     have HT:=Lib.hid (And.intro hT hb2)
     clear hT hb2
     obtain ⟨m,hm⟩:∃ m,L.length+1=m:=⟨_,rfl⟩
     have hlm:L.length<m:=by omega
     have hmn:m≤60001:=by omega
     have HM:=Lib.hid hm
     clear hm
     go_wp2_with (at_builtin;refine wpList_appT _ rfl _ _ rfl w1.heap.size A1 L.length c1 L rfl (HT.out.1.below ((Below.refl _ _).alloc (Nat.le_refl _) _)) (some ⟨w2.heap.size,0,none⟩) 1 1 m HM.out [u] rfl (litT w2 u) (by omega) (by have:=HT.out.2.size;simp;omega) ?_;intro A' c' w3 hown hg3)
     obtain ⟨g,rfl,hg,hgl,hfr⟩:=hown.blk (by omega)
     have hc2:w3.cell? ⟨g,L.length,none⟩=some (.string u):=by
      have:=hown.vs.str (k:=L.length) hlm
      rwa [addHead,sAt_append_last] at this
     have hf2:=hfr L.length
     have X:InPost (internS L u) w (.returned (.tuple #[.slice (some ⟨g,0,none⟩) m c',.int .u16 ((L.length:Int)+1),.int .i64 0])) (w3.setCell ⟨g,L.length,none⟩ (.string u)):=by
      obtain ⟨hs1,hs2⟩:=hown.stored L.length u
      have hsz:=HB1.out.size
      have hsz2:=HT.out.2.size
      have e:(L ++ [u]).set L.length u=L ++ [u]:=by simp
      rw [e] at hs1
      rw [E2.out]
      refine ⟨_,rfl,(hs1.lower hsz).post (Below.setCell ?_ (by simp;omega) _)⟩
      exact ((HB1.out.trans (HT.out.2.mono hsz)).alloc (by omega) _).grown hg3 (by simp;omega) fun k hk=>Nat.le_trans hsz (HT.out.1.ownB k hk)
     clear hown hfr hg3
     go_wp2_with fail
     go_simp
     go_wp2_with fail
     go_ret3
     exact X
   · rw [e1]
     have X:InPost (internS L u) w (.returned (.tuple #[.slice none 0 0,.int .u16 0,.int .i64 11])) w1:=by
      rw [e2]
      exact InPost.no w 11 HB1.out
     clear e1 e2 HC
     go_wp2_with fail
     go_ret3
     exact X
open Go.RowKit
theorem infoU16:(Tryz.prog.info? 29).map (fun i=>(i.zero,i.size,i.bytes))=some (some (.int .u16 0),1,2):=by kernel_rfl
def usedN (t:Tm) (k:Nat):List Int:=t.sav.pen.lk :: ((if 1≤k then t.main.flatten.map (·.p.lk) else []) ++ (if 2≤k then t.other.flatten.map (·.p.lk) else []))
def usedS (t:Tm):List Int:=t.sav.pen.lk :: (t.main.flatten.map (·.p.lk) ++ t.other.flatten.map (·.p.lk))
theorem usedN_end (t:Tm):usedN t 2=usedS t:=rfl
theorem usedN_next (t:Tm) {k:Nat} (hk:k<2):usedN t (k+1)=usedN t k ++ (if k=0 then t.main.flatten else t.other.flatten).map (·.p.lk):=by
 obtain rfl | rfl:k=0∨k=1:=by omega
 · simp [usedN]
 · simp [usedN]
theorem usedN_len (t:Tm) (k:Nat):(usedN t k).length≤1+t.main.flatten.length+t.other.flatten.length:=by
 unfold usedN
 have h:∀ (c:Prop) [Decidable c] (L:List Ce),(if c then L.map (·.p.lk) else []).length≤L.length:=fun c _ L=>by split<;>simp
 have h1:=h (1≤k) t.main.flatten
 have h2:=h (2≤k) t.other.flatten
 rw [List.length_cons,List.length_append]
 omega
theorem take_lk {L:List Ce} {j:Nat} (h:j<L.length):(L.map (·.p.lk)).take (j+1)=(L.map (·.p.lk)).take j ++ [(cAt L j).p.lk]:=by
 rw [List.take_add_one,List.getElem?_map,getElem?_cAt h]
 rfl
section
variable {B:Nat} {w:World} {g:Nat} {x:CT}
structure Usd (w:World) (b2:Nat) (x:CT) (v:Value) (us:List Int) (wr:World):Prop where
 own:wr.ownsRow w.heap.size 29 1 v us.length (us.map (Value.int .u16))
 b:wr.heap[b2]?=some (.cells #[.slice (some ⟨x.mb,0,none⟩) x.mN x.mK,.slice (some ⟨x.ob,0,none⟩) x.oN x.oK] 24 (0,0))
 bel:Below w.heap.size w wr
theorem Usd.lt {b2:Nat} {v:Value} {us:List Int} {wr:World} (h:Usd w b2 x v us wr):b2<wr.heap.size:=(Array.getElem?_eq_some_iff.1 h.b).1
theorem Usd.below {b2:Nat} {v:Value} {us:List Int} {wr w':World} (h:Usd w b2 x v us wr) (hb:Below wr.heap.size wr w'):Usd w b2 x v us w':=⟨ownI_below h.own hb,(hb.block _ h.lt).trans h.b,h.bel.trans (hb.mono h.bel.size)⟩
theorem Usd.app {b2:Nat} {v v':Value} {us vs:List Int} {wr w':World} (h:Usd w b2 x v us wr) (ho:w'.ownsRow w.heap.size 29 1 v' vs.length (vs.map (Value.int .u16))) (hg:wr.grownBy w' v.ownBlock):Usd w b2 x v' vs w':=by
 have hne:v.ownBlock≠some b2:=row_off h.own ⟨_,_,h.b⟩ (by decide)
 exact ⟨ho,(hg.block b2 h.lt (fun e=>hne e.symm)).trans h.b,h.bel.grown hg h.bel.size (fun q hq=>(h.own.lt q hq).1)⟩
set_option maxRecDepth 100000 in
set_option maxHeartbeats 3200000 in
theorem used_any (h:Cz B w g x):Calls Tryz.prog 191 #[.pointer (some ⟨g,0,none⟩)] w fun e w'=>∃ A c,e=.returned (.slice A (usedS x.t).length c)∧Ik .u16 w' A (usedS x.t).length (usedS x.t)∧(usedS x.t).length≤4000∧Below w.heap.size w w':=by
 have HZ:=Lib.hid h
 have hlm:x.t.main.flatten.length=x.mN∧x.mN≤1920∧x.t.other.flatten.length=x.oN∧x.oN≤1920:=by
  have h1:=h.ok.gm.box.flen
  have h2:=h.ok.go.box.flen
  have h3:=h.ok.gm.small
  have h4:=h.ok.go.small
  have h5:=h.mn
  have h6:=h.on
  omega
 have HLM:=Lib.hid hlm
 have c13:w.cell? ⟨g,13,none⟩=some (.int .u16 x.t.sav.pen.lk):=h.cell rfl
 clear h hlm
 obtain ⟨w1,hw1⟩:∃ w1,w1=w.alloc (.cells #[.int .u16 x.t.sav.pen.lk] 29):=⟨_,rfl⟩
 obtain ⟨b1,hb1⟩:∃ b1,b1=w.heap.size:=⟨_,rfl⟩
 have H1:=Lib.hid (show Below w.heap.size w w1∧w1.ownsRow w.heap.size 29 1 (.slice (some ⟨b1,0,none⟩) 1 1) 1 [.int .u16 x.t.sav.pen.lk] from by
  rw [hw1,hb1]
  exact ⟨(Below.refl _ _).alloc (Nat.le_refl _) _,World.ownsRow_lit w #[.int .u16 x.t.sav.pen.lk] 1 (Nat.le_refl _) (by unfold maxLen;omega) rfl⟩)
 go_enter Tryz.func191,Tryz.ntmps191
 go_upto_region 2 with fail
 rw [← hw1,← hb1]
 clear hw1 hb1 c13
 have c17:w1.cell? ⟨g,17,none⟩=some (.slice (some ⟨x.mb,0,none⟩) x.mN x.mK):=(HZ.out.below H1.out.1).cell rfl
 have c20:w1.cell? ⟨g,20,none⟩=some (.slice (some ⟨x.ob,0,none⟩) x.oN x.oK):=(HZ.out.below H1.out.1).cell rfl
 go_region
 obtain ⟨b2,hb2⟩:∃ b2,b2=w1.heap.size:=⟨_,rfl⟩
 obtain ⟨w2,hw2⟩:∃ w2,w2=(w1.alloc (.cells #[.slice (some ⟨x.mb,0,none⟩) x.mN x.mK,.slice (some ⟨x.ob,0,none⟩) x.oN x.oK] 24)).drew:=⟨_,rfl⟩
 have U0:=Lib.hid (show Usd w b2 x (.slice (some ⟨b1,0,none⟩) 1 1) (usedN x.t 0) w2 from by
  have h1:Below w1.heap.size w1 w2:=by rw [hw2];exact ((Below.refl _ _).alloc (Nat.le_refl _) _).drew
  refine ⟨ownI_below H1.out.2 h1,?_,H1.out.1.trans (h1.mono H1.out.1.size)⟩
  rw [hw2,hb2]
  exact heap_alloc_new w1 _)
 rw [← hw2,← hb2]
 clear hw2 hb2 c17 c20
 go_wp2_with fail
 go_loopw [3,30] (fun v i wr=>∃ (k:Nat),k≤2∧i=.int .i64 k∧Usd w b2 x v (usedN x.t k) wr) (fun _ i _=>2-(intOf i).toNat)
 case atStart=>exact ⟨0,Nat.zero_le _,rfl,U0.out⟩
 case round =>
  obtain ⟨k,hk,rfl,hU⟩:=hrel
  have U:=Lib.hid hU
  clear hU U0
  by_cases hlt:k<2
  · obtain ⟨q,n,c,L,hs,hv,hn,hnx⟩:∃ (q:Addr) (n c:Nat) (L:List Ce),wr.cell? ⟨b2,k,none⟩=some (.slice (some q) n c)∧(∀ w',Below w.heap.size w w'→Vs ceV w' (some q) n L)∧n≤1920∧usedN x.t (k+1)=usedN x.t k ++ L.map (·.p.lk):=by
     have hc:=usedN_next x.t hlt
     obtain ⟨e1,e2,e3,e4⟩:=HLM.out
     have hb:=U.out.b
     obtain rfl | rfl:k=0∨k=1:=by omega
     · refine ⟨⟨x.mb,0,none⟩,x.mN,x.mK,x.t.main.flatten,?_,fun w' hb'=>?_,e2,hc⟩
       · rw [cell_of_row _ _ 0 _ _ _ hb];rfl
       · have:=(HZ.out.below hb').m.vs;rwa [e1] at this
     · refine ⟨⟨x.ob,0,none⟩,x.oN,x.oK,x.t.other.flatten,?_,fun w' hb'=>?_,e4,hc⟩
       · rw [cell_of_row _ _ 1 _ _ _ hb];rfl
       · have:=(HZ.out.below hb').o.vs;rwa [e3] at this
    have hks:(k:Int)<2:=by omega
    have hk0:(0:Int)≤(k:Int):=by omega
    have HV:=Lib.hid (And.intro hv hnx)
    clear hv hnx
    go_wp2_with fail
    go_loopw [3,36] (fun v i w4=>∃ (j:Nat),j≤n∧i=.int .i64 j∧Usd w b2 x v (usedN x.t k ++ (L.map (·.p.lk)).take j) w4) (fun _ i _=>n-(intOf i).toNat)
    case atStart=>exact ⟨0,Nat.zero_le _,rfl,by rw [List.take_zero,List.append_nil];exact U.out⟩
    case round =>
     obtain ⟨j,hj,rfl,hU⟩:=hrel
     have X:=Lib.hid hU
     clear hU
     by_cases hjn:j<n
     · have hL:j<L.length:=by rw [(HV.out.1 w (Below.refl _ _)).len];exact hjn
       obtain ⟨hc0,hc1,hc2,hc3,hc4,hc5⟩:=(HV.out.1 wr X.out.bel).six hjn
       have HT:=Lib.hid (take_lk hL)
       have HB:=Lib.hid (show (usedN x.t k ++ (L.map (·.p.lk)).take j).length+1≤1000000 from by
        have h1:=usedN_len x.t k
        have h2:=HLM.out
        rw [List.length_append,List.length_take]
        omega)
       have hji:(j:Int)<(n:Int):=by omega
       generalize cAt L j=ce at hc0 hc1 hc2 hc3 hc4 hc5 HT
       obtain ⟨us,hus⟩:∃ us,usedN x.t k ++ (L.map (·.p.lk)).take j=us:=⟨_,rfl⟩
       rw [hus] at X HB
       have HUS:=Lib.hid hus
       clear hL hus
       go_wp2_with (refine wpList_appI _ rfl (.tmp 40) (.tmp 44) 184 rfl w.heap.size 29 .u16 2 (by omega) Tryz.underlying184 infoU16 u3 us.length _ rfl ((X.out.below (((Below.refl _ _).alloc (Nat.le_refl _) _).alloc (by simp [World.size_alloc]) _)).own) (some ⟨wr.heap.size+1,0,none⟩) 1 1 (us.length+1) rfl [ce.p.lk] rfl (by have:=Ik.one .u16 (wr.alloc (.cells #[.int .i32 ce.r,.int .u8 ce.wd,.int .u32 ce.p.fg,.int .u32 ce.p.bg,.int .u8 ce.p.st,.int .u16 ce.p.lk] 66)) 29 ce.p.lk;simpa [World.size_alloc] using this) HB.out (by have:=X.out.bel.size;simp [World.size_alloc];omega) ?_)
       intro A' c' w4 hown4 hg4
       have Z:=Lib.hid (show Usd w b2 x (.slice A' (us.length+1) c') (usedN x.t k ++ (L.map (·.p.lk)).take (j+1)) w4 from by
        rw [HT.out,← List.append_assoc,HUS.out]
        exact (X.out.below (((Below.refl _ _).alloc (Nat.le_refl _) _).alloc (by simp [World.size_alloc]) _)).app (by simpa using hown4) hg4)
       clear hown4 hg4 hc0 hc1 hc2 hc3 hc4 hc5 X
       go_wp2_with fail
       go_roundw
       case rel=>exact ⟨j+1,by omega,by go_num,Z.out⟩
       case measure=>simp [intOf];omega
     · obtain rfl:j=n:=by omega
       have hfull:(L.map (·.p.lk)).take j=L.map (·.p.lk):=List.take_of_length_le (by rw [List.length_map,(HV.out.1 w (Below.refl _ _)).len];exact Nat.le_refl _)
       have X2:=Lib.hid (show Usd w b2 x u3 (usedN x.t (k+1)) wr from by rw [HV.out.2,← hfull];exact X.out)
       clear hfull X U
       go_wp2_with fail
       go_roundw
       case rel=>exact ⟨k+1,by omega,by go_num,X2.out⟩
       case measure=>simp [intOf];omega
  · obtain rfl:k=2:=by omega
    obtain ⟨A1,c1,rfl,_,_⟩:=own_shape U.out.own
    have hown:=Ik.own U.out.own
    have Y:=Lib.hid (And.intro hown U.out.bel)
    clear hown
    have HLL:=Lib.hid (show (usedS x.t).length≤4000 from by
     have h1:=usedN_len x.t 2
     have h2:=HLM.out
     rw [← usedN_end]
     omega)
    go_wp2_with fail
    go_ret
    exact ⟨A1,c1,rfl,Y.out.1,HLL.out,Y.out.2⟩
theorem LkP.rng {tb:List ByteArray} {n:Int} (h:LkP tb n) (ht:tb.length≤16):0≤n∧n≤65535:=by
 rcases h with rfl | h
 · omega
 · obtain ⟨k,rfl,hk,_⟩:=leads_inv h
   omega
theorem LkOk.used (h:LkOk x.t) (ht:x.t.table.length≤16):∀ z∈usedS x.t,0≤z∧z≤65535:=by
 intro z hz
 unfold usedS at hz
 rcases List.mem_cons.1 hz with rfl | hz
 · exact h.sav.rng ht
 · rcases List.mem_append.1 hz with hz | hz
   · obtain ⟨c,hc,rfl⟩:=List.mem_map.1 hz
     exact (prws_flat h.main c hc).rng ht
   · obtain ⟨c,hc,rfl⟩:=List.mem_map.1 hz
     exact (prws_flat h.other c hc).rng ht
def Tm.unl (t:Tm):Tm:={ t with now:={ t.now with pen:={ t.now.pen with lk:=0 } } }
def Tm.inS (t:Tm) (s:ByteArray):List ByteArray × Int × Int:=if (internS t.table s).2.2=11 then internS (sweepS t.table (usedS t)) s else internS t.table s
theorem intern_eT (l:List ByteArray):internS l eT=([],0,3):=by unfold internS;rw [if_pos (by decide +kernel)]
theorem lead_is (t:Tm) (s:ByteArray):t.lead s=if (t.inS s).2.2=0 then { t.unl with table:=(t.inS s).1,now:={ t.unl.now with pen:={ t.unl.now.pen with lk:=(t.inS s).2.1 } } } else t.unl:=by
 unfold Tm.lead
 dsimp only
 by_cases h:s=eT
 · subst h
   rw [if_pos rfl]
   have e:t.inS eT=([],0,3):=by unfold Tm.inS;rw [intern_eT];rfl
   rw [e]
   rfl
 · rw [if_neg h]
   rfl
theorem sweep_sizes {l:List ByteArray} {us:List Int} (h:∀ s∈l,s.size≤100000):∀ s∈sweepS l us,s.size≤100000:=by
 intro s hs
 have h1:=List.mem_of_mem_take hs
 unfold sweepM at h1
 obtain ⟨i,hi,rfl⟩:=List.mem_map.1 h1
 split
 · rw [sAt_lt (List.mem_range.1 hi)];exact h _ (List.getElem_mem _)
 · decide
theorem intern_sizes {l:List ByteArray} {u:ByteArray} (h:∀ s∈l,s.size≤100000) (hu:u.size≤100000):∀ s∈(internS l u).1,s.size≤100000:=by
 intro s hs
 unfold internS at hs
 split at hs
 · cases hs
 · split at hs
   · exact h s hs
   · split at hs
     · rcases List.mem_or_eq_of_mem_set hs with h1 | h1
       · exact h s h1
       · rw [h1];exact hu
     · split at hs
       · rcases List.mem_append.1 hs with h1 | h1
         · exact h s h1
         · rw [List.mem_singleton.1 h1];exact hu
       · cases hs
theorem Cz.tabled (h:Cz B w g x) {w1 w':World} (hb:Below w.heap.size w w1) {A:Option Addr} {n c:Nat} {L':List ByteArray} {k:Int} (hT:Tx w.heap.size w1 A n c L') (hl:L'.length≤16) (hs:∀ s∈L',s.size≤100000)
  (hr:RwG w1 g (((ctV x).set 110 (.slice A n c)).set 6 (.int .u16 k)) w') :
  CzTo B g x { x.t with table:=L',now:={ x.t.now with pen:={ x.t.now.pen with lk:=k } } } w w' { x with t:={ x.t with table:=L',now:={ x.t.now with pen:={ x.t.now.pen with lk:=k } } },bA:=A,bN:=n,bK:=c }:=by
 have hB:=h.bB
 have hz:=h.below hb
 have hsz:=hr.gr.size
 have hsz1:=hb.size
 have hk:∀ q,q<w1.heap.size→q≠g→w'.heap[q]?=w1.heap[q]?:=fun q hq hne=>hr.gr.block q hq (fun e=>hne (by injection e))
 have hlt:=h.lt
 have hbig:∀ q,(Value.slice A n c).ownBlock=some q→w.heap.size≤q∧q<w1.heap.size:=fun q hq=>hT.own.lt q hq
 have e1:(ctV x).set (109+1) (.slice A n c)=ctV { x with bA:=A,bN:=n,bK:=c }:=ctV_setTl h.ok.tabs 1 _ rfl rfl rfl
 refine ⟨rfl,⟨?_,h.gB,{ h.ok with tbl:=hl,pen:=⟨h.ok.pen.fg,h.ok.pen.bg,h.ok.pen.f0,h.ok.pen.b0,h.ok.pen.st⟩ },hz.m.kept (hk _ hz.m.lt hz.gm.symm),h.mB,h.mn,h.mkk,hz.o.kept (hk _ hz.o.lt hz.go.symm),h.oB,h.on,h.okk,h.ne,hz.p.kept hsz fun q hq=>hk q (hz.p.hi q hq) (fun e=>hz.gp (e ▸ hq)),?_,h.tl,hs⟩,⟨?_,fun q hq hS=>?_⟩,fun q hq=>?_⟩
 · rw [hr.blk,show (ctV x).set 110 (.slice A n c)=ctV { x with bA:=A,bN:=n,bK:=c } from e1]
   rfl
 · exact (hT.lower hB).same fun q hq=>hk q (hbig q hq).2 (fun e=>by have:=(hbig q hq).1;omega)
 · exact ⟨hr.gr.os.trans hb.os,hr.gr.tape.trans hb.tape,hr.gr.output.trans hb.output,Nat.le_trans hsz1 hsz,fun q hq=>by rw [hk q (by omega) (fun e=>by have:=h.gB;omega)];exact hb.block q (by omega)⟩
 · rw [hk q (by omega) (fun e=>hS (.inl e))]
   exact hb.block q hq
 · rcases hq with hq | hq | hq | hq | hq
   · exact .inl (.inl hq)
   · exact .inl (.inr (.inl hq))
   · exact .inl (.inr (.inr (.inl hq)))
   · exact .inl (.inr (.inr (.inr (.inl hq))))
   · exact .inr (hbig q hq).1
set_option maxRecDepth 100000 in
set_option maxHeartbeats 3200000 in
theorem lead_any (h:Cz B w g x) (hl:LkOk x.t) (u:ByteArray) (hu:u.size≤100000):Calls Tryz.prog 119 #[.pointer (some ⟨g,0,none⟩),.string u] w (CzP B g x (x.t.lead u) w):=by
 have HLD:=Lib.hid (lead_is x.t u)
 generalize x.t.lead u=T' at HLD ⊢
 have HUS:=Lib.hid (hl.used h.ok.tbl)
 have HU0:=Lib.hid hu
 obtain ⟨w1,hw1⟩:∃ w1,w1=w.setCell ⟨g,6,none⟩ (.int .u16 0):=⟨_,rfl⟩
 obtain ⟨y,hy⟩:∃ y:CT,y={ x with t:=x.t.unl }:=⟨_,rfl⟩
 have K1:=Lib.hid (show CzTo B g x x.t.unl w w1 y from by
  rw [hw1,hy]
  exact (h.raw.set 6 (.int .u16 0)).fin h (y:={ x with t:=x.t.unl }) rfl ⟨rfl,rfl,rfl,rfl,rfl,rfl,rfl,rfl,rfl,rfl,rfl,rfl,rfl,rfl,rfl,rfl,rfl,h.tl⟩ { h.ok with pen:=⟨h.ok.pen.fg,h.ok.pen.bg,h.ok.pen.f0,h.ok.pen.b0,h.ok.pen.st⟩ })
 have HY:=Lib.hid (show y.t=x.t.unl∧y.t.table=x.t.table∧usedS y.t=usedS x.t∧y.bA=x.bA∧y.bN=x.bN∧y.bK=x.bK from by rw [hy];exact ⟨rfl,rfl,rfl,rfl,rfl,rfl⟩)
 have c6:w.cell? ⟨g,6,none⟩=some (.int .u16 x.t.now.pen.lk):=h.cell rfl
 have f6:=h.fr 6
 have HIN:=Lib.hid (show ∀ w',Below w1.heap.size w1 w'→Calls Tryz.prog 189 #[.slice y.bA y.bN y.bK,.string u] w' (InPost (internS x.t.table u) w') from fun w' hb=>by
  have h4:=(K1.out.cz.below hb).b
  have h5:=(K1.out.cz.below hb).ok.tbl
  have h6:=h4.len
  have h7:=intern_any h4.vs u (by omega) h4.le (by have:=HU0.out;omega)
  rw [HY.out.2.1] at h7
  exact h7)
 have HUD:=Lib.hid (show ∀ w',Below w1.heap.size w1 w'→Calls Tryz.prog 191 #[.pointer (some ⟨g,0,none⟩)] w' fun e w''=>∃ A c,e=.returned (.slice A (usedS x.t).length c)∧Ik .u16 w'' A (usedS x.t).length (usedS x.t)∧(usedS x.t).length≤4000∧Below w'.heap.size w' w'' from fun w' hb=>by
  have h7:=used_any (K1.out.cz.below hb)
  rw [HY.out.2.2.1] at h7
  exact h7)
 have HSW:=Lib.hid (show ∀ w' A c,Below w1.heap.size w1 w'→Ik .u16 w' A (usedS x.t).length (usedS x.t)→(usedS x.t).length≤4000→Calls Tryz.prog 190 #[.slice y.bA y.bN y.bK,.slice A (usedS x.t).length c] w' (TxEnd (sweepS x.t.table (usedS x.t)) w') from fun w' A c hb hI hle=>by
  have h4:=(K1.out.cz.below hb).b
  have h5:=(K1.out.cz.below hb).ok.tbl
  have h6:=h4.len
  have h7:=sweep_any (c:=y.bK) (c':=c) h4.vs hI HUS.out (by omega) (by omega)
  rw [HY.out.2.1] at h7
  exact h7)
 have HLS:=Lib.hid (show (sweepS x.t.table (usedS x.t)).length≤16 from by have:=sweepS_len x.t.table (usedS x.t);have:=h.ok.tbl;omega)
 have HFIN:=Lib.hid (show (x.t.inS u).1.length≤16∧∀ s∈(x.t.inS u).1,s.size≤100000 from by
  unfold Tm.inS
  split
  · exact ⟨TmOk.intern_len u HLS.out,intern_sizes (sweep_sizes h.bs) hu⟩
  · exact ⟨TmOk.intern_len u h.ok.tbl,intern_sizes h.bs hu⟩)
 clear hl hu hy h
 go_enter Tryz.func119,Tryz.ntmps119
 go_upto_region 1 with fail
 rw [← hw1]
 clear hw1 c6 f6
 have c110:w1.cell? ⟨g,110,none⟩=some (.slice y.bA y.bN y.bK):=K1.out.cz.table.1
 go_wp2_with fail
 refine (HIN.out w1 (Below.refl _ _)).mono ?_
 rintro e w2 ⟨v,rfl,hb2,A2,c2,rfl,hT2⟩
 have X2:=Lib.hid (And.intro hb2 hT2)
 clear hb2 hT2 c110
 obtain ⟨E,hE⟩:∃ E,(internS x.t.table u).2.2=E:=⟨_,rfl⟩
 rw [hE]
 have HE:=Lib.hid hE
 clear hE
 go_upto_if 25 with fail
 go_cut [4,5,6] from 26 to 39 (fun v4 v5 v6 wc=>∃ A c,v4=.slice A (x.t.inS u).1.length c∧v5=.int .u16 (x.t.inS u).2.1∧v6=.int .i64 (x.t.inS u).2.2∧Tx w1.heap.size wc A (x.t.inS u).1.length c (x.t.inS u).1∧Below w1.heap.size w1 wc)
 case first =>
  by_cases h11:E=11
  · have EQ:=Lib.hid (show x.t.inS u=internS (sweepS x.t.table (usedS x.t)) u from by unfold Tm.inS;rw [HE.out,if_pos h11])
    subst h11
    have c110:w2.cell? ⟨g,110,none⟩=some (.slice y.bA y.bN y.bK):=(K1.out.cz.below X2.out.1).table.1
    have SX:=Lib.hid (show ∀ w',Below w1.heap.size w1 w'→(Below w1.heap.size w1 w'∧w'.cell? ⟨g,110,none⟩=some (.slice y.bA y.bN y.bK)) from fun w' hb=>⟨hb,(K1.out.cz.below hb).table.1⟩)
    have hb0:Below w1.heap.size w1 w2.drew:=X2.out.1.drew
    have hbz:Below w1.heap.size w1 w2:=X2.out.1
    go_wp2_with fail
    go_region_held3 (fun w'=>Below w1.heap.size w1 w'∧w'.cell? ⟨g,110,none⟩=some (.slice y.bA y.bN y.bK))
     ((refine SX.out _ ?_;assumption))
     ((first
      | (go_at_call 191;refine (HUD.out _ (by assumption)).mono ?_;rintro e w4 ⟨A4,c4,rfl,hI4,hl4,hb4⟩;have hbU:=Below.trans (B:=w1.heap.size) (by assumption) (hb4.mono (below_szp (a:=w1) (B:=w1.heap.size) (by assumption)));clear hb4)
      | (go_at_call 190;refine (HSW.out _ _ _ (by assumption) hI4 hl4).mono ?_;rintro e w5 ⟨v,rfl,hb5,A5,c5,rfl,hT5⟩;have hbS:=Below.trans (B:=w1.heap.size) (by assumption) (hb5.mono (below_szp (a:=w1) (B:=w1.heap.size) (by assumption)));clear hb5)
      | (go_at_call 189;refine (intern_any hT5.vs u (by have:=HLS.out;omega) hT5.le (by have:=HU0.out;omega)).mono ?_;rintro e w6 ⟨v,rfl,hb6,A6,c6,rfl,hT6⟩;have hbI:=Below.trans (B:=w1.heap.size) (by assumption) (hb6.mono (below_szp (a:=w1) (B:=w1.heap.size) (by assumption)));have hT7:=hT6.lower (B:=w1.heap.size) (below_szp (a:=w1) (B:=w1.heap.size) (by assumption));clear hb6 hT6)))
    have X6:=Lib.hid (And.intro hT7 hbI)
    clear hT7 hbI hT5 hI4 hl4 hbU hbS
    go_wp2_with fail
    go_meet
    case rel=>exact ⟨A6,c6,by rw [EQ.out],by rw [EQ.out],by rw [EQ.out],by rw [EQ.out];exact X6.out.1,X6.out.2⟩
  · have EQ:=Lib.hid (show x.t.inS u=internS x.t.table u from by unfold Tm.inS;rw [HE.out,if_neg h11])
    have b0:(E == 11)=false:=beq_eq_false_iff_ne.2 h11
    go_wp2_with fail
    go_meet
    case rel=>exact ⟨A2,c2,by rw [EQ.out],by rw [EQ.out],by rw [EQ.out,HE.out],by rw [EQ.out];exact X2.out.2,X2.out.1⟩
 case rest =>
  obtain ⟨A,c,rfl,rfl,rfl,hT,hb⟩:=hcut
  have X3:=Lib.hid (And.intro hT hb)
  clear hT hb
  generalize x.t.inS u=V at X3 HFIN HLD ⊢
  obtain ⟨L',k,E'⟩:=V
  dsimp only at X3 HFIN HLD ⊢
  by_cases h0:E'=0
  · subst h0
    rw [if_pos rfl] at HLD
    have Z:=K1.out.cz.below X3.out.2
    have c6:wc.cell? ⟨g,6,none⟩=some (.int .u16 y.t.now.pen.lk):=Z.cell rfl
    have f6:=Z.fr 6
    have c110:=Z.table.1
    have f110:=Z.fr 110
    have FIN:=Lib.hid (K1.out.trans (K1.out.cz.tabled (k:=k) X3.out.2 X3.out.1 HFIN.out.1 HFIN.out.2 ((Z.raw.set 110 (.slice A L'.length c)).set 6 (.int .u16 k))))
    clear Z
    go_wp2_with fail
    go_end0
    exact ⟨rfl,_,FIN.out.as (by rw [HLD.out,HY.out.1])⟩
  · rw [if_neg h0] at HLD
    have b0:(E' == 0)=false:=beq_eq_false_iff_ne.2 h0
    go_wp2_with fail
    go_end0
    exact ⟨rfl,y,(K1.out.below X3.out.2).as HLD.out.symm⟩
end
end Go.Proofs.YtlcipgdnpilkfaaGreatDoor
