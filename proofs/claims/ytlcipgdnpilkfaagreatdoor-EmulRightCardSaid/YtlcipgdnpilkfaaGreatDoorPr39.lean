/-
  Part 39 of what the laws of emul want: EmulAgain, LinksPut.
-/
import Derived.WalkKit
import Derived.Test.YtlcipgdnpilkfaaGreatDoorPr28
import Derived.Test.YtlcipgdnpilkfaaGreatDoorPr30
import Derived.Test.YtlcipgdnpilkfaaGreatDoorPr33
namespace Go.Proofs.YtlcipgdnpilkfaaGreatDoor
open Go.RowKit
section
variable {B:Nat} {w:World} {g:Nat} {x:CT} {A:Option Addr} {n c:Nat} {ps:List Int}
theorem Cz.lastC (h:Cz B w g x):w.cell? ⟨g,111,none⟩=some (.int .i32 x.t.last):=by
 have hl:(ctH x).length=29:=rfl
 have hm:(x.t.tabs.map Value.bool).length=80:=by rw [List.length_map];exact h.ok.tabs
 refine h.cell ?_
 rw [ctV_is,List.getElem?_append_right (by rw [hl];omega),List.getElem?_append_right (by rw [hl,hm];omega),hl,hm]
 rfl
set_option maxRecDepth 100000 in
set_option maxHeartbeats 1600000 in
theorem again_of (hT:Tabs w) (h:Cz B w g x) (hN:Nm w (CB g x) A n c ps) (hP:∀ (w':World) (y:CT),Tabs w'→Cz B w' g y→Calls Tryz.prog 50 #[.pointer (some ⟨g,0,none⟩),.int .i32 y.t.last] w' (CzP B g y (y.t.print y.t.last) w')):Calls Tryz.prog 181 #[.pointer (some ⟨g,0,none⟩),.slice A n c] w (CzP B g x (Dd.again.run ps x.t) w):=by
 have HT:=Lib.hid hT
 have HZ:=Lib.hid h
 have HPR:=Lib.hid hP
 have n1:=hN.one 0
 have HM:=Lib.hid hN
 have HC:=Lib.hid (show ∀ w',Below w.heap.size w w'→Calls Tryz.prog 159 #[.slice A n c,.int .i64 0] w' fun e w''=>e=.returned (.int .i64 (numP ps 0 1))∧w''=w' from fun w' hb=>count_any (HM.out.below hb) 0 (by omega))
 show Calls _ _ _ _ (CzP B g x (iterS (fun t=>t.print t.last) (min (numP ps 0 1).toNat (x.t.r*x.t.c)) x.t) w)
 generalize numP ps 0 1=N at HC n1 ⊢
 obtain ⟨k0,hk0⟩:∃ k0:Nat,min N.toNat (x.t.r*x.t.c)=k0:=⟨_,rfl⟩
 have hmin:min N (x.mN:Int)=(k0:Int):=by rw [h.mn];omega
 have hk1:k0≤1920:=by have:=h.ok.gm.small;have:=h.ok.gm.box.flen;omega
 rw [hk0]
 have c17:w.cell? ⟨g,17,none⟩=some (.slice (some ⟨x.mb,0,none⟩) x.mN x.mK):=h.cell rfl
 clear h hT hN hP hk0
 go_enter Tryz.func181,Tryz.ntmps181
 go_wp2_with fail
 go_quiet ((go_at_call 159;exact Calls.quiet_of_same (HC.out _ (belowN (Below.refl _ _) _))))
 generalize hw2:w.drewN nq=w2
 have H2:=Lib.hid (show Below w.heap.size w w2 from by rw [← hw2];exact belowN (Below.refl _ _) _)
 clear hw2 c17
 have K0:=Lib.hid ((CzTo.refl HZ.out).below H2.out)
 go_wp2_with fail
 go_loopw [14] (fun i wr=>∃ (k:Nat) (y:CT),k≤k0∧i=.int .i64 k∧CzTo B g x (iterS (fun t=>t.print t.last) k x.t) w wr y) (fun i _=>k0-(intOf i).toNat)
 case atStart=>exact ⟨0,x,Nat.zero_le _,rfl,K0.out⟩
 case round =>
  obtain ⟨k,y,hk,rfl,hy⟩:=hrel
  have Y:=Lib.hid hy
  clear hy
  by_cases hlt:k<k0
  · have hk2:(k:Int)<(k0:Int):=by omega
    have c111:wr.cell? ⟨g,111,none⟩=some (.int .i32 y.t.last):=Y.out.cz.lastC
    have HP2:=Lib.hid (HPR.out wr y (HT.out.out HZ.out.tab Y.out.out.bel) Y.out.cz)
    go_wp2_with fail
    refine HP2.out.mono ?_
    rintro e w3 ⟨rfl,z,hz⟩
    have Z:=Lib.hid ((Y.out.trans hz).as (show y.t.print y.t.last=iterS (fun t=>t.print t.last) (k+1) x.t from by rw [iter_succ,← Y.out.t]))
    clear hz
    go_wp2_with fail
    go_roundw
    case rel=>exact ⟨k+1,z,by omega,by go_num,Z.out⟩
    case measure=>simp [intOf];omega
  · obtain rfl:k=k0:=by omega
    go_wp2_with fail
    go_end0
    exact ⟨rfl,y,Y.out⟩
end
open Go.RowKit
def pfS (t:List ByteArray) (u:ByteArray):Int × Bool :=
 if placeI t u≠-1 then (placeI t u,true) else if placeI t eT≠-1 then (placeI t eT,true) else if t.length<16 then ((t.length:Int),true) else (0,false)
theorem set_same {l:List ByteArray} {k:Nat} (h:k<l.length):l.set k (sAt l k)=l:=by rw [sAt_lt h];exact List.set_getElem_self h
theorem pf_hit {t:List ByteArray} {u:ByteArray} (h:placeI t u≠-1):pfS t u=(placeI t u,true):=by unfold pfS;rw [if_pos h]
theorem pf_free {t:List ByteArray} {u:ByteArray} (h:placeI t u=-1) (h1:placeI t eT≠-1):pfS t u=(placeI t eT,true):=by unfold pfS;rw [if_neg (fun x=>x h),if_pos h1]
theorem pf_else {t:List ByteArray} {u:ByteArray} (h:placeI t u=-1) (h1:placeI t eT=-1):pfS t u=if t.length<16 then ((t.length:Int),true) else (0,false):=by
 unfold pfS;rw [if_neg (fun x=>x h),if_neg (fun x=>x h1)]
theorem intern_cases {t:List ByteArray} {u:ByteArray} (hm:mayT u=true) :
  (∃ k:Nat,k<t.length∧pfS t u=((k:Int),true)∧internS t u=(t.set k u,(k:Int)+1,0)) ∨
  (pfS t u=((t.length:Int),true)∧t.length<16∧internS t u=(t ++ [u],(t.length:Int)+1,0))∨(pfS t u=(0,false)∧internS t u=([],0,11)):=by
 by_cases h:placeI t u=-1
 · by_cases h1:placeI t eT=-1
   · rw [pf_else h h1]
     by_cases h2:t.length<16
     · exact Or.inr (Or.inl ⟨if_pos h2,h2,by unfold internS;simp [hm,h,h1,h2]⟩)
     · exact Or.inr (Or.inr ⟨if_neg h2,by unfold internS;simp [hm,h,h1,h2]⟩)
   · obtain ⟨k,hk,e,e1,_⟩:=placeI_mem (mem_place.1 h1)
     refine Or.inl ⟨k,hk,by rw [pf_free h h1,e],?_⟩
     unfold internS
     simp [hm,h,e]
 · obtain ⟨k,hk,e,e1,_⟩:=placeI_mem (mem_place.1 h)
   refine Or.inl ⟨k,hk,by rw [pf_hit h,e],?_⟩
   have e2:t.set k u=t:=by rw [← e1,set_same hk]
   rw [e2]
   unfold internS
   simp [hm,e]
set_option maxHeartbeats 800000 in
set_option maxRecDepth 100000 in
theorem placeFor_any {w:World} {A:Option Addr} {n c:Nat} {L:List ByteArray} (h:Vs stV w A n L) (u:ByteArray) (hn:n≤60000) (hc:n≤c) :
  Calls Tryz.prog 238 #[.slice A n c,.string u] w fun e w'=>e=.returned (.tuple #[.int .i64 (pfS L u).1,.bool (pfS L u).2])∧Below w.heap.size w w':=by
 have H1:=Lib.hid (h.alloc (.cells #[.string u,.string ⟨#[]⟩] 9))
 have HL:=Lib.hid h.len
 clear h
 have hmin:min (n:Int) 65535=n:=by omega
 have q0:=placeI_ge L u
 have q1:=placeI_lt L u
 have q2:=placeI_ge L eT
 have q3:=placeI_lt L eT
 rw [HL.out] at q1 q3
 have HE:=Lib.hid (@pf_hit L u)
 have HF:=Lib.hid (@pf_free L u)
 have HG:=Lib.hid (@pf_else L u)
 obtain ⟨z,hz⟩:∃ z,placeI L u=z:=⟨_,rfl⟩
 obtain ⟨y,hy⟩:∃ y,placeI L eT=y:=⟨_,rfl⟩
 rw [hz] at q0 q1
 rw [hy] at q2 q3
 have HZ:=Lib.hid hz
 have HY:=Lib.hid hy
 clear hz hy
 have HB:=Lib.hid (((Below.refl w.heap.size w).alloc (Nat.le_refl _) (.cells #[.string u,.string ⟨#[]⟩] 9)))
 go_enter Tryz.func238,Tryz.ntmps238
 go_wp2
 go_loop [18] (fun i=>∃ k:Nat,k≤2∧i=.int .i64 k∧(0<k→z=-1)∧(1<k→y=-1)) (fun i=>2-(intOf i).toNat)
 case atStart=>exact ⟨0,Nat.zero_le _,rfl,fun x=>absurd x (by omega),fun x=>absurd x (by omega)⟩
 case round =>
  obtain ⟨k,hk,rfl,h1,h2⟩:=hrel
  have HH:=Lib.hid (And.intro h1 h2)
  clear h1 h2
  have hk3:k=0∨k=1∨k=2:=by omega
  rcases hk3 with rfl | rfl | rfl
  · go_wp2_with fail
    refine (idxT_any H1.out u (by omega)).mono ?_
    rintro e w' ⟨rfl,rfl⟩
    rw [HZ.out]
    by_cases hz:0≤z
    · have X:Hid (pfS L u=(z,true)):=Lib.hid ((HE.out (by rw [HZ.out];omega)).trans (by rw [HZ.out]))
      go_wp2_with fail
      go_ret2
      rw [X.out]
      exact ⟨rfl,HB.out⟩
    · have HX:Hid (z=-1):=Lib.hid (by omega)
      go_wp2_with fail
      go_round
      case rel=>exact ⟨1,by omega,rfl,fun _=>HX.out,fun x=>absurd x (by omega)⟩
      case measure=>simp [intOf]
  · go_wp2_with fail
    refine (idxT_any H1.out eT (by omega)).mono ?_
    rintro e w' ⟨rfl,rfl⟩
    rw [HY.out]
    by_cases hz:0≤y
    · have X:Hid (pfS L u=(y,true)):=Lib.hid ((HF.out (by rw [HZ.out];exact HH.out.1 (by omega)) (by rw [HY.out];omega)).trans (by rw [HY.out]))
      go_wp2_with fail
      go_ret2
      rw [X.out]
      exact ⟨rfl,HB.out⟩
    · have HX:Hid (y=-1):=Lib.hid (by omega)
      go_wp2_with fail
      go_round
      case rel=>exact ⟨2,by omega,rfl,fun _=>HH.out.1 (by omega),fun _=>HX.out⟩
      case measure=>simp [intOf]
  · have X:Hid (pfS L u=if n<16 then ((n:Int),true) else (0,false)):=Lib.hid (by
     rw [HG.out (by rw [HZ.out];exact HH.out.1 (by omega)) (by rw [HY.out];exact HH.out.2 (by omega)),HL.out])
    by_cases hl:n<16
    · have hl':(n:Int)<16:=by omega
      have X1:Hid (pfS L u=((n:Int),true)):=Lib.hid (X.out.trans (if_pos hl))
      go_wp2_with fail
      go_ret2
      rw [X1.out]
      exact ⟨rfl,HB.out⟩
    · have hl':¬ (n:Int)<16:=by omega
      have X1:Hid (pfS L u=(0,false)):=Lib.hid (X.out.trans (if_neg hl))
      go_wp2_with fail
      go_ret2
      rw [X1.out]
      exact ⟨rfl,HB.out⟩
def InPost (X:List ByteArray × Int × Int) (w:World) (e:Ending) (w':World):Prop:=∃ v,e=.returned (.tuple #[v,.int .u16 X.2.1,.int .i64 X.2.2])∧TxPost X.1 w v w'
theorem InPost.no (w:World) (k:Int) {w':World} (hb:Below w.heap.size w w'):InPost ([],0,k) w (.returned (.tuple #[.slice none 0 0,.int .u16 0,.int .i64 k])) w':=⟨_,rfl,hb,none,0,rfl,(Tx.nil _ _)⟩
set_option maxHeartbeats 1600000 in
set_option maxRecDepth 100000 in
theorem intern_any {w:World} {A:Option Addr} {n c:Nat} {L:List ByteArray} (h:Vs stV w A n L) (u:ByteArray) (hn:n≤60000) (hc:n≤c) (hu:u.size≤140737488351232) :
  Calls Tryz.prog 189 #[.slice A n c,.string u] w (InPost (internS L u) w):=by
 obtain rfl:=h.len
 obtain ⟨B,hB⟩:∃ B,mayT u=B:=⟨_,rfl⟩
 cases B
 · have X:InPost (internS L u) w (.returned (.tuple #[.slice none 0 0,.int .u16 0,.int .i64 3])) w:=by
    have e:internS L u=([],0,3):=by unfold internS;rw [if_pos hB]
    rw [e]
    exact InPost.no w 3 (Below.refl _ _)
   have HB:=Lib.hid hB
   clear h hB
   go_enter Tryz.func189,Tryz.ntmps189
   go_wp2_with fail
   refine (mayT_any u w hu).mono ?_
   rintro e w' ⟨rfl,rfl⟩
   rw [HB.out]
   go_wp2_with fail
   go_ret3
   exact X
 · have HC:=Lib.hid (intern_cases (t:=L) hB)
   have HB:=Lib.hid hB
   have H:=Lib.hid h
   clear hB h
   go_enter Tryz.func189,Tryz.ntmps189
   go_wp2_with fail
   refine (mayT_any u w hu).mono ?_
   rintro e w' ⟨rfl,rfl⟩
   rw [HB.out]
   go_wp2_with fail
   refine (placeFor_any H.out u hn hc).mono ?_
   rintro e w1 ⟨rfl,hb1⟩
   have HB1:=Lib.hid hb1
   clear hb1
   rcases HC.out with ⟨k,hk,e1,e2⟩ | ⟨e1,hl,e2⟩ | ⟨e1,e2⟩
   · rw [e1]
     have E2:=Lib.hid e2
     clear e1 e2 HC
     have hne:((k:Int) == (L.length:Int))=false:=by rw [beq_eq_false_iff_ne];omega
     go_wp2_with fail
     refine (cloneT_any (H.out.below HB1.out) (by omega)).mono ?_
     rintro e w2 ⟨v,rfl,hb2,A1,c1,rfl,hT⟩
     obtain ⟨g,rfl,hg,hgl,hfr⟩:=hT.blk (by omega)
     have hc2:w2.cell? ⟨g,k,none⟩=some (.string (sAt L k)):=by have:=hT.vs.str hk;rwa [addHead] at this
     have hf2:=hfr k
     have X:InPost (internS L u) w (.returned (.tuple #[.slice (some ⟨g,0,none⟩) L.length c1,.int .u16 ((k:Int)+1),.int .i64 0])) (w2.setCell ⟨g,k,none⟩ (.string u)):=by
      obtain ⟨hs1,hs2⟩:=hT.stored k u
      have hsz:=HB1.out.size
      rw [E2.out]
      exact ⟨_,rfl,(hs1.lower hsz).post ((HB1.out.trans (hb2.mono hsz)).setCell (by simp;omega) _)⟩
     clear hT hfr hb2
     generalize sAt L k=x at hc2
     go_wp2_with fail
     go_ret3
     exact X
   · rw [e1]
     have E2:=Lib.hid e2
     clear e1 e2 HC
     go_wp2_with fail
     refine (cloneT_any (H.out.below HB1.out) (by omega)).mono ?_
     rintro e w2 ⟨v,rfl,hb2,A1,c1,rfl,hT⟩
     have HT:=Lib.hid (And.intro hT hb2)
     clear hT hb2
     obtain ⟨m,hm⟩:∃ m,L.length+1=m:=⟨_,rfl⟩
     have hlm:L.length<m:=by omega
     have hmn:m≤60001:=by omega
     have HM:=Lib.hid hm
     clear hm
     go_wp2_with (at_builtin;refine wpList_appT _ rfl _ _ rfl w1.heap.size A1 L.length c1 L rfl (HT.out.1.below ((Below.refl _ _).alloc (Nat.le_refl _) _)) (some ⟨w2.heap.size,0,none⟩) 1 1 m HM.out [u] rfl (litT w2 u) (by omega) (by have:=HT.out.2.size;simp;omega) ?_;intro A' c' w3 hown hg3)
     obtain ⟨g,rfl,hg,hgl,hfr⟩:=hown.blk (by omega)
     have hc2:w3.cell? ⟨g,L.length,none⟩=some (.string u):=by
      have:=hown.vs.str (k:=L.length) hlm
      rwa [addHead,sAt_append_last] at this
     have hf2:=hfr L.length
     have X:InPost (internS L u) w (.returned (.tuple #[.slice (some ⟨g,0,none⟩) m c',.int .u16 ((L.length:Int)+1),.int .i64 0])) (w3.setCell ⟨g,L.length,none⟩ (.string u)):=by
      obtain ⟨hs1,hs2⟩:=hown.stored L.length u
      have hsz:=HB1.out.size
      have hsz2:=HT.out.2.size
      have e:(L ++ [u]).set L.length u=L ++ [u]:=by simp
      rw [e] at hs1
      rw [E2.out]
      refine ⟨_,rfl,(hs1.lower hsz).post (Below.setCell ?_ (by simp;omega) _)⟩
      exact ((HB1.out.trans (HT.out.2.mono hsz)).alloc (by omega) _).grown hg3 (by simp;omega) fun k hk=>Nat.le_trans hsz (HT.out.1.ownB k hk)
     clear hown hfr hg3
     go_wp2_with fail
     go_simp
     go_wp2_with fail
     go_ret3
     exact X
   · rw [e1]
     have X:InPost (internS L u) w (.returned (.tuple #[.slice none 0 0,.int .u16 0,.int .i64 11])) w1:=by
      rw [e2]
      exact InPost.no w 11 HB1.out
     clear e1 e2 HC
     go_wp2_with fail
     go_ret3
     exact X
end Go.Proofs.YtlcipgdnpilkfaaGreatDoor
