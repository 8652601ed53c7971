/-
  Part 15 of what the laws of emul want: ProjBlank, ProjRefBlank, LinksRefRight, UtfRefEnc, RefSame.
-/
import Derived.Lib.Hide
import Derived.Deep.QuietTactic
import Derived.BigQuiet
import Derived.LoopTactic
import Derived.Test.YtikhknnhmnopbaaGreatDoorPm01
import Derived.Test.YtikhknnhmnopbaaGreatDoorPm02
import Derived.Test.YtikhknnhmnopbaaGreatDoorPm03
import Derived.Test.YtikhknnhmnopbaaGreatDoorPm04
import Derived.Test.YtikhknnhmnopbaaGreatDoorPm13
import Derived.Test.YtikhknnhmnopbaaGreatDoorPm14
namespace Go.Proofs.YtikhknnhmnopbaaGreatDoor
open Go.RowKit
def blS (c r:Nat):Sc:=⟨c,r,(blankR c r).flatten,0,0,false,0,[],[]⟩
theorem bl_mem {c r:Nat}:∀ x∈(blankR c r).flatten,x=blankS pn0:=fun x hx=>by
 obtain ⟨l,hl,hx⟩:=List.mem_flatten.1 hx
 rw [List.eq_of_mem_replicate hl] at hx
 exact List.eq_of_mem_replicate hx
theorem bl_screen (c r:Nat):(tmNew c r).screen=blS c r:=by
 have h0:ordS (blankR c r).flatten []=true:=ord_none fun x hx=>by rw [bl_mem x hx];rfl
 unfold ordS at h0
 simp only [Bool.and_eq_true,decide_eq_true_eq] at h0
 show (⟨(c:Int),(r:Int),canonC (blankR c r).flatten [],0,0,false,0,[],canonL (blankR c r).flatten []⟩:Sc)=_
 rw [h0.1.2,h0.2]
 rfl
theorem bl_right {c r:Nat} (h1:1≤c) (h2:c≤80) (h3:1≤r) (h4:r≤24):rightSc (blS c r)=true:=by
 rw [← bl_screen]
 exact screen_right (TmOk.fresh h1 h2 h3 h4)
theorem bl_pos (c r:Nat):PosC (blS c r).cells:=fun x hx=>by rw [bl_mem x hx];exact ⟨by decide,by decide⟩
def BlEnd (c r:Int) (w:World) (e:Ending) (w':World):Prop :=
 Below w.heap.size w w'∧((sizeOk c r=true∧∃ s',e=.returned (.tuple #[.agg (scrA s'),.int .i64 0])∧ScOwn w.heap.size w' s' (blS c.toNat r.toNat))∨(sizeOk c r=false∧e=.returned (.tuple #[.agg (scrA scN),.int .i64 1])))
set_option maxHeartbeats 6400000 in
set_option maxRecDepth 100000 in
theorem pBlank_any {w:World} (hT:Tabs w) (c r:Int):Calls Tryz.prog 27 #[.int .i64 c,.int .i64 r] w (BlEnd c r w):=by
 obtain ⟨b,hb⟩:∃ b,b=w.heap.size:=⟨_,rfl⟩
 have HBW:=Lib.hid hb
 obtain ⟨w1,hw1⟩:∃ w1,w1=w.alloc (.cells (scrA scN) 25):=⟨_,rfl⟩
 have H1:=Lib.hid (show Sx w1 b scN∧Below w.heap.size w w1∧b<w1.heap.size from by
  rw [hw1,hb]
  exact ⟨Sx.new w scN,(Below.refl _ _).alloc (Nat.le_refl _) _,by simp⟩)
 have HN:=Lib.hid (newT_any (hT.below H1.out.2.1 (Nat.le_refl _)) c r)
 clear hT
 unfold scrA scN at hw1
 dsimp only at hw1
 go_enter Tryz.func27,Tryz.ntmps27
 go_upto_region 1 with fail
 rw [← hw1,← hb]
 clear hw1 hb
 go_wp2_with fail
 refine HN.out.mono ?_
 rintro e w2 ⟨hb2,⟨hs,B,g,x,rfl,hB,hz,ht⟩ | ⟨hs,rfl⟩⟩
 · have H2:=Lib.hid (And.intro (H1.out.1.below hb2) (And.intro (H1.out.2.1.trans (hb2.mono H1.out.2.1.size)) hs))
   have HZ:=Lib.hid (And.intro hz ht)
   clear hb2 hs hB hz ht HN
   go_wp2_with fail
   refine (screenS_any HZ.out.1 (by rw [HZ.out.2];exact Sane.fresh _ _)).mono ?_
   rintro e w3 ⟨hb3,s,rfl,hS⟩
   rw [HZ.out.2,bl_screen] at hS
   have H3:=Lib.hid (And.intro (H2.out.1.below hb3) (And.intro (H2.out.2.1.trans (hb3.mono H2.out.2.1.size)) hS))
   have HLT:=Lib.hid H2.out.1.lt
   have HSZ:=Lib.hid H2.out.2.2
   clear hb3 hS HZ H2 H1
   go_wp2_with (refine wpList_store_V rfl 25 (.tmp 4) (.tmp 15) rfl scF_len one_sc info56 b _ 0 s _ rfl (by omega) rfl rfl 25 [scN] H3.out.1 (by decide) ?_;intro w7 hR7 hg7)
   have HE:=Lib.hid (show Below w.heap.size w w7∧ScOwn w.heap.size w7 s (blS c.toNat r.toNat) from ⟨H3.out.2.1.grown hg7 H3.out.2.1.size (fun k hk=>by injection hk with hk;have:=HBW.out;omega),(H3.out.2.2.grown hg7 HLT.out).lower (by have:=HBW.out;have:=HLT.out;omega)⟩)
   obtain ⟨y0,y1,y2,y3,y4,y5,y6,y7,y8,_⟩:=sx_cells (s:=s) hR7
   exact bodyPost_ret (v:=.tuple #[.agg (scrA s),.int .i64 0]) (by simp [results,Tryz.results27,scrA,go_sem,y0,y1,y2,y3,y4,y5,y6,y7,y8]) rfl ⟨HE.out.1,.inl ⟨HSZ.out,_,rfl,HE.out.2⟩⟩
 · have H2:=Lib.hid (And.intro (H1.out.1.below hb2) (And.intro (H1.out.2.1.trans (hb2.mono H1.out.2.1.size)) hs))
   clear hb2 hs HN H1
   go_wp2_with fail
   refine (screenNil_any w2).mono ?_
   rintro e w3 ⟨rfl,hb3⟩
   have H3:=Lib.hid (And.intro (H2.out.1.below hb3) (And.intro (H2.out.2.1.trans (hb3.mono H2.out.2.1.size)) H2.out.2.2))
   clear hb3 H2
   unfold scZ
   go_wp2_with (refine wpList_store_V rfl 25 (.tmp 4) (.tmp 15) rfl scF_len one_sc info56 b _ 0 scN _ rfl (by omega) rfl rfl 25 [scN] H3.out.1 (by decide) ?_;intro w7 hR7 hg7)
   have HE:=Lib.hid (show Below w.heap.size w w7 from H3.out.2.1.grown hg7 H3.out.2.1.size (fun k hk=>by injection hk with hk;have:=HBW.out;omega))
   obtain ⟨y0,y1,y2,y3,y4,y5,y6,y7,y8,_⟩:=sx_cells (s:=scN) hR7
   exact bodyPost_ret (v:=.tuple #[.agg (scrA scN),.int .i64 1]) (by simp [results,Tryz.results27,scrA,scN,go_sem,y0,y1,y2,y3,y4,y5,y6,y7,y8]) rfl ⟨HE.out,.inr ⟨H3.out.2.2,rfl⟩⟩
open Go.RowKit
def scB (c r:Int) (q n k:Nat):ScR:=⟨c,r,some ⟨q,0,none⟩,n,k,0,0,false,0,⟨#[]⟩,none,0,0⟩
theorem scB_own {base:Nat} {w:World} {c r q k:Nat} (h1:1≤c) (h2:c≤80) (h3:1≤r) (h4:r≤24) (hq:base≤q) (hk:(blankR c r).flatten.length≤k) (hm:k≤maxLen) (hR:Rw ceV 43 w q (blankR c r).flatten) :
  ScOwn base w (scB c r q (blankR c r).flatten.length k) (blS c r):=by
 have hl:=(gk_blankE h1 h2 h3 h4).box.flen
 have hs:=(gk_blankE h1 h2 h3 h4).small
 have hc:Cx base w (some ⟨q,0,none⟩) (blankR c r).flatten.length k (blankR c r).flatten:=⟨rfl,hk,hm,fun _=>⟨q,rfl,hq,hR⟩⟩
 refine ⟨⟨rfl,rfl,rfl,rfl,rfl,rfl,rfl,hc.vs,Vs.nil _ _,hk,by show (blankR c r).flatten.length≤_;omega,Nat.le_refl _,fun x hx=>?_,(fun _ h=>by cases h),by show (0:Nat)≤_;omega⟩,hc,Tx.nil _ _,by show (blankR c r).flatten.length≤_;omega,by show 0≤_;omega⟩
 rw [bl_mem x hx]
 exact ⟨by decide,by decide⟩
set_option maxHeartbeats 6400000 in
set_option maxRecDepth 100000 in
theorem rBlank_any {w:World} (c r:Int):Calls Tryz.prog 16 #[.int .i64 c,.int .i64 r] w (BlEnd c r w):=by
 obtain ⟨b,hb⟩:∃ b,b=w.heap.size:=⟨_,rfl⟩
 have HBW:=Lib.hid hb
 obtain ⟨w1,hw1⟩:∃ w1,w1=w.alloc (.cells (scrA scN) 25):=⟨_,rfl⟩
 have H1:=Lib.hid (show Sx w1 b scN∧Below w.heap.size w w1∧b<w1.heap.size from by
  rw [hw1,hb]
  exact ⟨Sx.new w scN,(Below.refl _ _).alloc (Nat.le_refl _) _,by simp⟩)
 have HN:=Lib.hid (refNew_any (c:=c) (r:=r) w1)
 unfold scrA scN at hw1
 dsimp only at hw1
 cases hs:sizeOk c r
 · rw [new_no hs] at HN
   have HS:=Lib.hid hs
   clear hs
   go_enter Tryz.func16,Tryz.ntmps16
   go_upto_region 1 with fail
   rw [← hw1,← hb]
   clear hw1 hb
   go_wp2_with fail
   refine HN.out.mono ?_
   rintro e w2 hP
   obtain ⟨rfl,hb2⟩:=hP.2 rfl
   have H2:=Lib.hid (And.intro (H1.out.1.below hb2) (H1.out.2.1.trans (hb2.mono H1.out.2.1.size)))
   clear hP hb2 HN H1
   have X:=Lib.hid (show Gb (w2.alloc (.cells (gV 0 0 none 0 0) 58)) w2.heap.size gr0∧Below w2.heap.size w2 (w2.alloc (.cells (gV 0 0 none 0 0) 58)) from ⟨gb_new w2 gr0,(Below.refl _ _).alloc (Nat.le_refl _) _⟩)
   unfold gV at X ⊢
   go_upto_region 3 with (refine wpList_store_G rfl (.tmp 6) (.tmp 12) rfl w2.heap.size gr0 gr0 rfl rfl X.out.1 ?_;intro w3 hG3 hg3)
   have H3:=Lib.hid (show Sx w3 b scN∧Below w.heap.size w w3 from by
    have h1:Below w2.heap.size w2 w3:=X.out.2.grown hg3 X.out.2.size (fun k hk=>by injection hk with hk;omega)
    exact ⟨H2.out.1.below h1,H2.out.2.trans (h1.mono H2.out.2.size)⟩)
   clear hG3 hg3 X H2
   go_wp2_with (refine wpList_store_V rfl 25 (.tmp 4) (.tmp 16) rfl scF_len one_sc info56 b _ 0 scN _ rfl (by omega) rfl rfl 25 [scN] H3.out.1 (by decide) ?_;intro w7 hR7 hg7)
   have HE:=Lib.hid (show Below w.heap.size w w7 from H3.out.2.grown hg7 H3.out.2.size (fun k hk=>by injection hk with hk;have:=HBW.out;omega))
   obtain ⟨y0,y1,y2,y3,y4,y5,y6,y7,y8,_⟩:=sx_cells (s:=scN) hR7
   exact bodyPost_ret (v:=.tuple #[.agg (scrA scN),.int .i64 1]) (by simp [results,Tryz.results16,scrA,scN,go_sem,y0,y1,y2,y3,y4,y5,y6,y7,y8]) rfl ⟨HE.out,.inr ⟨HS.out,rfl⟩⟩
 · have hz:=hs
   unfold sizeOk at hz
   simp only [decide_eq_true_eq] at hz
   obtain ⟨cc,rfl⟩:∃ k:Nat,c=(k:Int):=⟨c.toNat,by omega⟩
   obtain ⟨rr,rfl⟩:∃ k:Nat,r=(k:Int):=⟨r.toNat,by omega⟩
   have HH:=Lib.hid (show 1≤cc∧cc≤80∧1≤rr∧rr≤24 from by omega)
   rw [new_yes hs] at HN
   have HS:=Lib.hid hs
   clear hs hz
   go_enter Tryz.func16,Tryz.ntmps16
   go_upto_region 1 with fail
   rw [← hw1,← hb]
   clear hw1 hb
   go_wp2_with fail
   refine HN.out.mono ?_
   rintro e w2 hP
   obtain ⟨v,rfl,hb2,q,k,hv,hq,hk,hm,hR⟩:=hP.1 _ _ _ rfl
   injection hv with hv
   subst hv
   have H2:=Lib.hid (And.intro (H1.out.1.below hb2) (H1.out.2.1.trans (hb2.mono H1.out.2.1.size)))
   have HQ:=Lib.hid (show w1.heap.size≤q∧(blankR cc rr).flatten.length≤k∧k≤maxLen∧Rw ceV 43 w2 q (blankR cc rr).flatten from ⟨hq,hk,hm,hR⟩)
   have HLB:=Lib.hid H1.out.2.2
   clear hP hb2 hq hk hm hR HN H1
   obtain ⟨N,hN⟩:∃ N,N=(blankR cc rr).flatten.length:=⟨_,rfl⟩
   rw [show (List.replicate rr (blanksS cc pn0)).flatten.length=N from hN.symm]
   have X:=Lib.hid (show Gb (w2.alloc (.cells (gV 0 0 none 0 0) 58)) w2.heap.size gr0∧Below w2.heap.size w2 (w2.alloc (.cells (gV 0 0 none 0 0) 58)) from ⟨gb_new w2 gr0,(Below.refl _ _).alloc (Nat.le_refl _) _⟩)
   have HNN:=Lib.hid hN
   clear hN
   unfold gV at X ⊢
   go_upto_region 2 with (refine wpList_store_G rfl (.tmp 6) (.tmp 12) rfl w2.heap.size gr0 ⟨_,_,some ⟨q,0,none⟩,_,k⟩ rfl rfl X.out.1 ?_;intro w3 hG3 hg3)
   obtain ⟨gb,hgb⟩:∃ gb,gb=w2.heap.size:=⟨_,rfl⟩
   rw [← hgb] at hG3 ⊢
   have H3:=Lib.hid (show Sx w3 b scN∧Below w.heap.size w w3∧ScOwn w1.heap.size w3 (scB cc rr q N k) (blS cc rr) from by
    have h1:Below w2.heap.size w2 w3:=X.out.2.grown hg3 X.out.2.size (fun k hk=>by injection hk with hk;omega)
    rw [HNN.out]
    exact ⟨H2.out.1.below h1,H2.out.2.trans (h1.mono H2.out.2.size),scB_own HH.out.1 HH.out.2.1 HH.out.2.2.1 HH.out.2.2.2 HQ.out.1 HQ.out.2.1 HQ.out.2.2.1 (HQ.out.2.2.2.below h1)⟩)
   have g2:=hG3.g3.c2
   clear hG3 hg3 X H2 hgb HQ HNN
   go_wp2_with (refine wpList_store_V rfl 25 (.tmp 4) (.tmp 22) rfl scF_len one_sc info56 b _ 0 (scB cc rr q N k) _ rfl (by omega) rfl rfl 25 [scN] H3.out.1 (by decide) ?_;intro w7 hR7 hg7)
   have HE:=Lib.hid (show Below w.heap.size w w7∧ScOwn w.heap.size w7 (scB cc rr q N k) (blS (cc:Int).toNat (rr:Int).toNat) from by
    have h1:=HBW.out
    have h2:=HLB.out
    rw [Int.toNat_natCast,Int.toNat_natCast]
    exact ⟨H3.out.2.1.grown hg7 H3.out.2.1.size (fun k hk=>by injection hk with hk;omega),(H3.out.2.2.grown hg7 h2).lower (by omega)⟩)
   obtain ⟨y0,y1,y2,y3,y4,y5,y6,y7,y8,_⟩:=sx_cells (s:=scB cc rr q N k) hR7
   exact bodyPost_ret (v:=.tuple #[.agg (scrA (scB cc rr q N k)),.int .i64 0]) (by simp [results,Tryz.results16,scrA,scB,go_sem,y0,y1,y2,y3,y4,y5,y6,y7,y8]) rfl ⟨HE.out.1,.inl ⟨HS.out,_,rfl,HE.out.2⟩⟩
open Go.RowKit
theorem ordS_long {cs:List Ce} {l:List ByteArray} (h:¬ l.length≤16):ordS cs l=false:=by unfold ordS;rw [decide_eq_false h];rfl
theorem ordS_else {cs:List Ce} {l:List ByteArray} (h:canonC cs l≠cs):ordS cs l=false:=by unfold ordS;rw [decide_eq_false h];simp
theorem ordS_all {cs:List Ce} {l:List ByteArray} (h1:l.length≤16) (h2:canonC cs l=cs):ordS cs l=decide (canonL cs l=l):=by
 unfold ordS
 rw [decide_eq_true h1,decide_eq_true h2]
 simp
theorem canonC_at {cs:List Ce} {l:List ByteArray} {k:Nat} (hk:k<cs.length):∃ q,cAt (canonC cs l) k=setLk (cAt cs k) q:=by
 refine ⟨numI (canonL cs l) (leadsS l (cAt cs k).p.lk),?_⟩
 rw [cAt_lt (by rw [canonC_len];exact hk),cAt_lt hk]
 simp [canonC]
set_option maxHeartbeats 4000000 in
theorem refRight_any {w:World} {A A':Option Addr} {n c m c':Nat} {cs:List Ce} {L:List ByteArray} (h:Vs ceV w A n cs) (h':Vs stV w A' m L) (hl:∀ x∈cs,0≤x.p.lk∧x.p.lk≤65535) (hs:∀ s∈L,s.size≤140737488351232) (hn:n≤60000) (hm:m≤60000) :
  Calls Tryz.prog 44 #[.slice A n c,.slice A' m c'] w fun e w'=>e=.returned (.bool (ordS cs L))∧Below w.heap.size w w':=by
 obtain rfl:=h.len
 obtain rfl:=h'.len
 have H:=Lib.hid (And.intro h h')
 have HL:=Lib.hid (And.intro hl hs)
 clear h h' hl hs
 by_cases h16:L.length≤16
 · go_enter Tryz.func44,Tryz.ntmps44
   go_wp2_with fail
   refine (refCanon_any H.out.1 H.out.2 HL.out.1 HL.out.2 hn hm).mono ?_
   rintro e w1 ⟨hb,A1,c1,A2,c2,rfl,hC,hT⟩
   have e1:=canonC_len cs L
   rw [e1] at hC ⊢
   clear e1
   have X1:=Lib.hid (And.intro hb (And.intro hC hT))
   clear hb hC hT
   go_wp2_with fail
   go_loopw [19] (fun i wr=>∃ (k q:Nat),k≤cs.length∧i=.int .i64 k∧(canonC cs L).take k=cs.take k∧wr=w1.drewN q) (fun i _=>cs.length-(intOf i).toNat)
   case atStart=>exact ⟨0,0,Nat.zero_le _,rfl,by simp,rfl⟩
   case round =>
    obtain ⟨k,q,hk,rfl,hx,rfl⟩:=hrel
    have HX:=Lib.hid hx
    clear hx
    by_cases hlt:k<cs.length
    · have hv:=H.out.1.below X1.out.1
      have hv2:=X1.out.2.1.vs
      obtain ⟨ad,rfl⟩:=H.out.1.addr (by omega)
      obtain ⟨ad',rfl⟩:=hv2.addr (by omega)
      obtain ⟨_,_,_,_,_,a5⟩:=hv.six hlt
      obtain ⟨_,_,_,_,_,b5⟩:=hv2.six hlt
      clear hv hv2
      have HT:=Lib.hid (take_snocC (xs:=canonC cs L) (ys:=cs) (k:=k) (by rw [canonC_len];exact hlt) hlt)
      obtain ⟨z,hz⟩:=canonC_at (l:=L) hlt
      have HE:Hid (cAt (canonC cs L) k=cAt cs k↔z=(cAt cs k).p.lk):=Lib.hid (by
       rw [hz]
       constructor
       · intro h1
         have:=congrArg (fun x:Ce=>x.p.lk) h1
         exact this
       · rintro rfl
         rfl)
      have b6:(cAt (canonC cs L) k).p.lk=z:=by rw [hz];rfl
      rw [b6] at b5
      clear b6 hz
      generalize (cAt cs k).p.lk=y at a5 HE
      obtain ⟨B,hB⟩:∃ B,(z == y)=B:=⟨_,rfl⟩
      cases B
      · have HD:Hid (ordS cs L=false):=Lib.hid (ordS_else fun e=>by
         have h1:=(HT.out.1 (by rw [e])).2
         have h2:=HE.out.1 h1
         rw [beq_eq_false_iff_ne] at hB
         exact hB h2)
        go_wp2
        go_quiet (fail)
        go_wp2
        go_ret
        exact ⟨retBR HD.out.symm,by have:=(below_drewN' X1.out.1 q);exact below_drewN' this _⟩
      · have HTT:=Lib.hid (HT.out.2 ⟨HX.out,HE.out.2 (beq_iff_eq.1 hB)⟩)
        go_wp2
        go_quiet (fail)
        go_wp2
        go_roundw
        case rel=>exact ⟨k+1,q+nq,by omega,by go_num,HTT.out,rfl⟩
        case measure=>simp [intOf];omega
    · have e:(canonC cs L)=cs:=by
       have e1:=HX.out
       rwa [List.take_of_length_le (by rw [canonC_len];omega),List.take_of_length_le (by omega)] at e1
      have X:Hid (ordS cs L=decide (canonL cs L=L)):=Lib.hid (ordS_all h16 e)
      have HV:Hid (Vs stV (w1.drewN q) A' L.length L):=Lib.hid ((H.out.2.below X1.out.1).drewN q)
      have HV2:Hid (Vs stV (w1.drewN q) A2 (canonL cs L).length (canonL cs L)):=Lib.hid (X1.out.2.2.vs.drewN q)
      have HCL:Hid ((canonL cs L).length≤cs.length):=Lib.hid (canonL_cells cs L)
      clear e
      go_wp2_with fail
      refine (sameT_any HV2.out HV.out (by have:=HCL.out;omega) (by omega)).mono ?_
      rintro e w2 ⟨rfl,q2,rfl⟩
      go_wp2_with fail
      go_ret
      exact ⟨retBR X.out.symm,below_drewN' X1.out.1 _⟩
 · have X:Hid (ordS cs L=false):=Lib.hid (ordS_long h16)
   have hgt:(16:Int)<(L.length:Int):=by omega
   go_enter Tryz.func44,Tryz.ntmps44
   go_wp2_with fail
   go_ret
   exact ⟨retBR X.out.symm,Below.refl _ _⟩
open Go.RowKit
def Byts (zs:List Int) (w:World) (e:Ending) (w':World):Prop:=∃ A n c,e=.returned (.slice A n c)∧Sb w' A n zs∧Below w.heap.size w w'
theorem Byts.lit {w:World} {t:TypeId} {zs:List Int} {n:Nat} {cs:Array Value} (hc:cs.toList=zs.map (Value.int .u8)) (hl:zs.length=n) (hm:n≤100):Byts zs w (.returned (.slice (some ⟨w.heap.size,0,none⟩) n n)) (w.alloc (.cells cs t)) :=
 ⟨_,_,_,rfl,Sb.lit w t zs n cs hc hl (by unfold maxLen;omega),(Below.refl _ _).alloc (Nat.le_refl _) _⟩
set_option maxHeartbeats 1600000 in
set_option maxRecDepth 100000 in
theorem refEnc_may {r:Int} (w:World) (hm:mayS r=true):Calls Tryz.prog 92 #[.int .i32 r] w (Byts (encS r) w):=by
 have hb:=mayS_iff.1 hm
 have HM:=Lib.hid hm
 clear hm
 by_cases h1:r<128
 · have HE:=Lib.hid (enc1 (by omega) h1)
   go_enter Tryz.func92,Tryz.ntmps92
   go_wp2_with fail
   refine (may_any r w).mono ?_
   rintro e w1 ⟨rfl,rfl⟩
   rw [HM.out]
   go_wp2_with fail
   go_ret
   rw [HE.out]
   exact Byts.lit rfl rfl (by omega)
 by_cases h2:r<2048
 · have HE:=Lib.hid (enc2 (by omega) h2)
   go_enter Tryz.func92,Tryz.ntmps92
   go_wp2_with fail
   refine (may_any r w).mono ?_
   rintro e w1 ⟨rfl,rfl⟩
   rw [HM.out]
   go_wp2_with fail
   go_ret
   rw [HE.out]
   exact Byts.lit rfl rfl (by omega)
 by_cases h3:r<65536
 · have HE:=Lib.hid (enc3 (r:=r) (by omega))
   go_enter Tryz.func92,Tryz.ntmps92
   go_wp2_with fail
   refine (may_any r w).mono ?_
   rintro e w1 ⟨rfl,rfl⟩
   rw [HM.out]
   go_wp2_with fail
   go_ret
   rw [HE.out]
   exact Byts.lit rfl rfl (by omega)
 · have HE:=Lib.hid (enc4 (r:=r) (by omega))
   go_enter Tryz.func92,Tryz.ntmps92
   go_wp2_with fail
   refine (may_any r w).mono ?_
   rintro e w1 ⟨rfl,rfl⟩
   rw [HM.out]
   go_wp2_with fail
   go_ret
   rw [HE.out]
   exact Byts.lit rfl rfl (by omega)
theorem refEnc_any (r:Int) (w:World):Calls Tryz.prog 92 #[.int .i32 r] w (Byts (encS r) w):=by
 cases hm:mayS r
 · have HM:=Lib.hid hm
   have HE:=Lib.hid (enc_bad hm)
   clear hm
   go_enter Tryz.func92,Tryz.ntmps92
   go_wp2_with fail
   refine (may_any r w).mono ?_
   rintro e w1 ⟨rfl,rfl⟩
   rw [HM.out]
   go_wp2_with fail
   go_ret
   rw [HE.out]
   exact Byts.lit rfl rfl (by omega)
 · exact refEnc_may w hm
open Go.RowKit
theorem retB {a b:Bool} (h:a=b):Ending.returned (.bool a)=.returned (.bool b):=by rw [h]
theorem take_eq_snoc {xs ys:List Int} {k:Nat} (hx:k<xs.length) (hy:k<ys.length):xs.take (k+1)=ys.take (k+1)↔xs.take k=ys.take k∧xs.getD k 0=ys.getD k 0:=by
 rw [List.take_succ_eq_append_getElem hx,List.take_succ_eq_append_getElem hy]
 have h1:xs.getD k 0=xs[k]:=getD_lt hx
 have h2:ys.getD k 0=ys[k]:=getD_lt hy
 rw [h1,h2]
 constructor
 · intro h
   have:=List.append_inj h (by simp;omega)
   exact ⟨this.1,by simpa using this.2⟩
 · rintro ⟨h,h'⟩
   rw [h,h']
set_option maxHeartbeats 400000 in
theorem refSame_any {w:World} {A A':Option Addr} {n n' c c':Nat} {xs ys:List Int} (h:Sb w A n xs) (h':Sb w A' n' ys) (hn:n≤9223372036854775807) (hn':n'≤9223372036854775807) :
  Calls Tryz.prog 12 #[.slice A n c,.slice A' n' c'] w fun e w'=>e=.returned (.bool (decide (xs=ys)))∧∃ q,w'=w.drewN q:=by
 by_cases hne:n=n'
 · subst hne
   have H:=Lib.hid (show Sb w A n xs∧Sb w A' n ys from ⟨h,h'⟩)
   clear h h' hn'
   go_enter Tryz.func12,Tryz.ntmps12
   go_wp2
   go_loopw [13] (fun i wr=>∃ k q:Nat,k≤n∧i=.int .i64 k∧xs.take k=ys.take k∧wr=w.drewN q) (fun i _=>n-(intOf i).toNat)
   case atStart=>exact ⟨0,0,Nat.zero_le _,rfl,by simp,rfl⟩
   case round =>
    obtain ⟨k,q,hk,rfl,hx,rfl⟩:=hrel
    have HX:=Lib.hid hx
    clear hx
    by_cases hlt:k<n
    · obtain ⟨ad,rfl⟩:=H.out.1.addr (by omega)
      obtain ⟨ad',rfl⟩:=H.out.2.addr (by omega)
      have hc:=H.out.1.cell hlt
      have hc':=H.out.2.cell hlt
      have HT:=Lib.hid (take_eq_snoc (xs:=xs) (ys:=ys) (k:=k) (by rw [H.out.1.len];exact hlt) (by rw [H.out.2.len];exact hlt))
      obtain ⟨a,ha⟩:∃ a,a=xs.getD k 0:=⟨_,rfl⟩
      obtain ⟨b,hb⟩:∃ b,b=ys.getD k 0:=⟨_,rfl⟩
      rw [← ha] at hc
      rw [← hb] at hc'
      rw [← ha,← hb] at HT
      have HAB:=Lib.hid (And.intro ha hb)
      clear ha hb
      by_cases hab:a=b
      · have ht:=HT.out.2 ⟨HX.out,hab⟩
        have HTT:=Lib.hid ht
        subst hab
        clear ht HT HAB
        go_wp2
        go_quiet (fail)
        go_wp2
        go_roundw
        case rel=>exact ⟨k+1,q+nq,by omega,by go_num,HTT.out,rfl⟩
        case measure=>simp [intOf];omega
      · have hd:decide (xs=ys)=false:=by
         rw [decide_eq_false_iff_not]
         rintro rfl
         exact hab (HAB.out.1.trans HAB.out.2.symm)
        have t1:(a == b)=false:=by simpa using hab
        have t2:(a != b)=true:=by simpa using hab
        have HD:=Lib.hid hd
        clear hd hab
        go_wp2
        go_quiet (fail)
        go_wp2
        go_ret
        exact ⟨retB HD.out.symm,q+nq,by simp [World.drewN,Nat.add_assoc]⟩
    · have hd:decide (xs=ys)=true:=by
       have e1:=HX.out
       rw [List.take_of_length_le (by rw [H.out.1.len];omega),List.take_of_length_le (by rw [H.out.2.len];omega)] at e1
       simpa using e1
      have HD:=Lib.hid hd
      clear hd
      go_wp2
      go_ret
      exact ⟨retB HD.out.symm,q,rfl⟩
 · have hd:decide (xs=ys)=false:=by
    rw [decide_eq_false_iff_not]
    rintro rfl
    exact hne (h.len.symm.trans h'.len)
   rw [hd]
   have hne':¬ ((n:Int)=(n':Int)):=by omega
   clear h h' hd
   go_enter Tryz.func12,Tryz.ntmps12
   go_wp2
   go_ret
   exact ⟨rfl,0,rfl⟩
end Go.Proofs.YtikhknnhmnopbaaGreatDoor
