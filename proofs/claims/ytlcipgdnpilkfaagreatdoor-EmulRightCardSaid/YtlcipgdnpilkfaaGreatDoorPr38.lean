/-
  Part 38 of what the laws of emul want: EmulResz.
-/
import Derived.Deep.RegionWith
import Derived.Deep.DeepCutAuto
import Derived.Test.YtlcipgdnpilkfaaGreatDoorPr01
import Derived.Test.YtlcipgdnpilkfaaGreatDoorPr37
namespace Go.Proofs.YtlcipgdnpilkfaaGreatDoor
open Go.RowKit
section
variable {B:Nat} {w:World} {g:Nat} {x:CT}
theorem info26:(Tryz.prog.info? 26).map (·.size)=some 3:=by kernel_rfl
theorem g3V_one (c r q n k:Nat):(g3V c r q n k).toArray.all (·.oneCell')=true:=by
 rw [Array.all_eq_true_iff_forall_mem]
 intro v hv
 simp only [g3V,List.mem_toArray,List.mem_cons,List.not_mem_nil,or_false] at hv
 rcases hv with rfl | rfl | rfl<;>rfl
def ReszP (B g:Nat) (x:CT) (c r:Int) (w:World) (e:Ending) (w':World):Prop :=
 (sizeOk c r=true∧e=.returned (.int .i64 0)∧∃ y,CzTo B g x (x.t.resize c.toNat r.toNat) w w' y)∨(sizeOk c r=false∧e=.returned (.int .i64 1)∧Below w.heap.size w w')
theorem meetR_end {J K':Act→World→Prop} {R:Act→World→Prop} {Q':Exit→Act→World→Prop} {a:Act} {w:World} (h2:∀ a' w',Met J a' w'→K' a' w') (h1:∀ a' w',R a' w'→J a' w') (h:R a w):Exit.then K' Q' .normal a w:=h2 _ _ (h1 _ _ h)
theorem resG_of {c r cs rs:Nat} {LL:Rws} (h:Gk c r LL) (hs:sizeOk (cs:Int) (rs:Int)=true):resG (c:Int) (r:Int) LL.flatten (cs:Int) (rs:Int)=some (cs,rs,resizeS cs rs LL):=by
 unfold resG
 rw [if_pos ⟨h.may,hs⟩,Int.toNat_natCast,Int.toNat_natCast,Int.toNat_natCast,Int.toNat_natCast,rows_of_flat h.box]
def ReszG (c r:Nat) (LL:Rws) (w:World) (e:Ending) (w':World):Prop :=
 Below w.heap.size w w'∧∃ q k,e=.returned (.agg (g3V c r q (r*c) k).toArray)∧w.heap.size≤q∧r*c≤k∧k≤maxLen∧Rw ceV 66 w' q (resizeS c r LL).flatten
theorem gridSized {c r cs rs q n k:Nat} {LL:Rws} (hT:Tabs w) (hg:Gk c r LL) (hr:Rw ceV 66 w q LL.flatten) (hn:n=r*c) (hk:n≤k) (h1:1≤cs) (h2:cs≤80) (h3:1≤rs) (h4:rs≤24) :
  Calls Tryz.prog 36 #[.agg (g3V c r q n k).toArray,.int .i64 (cs:Int),.int .i64 (rs:Int)] w (ReszG cs rs LL w):=by
 have hs:sizeOk (cs:Int) (rs:Int)=true:=by unfold sizeOk;simp;omega
 have hl:LL.flatten.length=n:=by rw [hn];exact hg.box.flen
 have hv:=hr.vs
 rw [hl] at hv
 have hsm:=hg.small
 have hg2:=resize_ok hg h1 h2 h3 h4
 refine (gResize_any (c:=(c:Int)) (r:=(r:Int)) (cs:Int) (rs:Int) hv hT hk (by omega)).mono ?_
 intro e w2 hp
 obtain ⟨hb,q2,k2,rfl,hq2,hk2,hm2,hR⟩:=hp.1 cs rs _ (resG_of hg hs)
 rw [hg2.box.flen] at hk2 ⊢
 exact ⟨hb,q2,k2,rfl,hq2,hk2,hm2,hR⟩
set_option maxRecDepth 100000 in
set_option maxHeartbeats 6400000 in
theorem resizeT_any (hT:Tabs w) (h:Cz B w g x) (c r:Int):Calls Tryz.prog 14 #[.pointer (some ⟨g,0,none⟩),.int .i64 c,.int .i64 r] w (ReszP B g x c r w):=by
 have HT:=Lib.hid hT
 have HZ:=Lib.hid h
 have HN:=Lib.hid (gNew_any (c:=c) (r:=r) w)
 cases hs:sizeOk c r
 · rw [new_no hs] at HN
   have HS:=Lib.hid hs
   clear hs hT h
   go_enter Tryz.func14,Tryz.ntmps14
   go_wp2_with fail
   refine HN.out.mono ?_
   rintro e w2 hP
   obtain ⟨rfl,hb⟩:=hP.2 rfl
   have HB:=Lib.hid hb
   clear hP hb
   have X:=Lib.hid (show Gb (w2.alloc (.cells (gV 0 0 none 0 0) 26)) w2.heap.size gr0∧Below w.heap.size w (w2.alloc (.cells (gV 0 0 none 0 0) 26)) from ⟨gb_new w2 gr0,HB.out.alloc HB.out.size _⟩)
   unfold gV at *
   go_wp2_with (refine wpList_store_G rfl (.tmp 7) (.tmp 15) rfl w2.heap.size gr0 gr0 rfl rfl X.out.1 ?_;intro w3 hG3 hg3)
   have hb3:=X.out.2.grown hg3 X.out.2.size (by intro k hk;injection hk with hk;have:=HB.out.size;omega)
   go_ret
   exact .inr ⟨HS.out,rfl,hb3⟩
 · have hz:=hs
   unfold sizeOk at hz
   simp only [decide_eq_true_eq] at hz
   obtain ⟨cc,rfl⟩:∃ k:Nat,c=(k:Int):=⟨c.toNat,by omega⟩
   obtain ⟨rr,rfl⟩:∃ k:Nat,r=(k:Int):=⟨r.toNat,by omega⟩
   have HH:=Lib.hid (show 1≤cc∧cc≤80∧1≤rr∧rr≤24 from by omega)
   rw [new_yes hs] at HN
   have HS:=Lib.hid hs
   clear hs hz hT h
   go_enter Tryz.func14,Tryz.ntmps14
   go_wp2_with fail
   refine HN.out.mono ?_
   rintro e w2 hP
   obtain ⟨v,rfl,hb,q,k,hv,hq,hk,hm,hR⟩:=hP.1 _ _ _ rfl
   injection hv with hv
   subst hv
   have HB:=Lib.hid hb
   clear hP hb hq hk hm hR
   have X:=Lib.hid (show Gb (w2.alloc (.cells (gV 0 0 none 0 0) 26)) w2.heap.size gr0∧Below w.heap.size w (w2.alloc (.cells (gV 0 0 none 0 0) 26)) from ⟨gb_new w2 gr0,HB.out.alloc HB.out.size _⟩)
   unfold gV at *
   go_upto_region 6 with (refine wpList_store_G rfl (.tmp 7) (.tmp 15) rfl w2.heap.size gr0 ⟨_,_,some ⟨q,0,none⟩,_,k⟩ rfl rfl X.out.1 ?_;intro w3 hG3 hg3)
   have H0:=Lib.hid (X.out.2.grown hg3 X.out.2.size (by intro k hk;injection hk with hk;have:=HB.out.size;omega))
   clear hG3 hg3 X HB HN
   go_cut [] from 20 to 44 (fun wc=>∃ (q1 k1 q2 k2:Nat) (L:List Value) (v2:World),Below w.heap.size w v2∧w.heap.size≤q1∧w.heap.size≤q2∧q1≠q2∧(rr*cc≤k1∧k1≤maxLen)∧(rr*cc≤k2∧k2≤maxLen)∧Rw ceV 66 v2 q1 (resizeS cc rr x.t.main).flatten∧Rw ceV 66 v2 q2 (resizeS cc rr x.t.other).flatten∧L=szL2 x cc rr q1 k1 q2 k2∧RwG v2 g L wc)
   case first =>
    have H0:=Lib.hid H0.out.drew
    have XL:=Lib.hid (show ∀ W,Below w.heap.size w W→W.rangeAt g 15 (g3V x.t.c x.t.r x.mb x.mN x.mK)∧W.rangeAt g 18 (g3V x.t.c x.t.r x.ob x.oN x.oK) from fun W hb=>by
     have h1:=World.rangeAt_of_block (HZ.out.below hb).blk
     exact ⟨h1 15 3,h1 18 3⟩)
    have XT:=Lib.hid (fun W (hb:Below w.heap.size w W)=>HT.out.below hb (Nat.le_refl _))
    have XR:=Lib.hid (fun W (hb:Below w.heap.size w W)=>And.intro (HZ.out.below hb).m (HZ.out.below hb).o)
    refine wp_region_noPanic ?_
    refine wp_region_held_drew (S:=fun _=>True) (by kernel_rfl) trivial (fun hHeld=>?_)
    generalize w3.drew=w4 at H0 ⊢
    refine tkH 0 (.pointer (some ⟨g,0,none⟩)) rfl (.inl ⟨by rfl,fun wz hSz=>?_⟩) hHeld ?_
    · go_simp
    simp only [Act.put,List.getElem_toArray,List.getElem_cons_zero,List.setIfInBounds_toArray,List.set_cons_succ,List.set_cons_zero]
    refine tkH 1 (.pointer (some ⟨g,0,none⟩)) rfl (.inl ⟨by rfl,fun wz hSz=>?_⟩) hHeld ?_
    · go_simp
    simp only [Act.put,List.getElem_toArray,List.getElem_cons_succ,List.getElem_cons_zero,List.setIfInBounds_toArray,List.set_cons_succ,List.set_cons_zero]
    refine tkH 2 (.pointer (some ⟨g,0,none⟩)) rfl (.inl ⟨by rfl,fun wz hSz=>?_⟩) hHeld ?_
    · go_simp
    simp only [Act.put,List.getElem_toArray,List.getElem_cons_succ,List.getElem_cons_zero,List.setIfInBounds_toArray,List.set_cons_succ,List.set_cons_zero]
    refine tkH 3 (.pointer (some ⟨g,0,none⟩)) rfl (.inl ⟨by rfl,fun wz hSz=>?_⟩) hHeld ?_
    · go_simp
    simp only [Act.put,List.getElem_toArray,List.getElem_cons_succ,List.getElem_cons_zero,List.setIfInBounds_toArray,List.set_cons_succ,List.set_cons_zero]
    refine tkH 4 (.pointer (some ⟨g,1,none⟩)) rfl (.inl ⟨by rfl,fun wz hSz=>?_⟩) hHeld ?_
    · go_simp
    simp only [Act.put,List.getElem_toArray,List.getElem_cons_succ,List.getElem_cons_zero,List.setIfInBounds_toArray,List.set_cons_succ,List.set_cons_zero]
    refine tkH 5 (.pointer (some ⟨g,15,none⟩)) rfl (.inl ⟨by rfl,fun wz hSz=>?_⟩) hHeld ?_
    · go_simp
    simp only [Act.put,List.getElem_toArray,List.getElem_cons_succ,List.getElem_cons_zero,List.setIfInBounds_toArray,List.set_cons_succ,List.set_cons_zero]
    refine tkH 7 (.int .i64 cc) rfl (.inl ⟨by rfl,fun wz hSz=>?_⟩) hHeld ?_
    · go_simp
    simp only [Act.put,List.getElem_toArray,List.getElem_cons_succ,List.getElem_cons_zero,List.setIfInBounds_toArray,List.set_cons_succ,List.set_cons_zero]
    refine tkH 8 (.int .i64 rr) rfl (.inl ⟨by rfl,fun wz hSz=>?_⟩) hHeld ?_
    · go_simp
    simp only [Act.put,List.getElem_toArray,List.getElem_cons_succ,List.getElem_cons_zero,List.setIfInBounds_toArray,List.set_cons_succ,List.set_cons_zero]
    refine tkH 10 (.pointer (some ⟨g,0,none⟩)) rfl (.inl ⟨by rfl,fun wz hSz=>?_⟩) hHeld ?_
    · go_simp
    simp only [Act.put,List.getElem_toArray,List.getElem_cons_succ,List.getElem_cons_zero,List.setIfInBounds_toArray,List.set_cons_succ,List.set_cons_zero]
    refine tkH 11 (.pointer (some ⟨g,0,none⟩)) rfl (.inl ⟨by rfl,fun wz hSz=>?_⟩) hHeld ?_
    · go_simp
    simp only [Act.put,List.getElem_toArray,List.getElem_cons_succ,List.getElem_cons_zero,List.setIfInBounds_toArray,List.set_cons_succ,List.set_cons_zero]
    refine tkH 12 (.pointer (some ⟨g,1,none⟩)) rfl (.inl ⟨by rfl,fun wz hSz=>?_⟩) hHeld ?_
    · go_simp
    simp only [Act.put,List.getElem_toArray,List.getElem_cons_succ,List.getElem_cons_zero,List.setIfInBounds_toArray,List.set_cons_succ,List.set_cons_zero]
    refine tkH 13 (.pointer (some ⟨g,18,none⟩)) rfl (.inl ⟨by rfl,fun wz hSz=>?_⟩) hHeld ?_
    · go_simp
    simp only [Act.put,List.getElem_toArray,List.getElem_cons_succ,List.getElem_cons_zero,List.setIfInBounds_toArray,List.set_cons_succ,List.set_cons_zero]
    refine tkH 15 (.int .i64 cc) rfl (.inl ⟨by rfl,fun wz hSz=>?_⟩) hHeld ?_
    · go_simp
    simp only [Act.put,List.getElem_toArray,List.getElem_cons_succ,List.getElem_cons_zero,List.setIfInBounds_toArray,List.set_cons_succ,List.set_cons_zero]
    refine tkH 16 (.int .i64 rr) rfl (.inl ⟨by rfl,fun wz hSz=>?_⟩) hHeld ?_
    · go_simp
    simp only [Act.put,List.getElem_toArray,List.getElem_cons_succ,List.getElem_cons_zero,List.setIfInBounds_toArray,List.set_cons_succ,List.set_cons_zero]
    refine wpAnyH_ready (rs:=[6,14]) (by kernel_rfl) (by simp) (AllReadyH.cons rfl (fun K hK=>?_) (AllReadyH.cons rfl (fun K hK=>?_) AllReadyH.nil))
    · rw [if_pos (by rfl)]
      refine wp_load_mid 26 (.tmp 25) rfl g 15 rfl (g3V x.t.c x.t.r x.mb x.mN x.mK) _ (XL.out _ H0.out).1 Tryz.underlying26 rfl info26 ?_
      refine hK.out _ _ trivial (fun hHeld=>?_)
      clear hK K
      try simp only [Act.put,List.getElem_toArray,List.getElem_cons_succ,List.getElem_cons_zero]
      try simp only [List.setIfInBounds_toArray]
      try simp only [List.set_cons_succ]
      try simp only [List.set_cons_zero]
      refine wpAnyH_ready (rs:=[9,14]) (by kernel_rfl) (by simp) (AllReadyH.cons rfl (fun K hK=>?_) (AllReadyH.cons rfl (fun K hK=>?_) AllReadyH.nil))
      · rw [if_pos (by rfl)]
        go_simp
        refine (gridSized (XT.out _ H0.out) HZ.out.ok.gm (XR.out _ H0.out).1 HZ.out.mn HZ.out.mkk.1 HH.out.1 HH.out.2.1 HH.out.2.2.1 HH.out.2.2.2).mono ?_
        rintro e v1 ⟨hb,q1,k1,rfl,hq1,hk1,hm1,hR1⟩
        have H1:=Lib.hid (show w.heap.size≤q1∧(rr*cc≤k1∧k1≤maxLen)∧Rw ceV 66 v1 q1 (resizeS cc rr x.t.main).flatten from ⟨Nat.le_trans H0.out.size hq1,⟨hk1,hm1⟩,hR1⟩)
        have HW:=Lib.hid (H0.out.trans (hb.mono H0.out.size))
        clear hb hq1 hk1 hm1 hR1
        refine hK.out _ _ trivial (fun hHeld=>?_)
        clear hK K
        try simp only [Act.put,List.getElem_toArray,List.getElem_cons_succ,List.getElem_cons_zero]
        try simp only [List.setIfInBounds_toArray]
        try simp only [List.set_cons_succ]
        try simp only [List.set_cons_zero]
        refine wpAnyH_ready (rs:=[14]) (by kernel_rfl) (by simp) (AllReadyH.cons rfl (fun K hK=>?_) AllReadyH.nil)
        rw [if_pos (by rfl)]
        refine wp_load_mid 26 (.tmp 33) rfl g 18 rfl (g3V x.t.c x.t.r x.ob x.oN x.oK) _ (XL.out _ HW.out).2 Tryz.underlying26 rfl info26 ?_
        refine hK.out _ _ trivial (fun hHeld=>?_)
        clear hK K
        try simp only [Act.put,List.getElem_toArray,List.getElem_cons_succ,List.getElem_cons_zero]
        try simp only [List.setIfInBounds_toArray]
        try simp only [List.set_cons_succ]
        try simp only [List.set_cons_zero]
        refine wpAnyH_ready (rs:=[17]) (by kernel_rfl) (by simp) (AllReadyH.cons rfl (fun K hK=>?_) AllReadyH.nil)
        rw [if_pos (by rfl)]
        go_simp
        refine (gridSized (XT.out _ HW.out) HZ.out.ok.go (XR.out _ HW.out).2 HZ.out.on HZ.out.okk.1 HH.out.1 HH.out.2.1 HH.out.2.2.1 HH.out.2.2.2).mono ?_
        rintro e v2 ⟨hb,q2,k2,rfl,hq2,hk2,hm2,hR2⟩
        have H2:=Lib.hid (show Below w.heap.size w v2∧w.heap.size≤q2∧q1≠q2∧(rr*cc≤k2∧k2≤maxLen)∧Rw ceV 66 v2 q1 (resizeS cc rr x.t.main).flatten∧Rw ceV 66 v2 q2 (resizeS cc rr x.t.other).flatten from ⟨HW.out.trans (hb.mono HW.out.size),Nat.le_trans HW.out.size hq2,fun e=>by have:=H1.out.2.2.lt;omega,⟨hk2,hm2⟩,H1.out.2.2.below hb,hR2⟩)
        clear hb hq2 hk2 hm2 hR2
        have R0:=Lib.hid (HZ.out.raw.below H2.out.1)
        have R0:=Lib.hid (show RwG v2 g (ctV x) v2 from ⟨R0.out.blk,rfl,rfl,rfl,Nat.le_refl _,fun _ _ _=>rfl⟩)
        have R1:=Lib.hid (R0.out.sets 15 (g3V cc rr q1 (rr*cc) k1) (by rw [ctV_len HZ.out.ok.tabs];show 15+3≤112;omega))
        obtain ⟨L1,hL1⟩:∃ L1,L1=(ctV x).take 15 ++ (g3V cc rr q1 (rr*cc) k1 ++ (ctV x).drop 18):=⟨_,rfl⟩
        have HL1:=Lib.hid (show L1.length=112 from by rw [hL1];have:=ctV_len HZ.out.ok.tabs;simp [g3V,this])
        have R1:=Lib.hid (show RwG v2 g L1 (v2.setCells g 15 (g3V cc rr q1 (rr*cc) k1)) from by rw [hL1];exact R1.out)
        obtain ⟨L2,hL2⟩:∃ L2,L2=L1.take 18 ++ (g3V cc rr q2 (rr*cc) k2 ++ L1.drop 21):=⟨_,rfl⟩
        have R2:=Lib.hid (show RwG v2 g L2 ((v2.setCells g 15 (g3V cc rr q1 (rr*cc) k1)).setCells g 18 (g3V cc rr q2 (rr*cc) k2)) from by rw [hL2];exact R1.out.sets 18 (g3V cc rr q2 (rr*cc) k2) (by rw [HL1.out];show 18+3≤112;omega))
        have HL2:=Lib.hid (show L2=szL2 x cc rr q1 k1 q2 k2 from by rw [hL2,hL1];rfl)
        have HT0:=Lib.hid (show v2.there g 15 3 from fun j hj=>⟨by rw [cell_of_row _ _ _ _ _ _ R0.out.blk];simp only [List.getElem?_toArray];rw [List.getElem?_eq_getElem (by rw [ctV_len HZ.out.ok.tabs];omega)];rfl,R0.out.fr _⟩)
        have HT1:=Lib.hid (show (v2.setCells g 15 (g3V cc rr q1 (rr*cc) k1)).there g 18 3 from fun j hj=>⟨by rw [cell_of_row _ _ _ _ _ _ R1.out.blk];simp only [List.getElem?_toArray];rw [List.getElem?_eq_getElem (by rw [HL1.out];omega)];rfl,R1.out.fr _⟩)
        clear hL1 hL2
        refine hK.out _ _ trivial (fun hHeld=>?_)
        clear hK K
        try simp only [Act.put,List.getElem_toArray,List.getElem_cons_succ,List.getElem_cons_zero]
        try simp only [List.setIfInBounds_toArray]
        try simp only [List.set_cons_succ]
        try simp only [List.set_cons_zero]
        refine tkH 18 (.pointer (some ⟨g,0,none⟩)) rfl (.inl ⟨by rfl,fun wz hSz=>?_⟩) hHeld ?_
        · go_simp
        simp only [Act.put,List.getElem_toArray,List.getElem_cons_succ,List.getElem_cons_zero,List.setIfInBounds_toArray,List.set_cons_succ,List.set_cons_zero]
        refine tkH 19 (.pointer (some ⟨g,1,none⟩)) rfl (.inl ⟨by rfl,fun wz hSz=>?_⟩) hHeld ?_
        · go_simp
        simp only [Act.put,List.getElem_toArray,List.getElem_cons_succ,List.getElem_cons_zero,List.setIfInBounds_toArray,List.set_cons_succ,List.set_cons_zero]
        refine tkH 20 (.pointer (some ⟨g,15,none⟩)) rfl (.inl ⟨by rfl,fun wz hSz=>?_⟩) hHeld ?_
        · go_simp
        simp only [Act.put,List.getElem_toArray,List.getElem_cons_succ,List.getElem_cons_zero,List.setIfInBounds_toArray,List.set_cons_succ,List.set_cons_zero]
        refine wpAnyH_ready (rs:=[21]) (by kernel_rfl) (by simp) (AllReadyH.cons rfl (fun K hK=>?_) AllReadyH.nil)
        rw [if_pos (by rfl)]
        refine wp_store_mid 26 (.tmp 40) (.tmp 29) rfl g 15 (g3V cc rr q1 (rr*cc) k1).toArray rfl rfl HT0.out info26 (g3V_one _ _ _ _ _) ?_
        refine hK.out _ _ trivial (fun hHeld=>?_)
        clear hK K
        try simp only [Act.put,List.getElem_toArray,List.getElem_cons_succ,List.getElem_cons_zero]
        try simp only [List.setIfInBounds_toArray]
        try simp only [List.set_cons_succ]
        try simp only [List.set_cons_zero]
        refine tkH 22 (.pointer (some ⟨g,0,none⟩)) rfl (.inl ⟨by rfl,fun wz hSz=>?_⟩) hHeld ?_
        · go_simp
        simp only [Act.put,List.getElem_toArray,List.getElem_cons_succ,List.getElem_cons_zero,List.setIfInBounds_toArray,List.set_cons_succ,List.set_cons_zero]
        refine tkH 23 (.pointer (some ⟨g,1,none⟩)) rfl (.inl ⟨by rfl,fun wz hSz=>?_⟩) hHeld ?_
        · go_simp
        simp only [Act.put,List.getElem_toArray,List.getElem_cons_succ,List.getElem_cons_zero,List.setIfInBounds_toArray,List.set_cons_succ,List.set_cons_zero]
        refine tkH 24 (.pointer (some ⟨g,18,none⟩)) rfl (.inl ⟨by rfl,fun wz hSz=>?_⟩) hHeld ?_
        · go_simp
        simp only [Act.put,List.getElem_toArray,List.getElem_cons_succ,List.getElem_cons_zero,List.setIfInBounds_toArray,List.set_cons_succ,List.set_cons_zero]
        refine wpAnyH_ready (rs:=[25]) (by kernel_rfl) (by simp) (AllReadyH.cons rfl (fun K hK=>?_) AllReadyH.nil)
        rw [if_pos (by rfl)]
        refine wp_store_mid 26 (.tmp 43) (.tmp 37) rfl g 18 (g3V cc rr q2 (rr*cc) k2).toArray rfl rfl HT1.out info26 (g3V_one _ _ _ _ _) ?_
        refine hK.out _ _ trivial (fun hHeld=>?_)
        clear hK K
        try simp only [Act.put,List.getElem_toArray,List.getElem_cons_succ,List.getElem_cons_zero]
        try simp only [List.setIfInBounds_toArray]
        try simp only [List.set_cons_succ]
        try simp only [List.set_cons_zero]
        refine wpAnyH_done (by kernel_rfl) ?_ _
        refine NoPanic.normal ?_
        refine meetR_end (by assumption) (by assumption) ?_
        (repeat apply Exists.intro)
        refine ⟨?rel,rfl⟩
        case rel=>exact ⟨q1,k1,q2,k2,L2,v2,H2.out.1,H1.out.1,H2.out.2.1,H2.out.2.2.1,H1.out.2.1,H2.out.2.2.2.1,H2.out.2.2.2.2.1,H2.out.2.2.2.2.2,HL2.out,R2.out⟩
      · rw [if_pos (by rfl)]
        refine wp_load_mid 26 (.tmp 33) rfl g 18 rfl (g3V x.t.c x.t.r x.ob x.oN x.oK) _ (XL.out _ H0.out).2 Tryz.underlying26 rfl info26 ?_
        refine hK.out _ _ trivial (fun hHeld=>?_)
        clear hK K
        try simp only [Act.put,List.getElem_toArray,List.getElem_cons_succ,List.getElem_cons_zero]
        try simp only [List.setIfInBounds_toArray]
        try simp only [List.set_cons_succ]
        try simp only [List.set_cons_zero]
        refine wpAnyH_ready (rs:=[9]) (by kernel_rfl) (by simp) (AllReadyH.cons rfl (fun K hK=>?_) AllReadyH.nil)
        rw [if_pos (by rfl)]
        go_simp
        refine (gridSized (XT.out _ H0.out) HZ.out.ok.gm (XR.out _ H0.out).1 HZ.out.mn HZ.out.mkk.1 HH.out.1 HH.out.2.1 HH.out.2.2.1 HH.out.2.2.2).mono ?_
        rintro e v1 ⟨hb,q1,k1,rfl,hq1,hk1,hm1,hR1⟩
        have H1:=Lib.hid (show w.heap.size≤q1∧(rr*cc≤k1∧k1≤maxLen)∧Rw ceV 66 v1 q1 (resizeS cc rr x.t.main).flatten from ⟨Nat.le_trans H0.out.size hq1,⟨hk1,hm1⟩,hR1⟩)
        have HW:=Lib.hid (H0.out.trans (hb.mono H0.out.size))
        clear hb hq1 hk1 hm1 hR1
        refine hK.out _ _ trivial (fun hHeld=>?_)
        clear hK K
        try simp only [Act.put,List.getElem_toArray,List.getElem_cons_succ,List.getElem_cons_zero]
        try simp only [List.setIfInBounds_toArray]
        try simp only [List.set_cons_succ]
        try simp only [List.set_cons_zero]
        refine wpAnyH_ready (rs:=[17]) (by kernel_rfl) (by simp) (AllReadyH.cons rfl (fun K hK=>?_) AllReadyH.nil)
        rw [if_pos (by rfl)]
        go_simp
        refine (gridSized (XT.out _ HW.out) HZ.out.ok.go (XR.out _ HW.out).2 HZ.out.on HZ.out.okk.1 HH.out.1 HH.out.2.1 HH.out.2.2.1 HH.out.2.2.2).mono ?_
        rintro e v2 ⟨hb,q2,k2,rfl,hq2,hk2,hm2,hR2⟩
        have H2:=Lib.hid (show Below w.heap.size w v2∧w.heap.size≤q2∧q1≠q2∧(rr*cc≤k2∧k2≤maxLen)∧Rw ceV 66 v2 q1 (resizeS cc rr x.t.main).flatten∧Rw ceV 66 v2 q2 (resizeS cc rr x.t.other).flatten from ⟨HW.out.trans (hb.mono HW.out.size),Nat.le_trans HW.out.size hq2,fun e=>by have:=H1.out.2.2.lt;omega,⟨hk2,hm2⟩,H1.out.2.2.below hb,hR2⟩)
        clear hb hq2 hk2 hm2 hR2
        have R0:=Lib.hid (HZ.out.raw.below H2.out.1)
        have R0:=Lib.hid (show RwG v2 g (ctV x) v2 from ⟨R0.out.blk,rfl,rfl,rfl,Nat.le_refl _,fun _ _ _=>rfl⟩)
        have R1:=Lib.hid (R0.out.sets 15 (g3V cc rr q1 (rr*cc) k1) (by rw [ctV_len HZ.out.ok.tabs];show 15+3≤112;omega))
        obtain ⟨L1,hL1⟩:∃ L1,L1=(ctV x).take 15 ++ (g3V cc rr q1 (rr*cc) k1 ++ (ctV x).drop 18):=⟨_,rfl⟩
        have HL1:=Lib.hid (show L1.length=112 from by rw [hL1];have:=ctV_len HZ.out.ok.tabs;simp [g3V,this])
        have R1:=Lib.hid (show RwG v2 g L1 (v2.setCells g 15 (g3V cc rr q1 (rr*cc) k1)) from by rw [hL1];exact R1.out)
        obtain ⟨L2,hL2⟩:∃ L2,L2=L1.take 18 ++ (g3V cc rr q2 (rr*cc) k2 ++ L1.drop 21):=⟨_,rfl⟩
        have R2:=Lib.hid (show RwG v2 g L2 ((v2.setCells g 15 (g3V cc rr q1 (rr*cc) k1)).setCells g 18 (g3V cc rr q2 (rr*cc) k2)) from by rw [hL2];exact R1.out.sets 18 (g3V cc rr q2 (rr*cc) k2) (by rw [HL1.out];show 18+3≤112;omega))
        have HL2:=Lib.hid (show L2=szL2 x cc rr q1 k1 q2 k2 from by rw [hL2,hL1];rfl)
        have HT0:=Lib.hid (show v2.there g 15 3 from fun j hj=>⟨by rw [cell_of_row _ _ _ _ _ _ R0.out.blk];simp only [List.getElem?_toArray];rw [List.getElem?_eq_getElem (by rw [ctV_len HZ.out.ok.tabs];omega)];rfl,R0.out.fr _⟩)
        have HT1:=Lib.hid (show (v2.setCells g 15 (g3V cc rr q1 (rr*cc) k1)).there g 18 3 from fun j hj=>⟨by rw [cell_of_row _ _ _ _ _ _ R1.out.blk];simp only [List.getElem?_toArray];rw [List.getElem?_eq_getElem (by rw [HL1.out];omega)];rfl,R1.out.fr _⟩)
        clear hL1 hL2
        refine hK.out _ _ trivial (fun hHeld=>?_)
        clear hK K
        try simp only [Act.put,List.getElem_toArray,List.getElem_cons_succ,List.getElem_cons_zero]
        try simp only [List.setIfInBounds_toArray]
        try simp only [List.set_cons_succ]
        try simp only [List.set_cons_zero]
        refine tkH 18 (.pointer (some ⟨g,0,none⟩)) rfl (.inl ⟨by rfl,fun wz hSz=>?_⟩) hHeld ?_
        · go_simp
        simp only [Act.put,List.getElem_toArray,List.getElem_cons_succ,List.getElem_cons_zero,List.setIfInBounds_toArray,List.set_cons_succ,List.set_cons_zero]
        refine tkH 19 (.pointer (some ⟨g,1,none⟩)) rfl (.inl ⟨by rfl,fun wz hSz=>?_⟩) hHeld ?_
        · go_simp
        simp only [Act.put,List.getElem_toArray,List.getElem_cons_succ,List.getElem_cons_zero,List.setIfInBounds_toArray,List.set_cons_succ,List.set_cons_zero]
        refine tkH 20 (.pointer (some ⟨g,15,none⟩)) rfl (.inl ⟨by rfl,fun wz hSz=>?_⟩) hHeld ?_
        · go_simp
        simp only [Act.put,List.getElem_toArray,List.getElem_cons_succ,List.getElem_cons_zero,List.setIfInBounds_toArray,List.set_cons_succ,List.set_cons_zero]
        refine wpAnyH_ready (rs:=[21]) (by kernel_rfl) (by simp) (AllReadyH.cons rfl (fun K hK=>?_) AllReadyH.nil)
        rw [if_pos (by rfl)]
        refine wp_store_mid 26 (.tmp 40) (.tmp 29) rfl g 15 (g3V cc rr q1 (rr*cc) k1).toArray rfl rfl HT0.out info26 (g3V_one _ _ _ _ _) ?_
        refine hK.out _ _ trivial (fun hHeld=>?_)
        clear hK K
        try simp only [Act.put,List.getElem_toArray,List.getElem_cons_succ,List.getElem_cons_zero]
        try simp only [List.setIfInBounds_toArray]
        try simp only [List.set_cons_succ]
        try simp only [List.set_cons_zero]
        refine tkH 22 (.pointer (some ⟨g,0,none⟩)) rfl (.inl ⟨by rfl,fun wz hSz=>?_⟩) hHeld ?_
        · go_simp
        simp only [Act.put,List.getElem_toArray,List.getElem_cons_succ,List.getElem_cons_zero,List.setIfInBounds_toArray,List.set_cons_succ,List.set_cons_zero]
        refine tkH 23 (.pointer (some ⟨g,1,none⟩)) rfl (.inl ⟨by rfl,fun wz hSz=>?_⟩) hHeld ?_
        · go_simp
        simp only [Act.put,List.getElem_toArray,List.getElem_cons_succ,List.getElem_cons_zero,List.setIfInBounds_toArray,List.set_cons_succ,List.set_cons_zero]
        refine tkH 24 (.pointer (some ⟨g,18,none⟩)) rfl (.inl ⟨by rfl,fun wz hSz=>?_⟩) hHeld ?_
        · go_simp
        simp only [Act.put,List.getElem_toArray,List.getElem_cons_succ,List.getElem_cons_zero,List.setIfInBounds_toArray,List.set_cons_succ,List.set_cons_zero]
        refine wpAnyH_ready (rs:=[25]) (by kernel_rfl) (by simp) (AllReadyH.cons rfl (fun K hK=>?_) AllReadyH.nil)
        rw [if_pos (by rfl)]
        refine wp_store_mid 26 (.tmp 43) (.tmp 37) rfl g 18 (g3V cc rr q2 (rr*cc) k2).toArray rfl rfl HT1.out info26 (g3V_one _ _ _ _ _) ?_
        refine hK.out _ _ trivial (fun hHeld=>?_)
        clear hK K
        try simp only [Act.put,List.getElem_toArray,List.getElem_cons_succ,List.getElem_cons_zero]
        try simp only [List.setIfInBounds_toArray]
        try simp only [List.set_cons_succ]
        try simp only [List.set_cons_zero]
        refine wpAnyH_done (by kernel_rfl) ?_ _
        refine NoPanic.normal ?_
        refine meetR_end (by assumption) (by assumption) ?_
        (repeat apply Exists.intro)
        refine ⟨?rel,rfl⟩
        case rel=>exact ⟨q1,k1,q2,k2,L2,v2,H2.out.1,H1.out.1,H2.out.2.1,H2.out.2.2.1,H1.out.2.1,H2.out.2.2.2.1,H2.out.2.2.2.2.1,H2.out.2.2.2.2.2,HL2.out,R2.out⟩
    · rw [if_pos (by rfl)]
      refine wp_load_mid 26 (.tmp 33) rfl g 18 rfl (g3V x.t.c x.t.r x.ob x.oN x.oK) _ (XL.out _ H0.out).2 Tryz.underlying26 rfl info26 ?_
      refine hK.out _ _ trivial (fun hHeld=>?_)
      clear hK K
      try simp only [Act.put,List.getElem_toArray,List.getElem_cons_succ,List.getElem_cons_zero]
      try simp only [List.setIfInBounds_toArray]
      try simp only [List.set_cons_succ]
      try simp only [List.set_cons_zero]
      refine wpAnyH_ready (rs:=[6]) (by kernel_rfl) (by simp) (AllReadyH.cons rfl (fun K hK=>?_) AllReadyH.nil)
      rw [if_pos (by rfl)]
      refine wp_load_mid 26 (.tmp 25) rfl g 15 rfl (g3V x.t.c x.t.r x.mb x.mN x.mK) _ (XL.out _ H0.out).1 Tryz.underlying26 rfl info26 ?_
      refine hK.out _ _ trivial (fun hHeld=>?_)
      clear hK K
      try simp only [Act.put,List.getElem_toArray,List.getElem_cons_succ,List.getElem_cons_zero]
      try simp only [List.setIfInBounds_toArray]
      try simp only [List.set_cons_succ]
      try simp only [List.set_cons_zero]
      refine wpAnyH_ready (rs:=[9]) (by kernel_rfl) (by simp) (AllReadyH.cons rfl (fun K hK=>?_) AllReadyH.nil)
      rw [if_pos (by rfl)]
      go_simp
      refine (gridSized (XT.out _ H0.out) HZ.out.ok.gm (XR.out _ H0.out).1 HZ.out.mn HZ.out.mkk.1 HH.out.1 HH.out.2.1 HH.out.2.2.1 HH.out.2.2.2).mono ?_
      rintro e v1 ⟨hb,q1,k1,rfl,hq1,hk1,hm1,hR1⟩
      have H1:=Lib.hid (show w.heap.size≤q1∧(rr*cc≤k1∧k1≤maxLen)∧Rw ceV 66 v1 q1 (resizeS cc rr x.t.main).flatten from ⟨Nat.le_trans H0.out.size hq1,⟨hk1,hm1⟩,hR1⟩)
      have HW:=Lib.hid (H0.out.trans (hb.mono H0.out.size))
      clear hb hq1 hk1 hm1 hR1
      refine hK.out _ _ trivial (fun hHeld=>?_)
      clear hK K
      try simp only [Act.put,List.getElem_toArray,List.getElem_cons_succ,List.getElem_cons_zero]
      try simp only [List.setIfInBounds_toArray]
      try simp only [List.set_cons_succ]
      try simp only [List.set_cons_zero]
      refine wpAnyH_ready (rs:=[17]) (by kernel_rfl) (by simp) (AllReadyH.cons rfl (fun K hK=>?_) AllReadyH.nil)
      rw [if_pos (by rfl)]
      go_simp
      refine (gridSized (XT.out _ HW.out) HZ.out.ok.go (XR.out _ HW.out).2 HZ.out.on HZ.out.okk.1 HH.out.1 HH.out.2.1 HH.out.2.2.1 HH.out.2.2.2).mono ?_
      rintro e v2 ⟨hb,q2,k2,rfl,hq2,hk2,hm2,hR2⟩
      have H2:=Lib.hid (show Below w.heap.size w v2∧w.heap.size≤q2∧q1≠q2∧(rr*cc≤k2∧k2≤maxLen)∧Rw ceV 66 v2 q1 (resizeS cc rr x.t.main).flatten∧Rw ceV 66 v2 q2 (resizeS cc rr x.t.other).flatten from ⟨HW.out.trans (hb.mono HW.out.size),Nat.le_trans HW.out.size hq2,fun e=>by have:=H1.out.2.2.lt;omega,⟨hk2,hm2⟩,H1.out.2.2.below hb,hR2⟩)
      clear hb hq2 hk2 hm2 hR2
      have R0:=Lib.hid (HZ.out.raw.below H2.out.1)
      have R0:=Lib.hid (show RwG v2 g (ctV x) v2 from ⟨R0.out.blk,rfl,rfl,rfl,Nat.le_refl _,fun _ _ _=>rfl⟩)
      have R1:=Lib.hid (R0.out.sets 15 (g3V cc rr q1 (rr*cc) k1) (by rw [ctV_len HZ.out.ok.tabs];show 15+3≤112;omega))
      obtain ⟨L1,hL1⟩:∃ L1,L1=(ctV x).take 15 ++ (g3V cc rr q1 (rr*cc) k1 ++ (ctV x).drop 18):=⟨_,rfl⟩
      have HL1:=Lib.hid (show L1.length=112 from by rw [hL1];have:=ctV_len HZ.out.ok.tabs;simp [g3V,this])
      have R1:=Lib.hid (show RwG v2 g L1 (v2.setCells g 15 (g3V cc rr q1 (rr*cc) k1)) from by rw [hL1];exact R1.out)
      obtain ⟨L2,hL2⟩:∃ L2,L2=L1.take 18 ++ (g3V cc rr q2 (rr*cc) k2 ++ L1.drop 21):=⟨_,rfl⟩
      have R2:=Lib.hid (show RwG v2 g L2 ((v2.setCells g 15 (g3V cc rr q1 (rr*cc) k1)).setCells g 18 (g3V cc rr q2 (rr*cc) k2)) from by rw [hL2];exact R1.out.sets 18 (g3V cc rr q2 (rr*cc) k2) (by rw [HL1.out];show 18+3≤112;omega))
      have HL2:=Lib.hid (show L2=szL2 x cc rr q1 k1 q2 k2 from by rw [hL2,hL1];rfl)
      have HT0:=Lib.hid (show v2.there g 15 3 from fun j hj=>⟨by rw [cell_of_row _ _ _ _ _ _ R0.out.blk];simp only [List.getElem?_toArray];rw [List.getElem?_eq_getElem (by rw [ctV_len HZ.out.ok.tabs];omega)];rfl,R0.out.fr _⟩)
      have HT1:=Lib.hid (show (v2.setCells g 15 (g3V cc rr q1 (rr*cc) k1)).there g 18 3 from fun j hj=>⟨by rw [cell_of_row _ _ _ _ _ _ R1.out.blk];simp only [List.getElem?_toArray];rw [List.getElem?_eq_getElem (by rw [HL1.out];omega)];rfl,R1.out.fr _⟩)
      clear hL1 hL2
      refine hK.out _ _ trivial (fun hHeld=>?_)
      clear hK K
      try simp only [Act.put,List.getElem_toArray,List.getElem_cons_succ,List.getElem_cons_zero]
      try simp only [List.setIfInBounds_toArray]
      try simp only [List.set_cons_succ]
      try simp only [List.set_cons_zero]
      refine tkH 18 (.pointer (some ⟨g,0,none⟩)) rfl (.inl ⟨by rfl,fun wz hSz=>?_⟩) hHeld ?_
      · go_simp
      simp only [Act.put,List.getElem_toArray,List.getElem_cons_succ,List.getElem_cons_zero,List.setIfInBounds_toArray,List.set_cons_succ,List.set_cons_zero]
      refine tkH 19 (.pointer (some ⟨g,1,none⟩)) rfl (.inl ⟨by rfl,fun wz hSz=>?_⟩) hHeld ?_
      · go_simp
      simp only [Act.put,List.getElem_toArray,List.getElem_cons_succ,List.getElem_cons_zero,List.setIfInBounds_toArray,List.set_cons_succ,List.set_cons_zero]
      refine tkH 20 (.pointer (some ⟨g,15,none⟩)) rfl (.inl ⟨by rfl,fun wz hSz=>?_⟩) hHeld ?_
      · go_simp
      simp only [Act.put,List.getElem_toArray,List.getElem_cons_succ,List.getElem_cons_zero,List.setIfInBounds_toArray,List.set_cons_succ,List.set_cons_zero]
      refine wpAnyH_ready (rs:=[21]) (by kernel_rfl) (by simp) (AllReadyH.cons rfl (fun K hK=>?_) AllReadyH.nil)
      rw [if_pos (by rfl)]
      refine wp_store_mid 26 (.tmp 40) (.tmp 29) rfl g 15 (g3V cc rr q1 (rr*cc) k1).toArray rfl rfl HT0.out info26 (g3V_one _ _ _ _ _) ?_
      refine hK.out _ _ trivial (fun hHeld=>?_)
      clear hK K
      try simp only [Act.put,List.getElem_toArray,List.getElem_cons_succ,List.getElem_cons_zero]
      try simp only [List.setIfInBounds_toArray]
      try simp only [List.set_cons_succ]
      try simp only [List.set_cons_zero]
      refine tkH 22 (.pointer (some ⟨g,0,none⟩)) rfl (.inl ⟨by rfl,fun wz hSz=>?_⟩) hHeld ?_
      · go_simp
      simp only [Act.put,List.getElem_toArray,List.getElem_cons_succ,List.getElem_cons_zero,List.setIfInBounds_toArray,List.set_cons_succ,List.set_cons_zero]
      refine tkH 23 (.pointer (some ⟨g,1,none⟩)) rfl (.inl ⟨by rfl,fun wz hSz=>?_⟩) hHeld ?_
      · go_simp
      simp only [Act.put,List.getElem_toArray,List.getElem_cons_succ,List.getElem_cons_zero,List.setIfInBounds_toArray,List.set_cons_succ,List.set_cons_zero]
      refine tkH 24 (.pointer (some ⟨g,18,none⟩)) rfl (.inl ⟨by rfl,fun wz hSz=>?_⟩) hHeld ?_
      · go_simp
      simp only [Act.put,List.getElem_toArray,List.getElem_cons_succ,List.getElem_cons_zero,List.setIfInBounds_toArray,List.set_cons_succ,List.set_cons_zero]
      refine wpAnyH_ready (rs:=[25]) (by kernel_rfl) (by simp) (AllReadyH.cons rfl (fun K hK=>?_) AllReadyH.nil)
      rw [if_pos (by rfl)]
      refine wp_store_mid 26 (.tmp 43) (.tmp 37) rfl g 18 (g3V cc rr q2 (rr*cc) k2).toArray rfl rfl HT1.out info26 (g3V_one _ _ _ _ _) ?_
      refine hK.out _ _ trivial (fun hHeld=>?_)
      clear hK K
      try simp only [Act.put,List.getElem_toArray,List.getElem_cons_succ,List.getElem_cons_zero]
      try simp only [List.setIfInBounds_toArray]
      try simp only [List.set_cons_succ]
      try simp only [List.set_cons_zero]
      refine wpAnyH_done (by kernel_rfl) ?_ _
      refine NoPanic.normal ?_
      refine meetR_end (by assumption) (by assumption) ?_
      (repeat apply Exists.intro)
      refine ⟨?rel,rfl⟩
      case rel=>exact ⟨q1,k1,q2,k2,L2,v2,H2.out.1,H1.out.1,H2.out.2.1,H2.out.2.2.1,H1.out.2.1,H2.out.2.2.2.1,H2.out.2.2.2.2.1,H2.out.2.2.2.2.2,HL2.out,R2.out⟩
   case rest =>
    obtain ⟨q1,k1,q2,k2,L,v2,hb2,hq1,hq2,hne,hk1,hk2,hr1,hr2,hL,hR⟩:=hcut
    have HX:=Lib.hid (And.intro hb2 (And.intro hq1 (And.intro hq2 (And.intro hne (And.intro hk1 (And.intro hk2 (And.intro hr1 hr2)))))))
    have HL:=Lib.hid hL
    have HR:=Lib.hid hR
    clear hb2 hq1 hq2 hne hk1 hk2 hr1 hr2 hL hR H0
    have HLi:=Lib.hid (show L[1]?=some (.int .i64 x.t.now.x)∧L[2]?=some (.int .i64 x.t.now.y)∧L[15]?=some (.int .i64 cc)∧L[16]?=some (.int .i64 rr)∧L[22]?=some (.bool x.t.full)∧L[23]?=some (.int .i64 x.t.top)∧L[24]?=some (.int .i64 x.t.bot)∧L.length=112 from by
     rw [HL.out]
     obtain ⟨a1,a2,a3,a4,a5,a6,a7⟩:=szL2_at x cc rr q1 k1 q2 k2
     exact ⟨a1,a2,a3,a4,a5,a6,a7,szL2_len x HZ.out.ok.tabs cc rr q1 k1 q2 k2⟩)
    go_wp2_with fail
    refine (cutCursor_raw HR.out HLi.out.1 HLi.out.2.1 HLi.out.2.2.1 HLi.out.2.2.2.1 (by have:=HH.out;omega) (by have:=HH.out;omega)).mono ?_
    rintro e w6 ⟨rfl,h6⟩
    have R6:=Lib.hid h6
    clear h6 HR
    have c22:w6.cell? ⟨g,22,none⟩=some (.bool x.t.full):=R6.out.cell (by rw [List.getElem?_set_ne (by decide),List.getElem?_set_ne (by decide)];exact HLi.out.2.2.2.2.1)
    have f22:w6.frozen? ⟨g,22,none⟩=false:=R6.out.fr 22
    have R7:=Lib.hid (R6.out.set 22 (.bool false))
    have H7:=Lib.hid (freeMargins_raw (X:=x.t.top) (Y:=x.t.bot) (R:=(rr:Int)) R7.out (by rw [List.getElem?_set_ne (by decide),List.getElem?_set_ne (by decide),List.getElem?_set_ne (by decide)];exact HLi.out.2.2.2.1) (by rw [List.getElem?_set_ne (by decide),List.getElem?_set_ne (by decide),List.getElem?_set_ne (by decide)];exact HLi.out.2.2.2.2.2.1) (by rw [List.getElem?_set_ne (by decide),List.getElem?_set_ne (by decide),List.getElem?_set_ne (by decide)];exact HLi.out.2.2.2.2.2.2.1) (by have:=HH.out;omega))
    go_wp2_with fail
    refine H7.out.mono ?_
    rintro e w7 ⟨rfl,h7⟩
    have R8:=Lib.hid h7
    clear h7 H7 R7 c22 f22 R6
    go_wp2_with fail
    refine (firstTabs_any w7).mono ?_
    rintro e w8 ⟨rfl,hb8⟩
    have R9:=Lib.hid (R8.out.below hb8)
    clear R8 hb8
    have HTH:=Lib.hid (show w8.there g 29 80 from fun j hj=>⟨by rw [cell_of_row _ _ _ _ _ _ R9.out.blk];simp only [List.getElem?_toArray];rw [List.getElem?_eq_getElem (by simp only [List.length_set];rw [HLi.out.2.2.2.2.2.2.2];omega)];rfl,R9.out.fr _⟩)
    have R10:=Lib.hid (show RwG v2 g (szL x cc rr q1 k1 q2 k2) (w8.setCells g 29 (tabs0.map Value.bool)) from by
     have h:=R9.out.sets 29 (tabs0.map Value.bool) (by simp only [List.length_set];rw [HLi.out.2.2.2.2.2.2.2];decide)
     rw [show 29+(tabs0.map Value.bool).length=109 from by decide] at h
     unfold szL szL4
     rw [← HL.out]
     exact h)
    clear R9
    go_wp2_with (refine wpList_store_mid rfl 34 (.tmp 56) (.tmp 53) rfl g 29 (tabs0.map Value.bool).toArray rfl rfl HTH.out (by kernel_rfl) (by decide +kernel) ?_)
    go_ret
    refine .inl ⟨HS.out,rfl,x.sized cc rr q1 k1 q2 k2,?_⟩
    rw [Int.toNat_natCast,Int.toNat_natCast]
    exact HZ.out.sized HH.out.1 HH.out.2.1 HH.out.2.2.1 HH.out.2.2.2 HX.out.1 HX.out.2.1 HX.out.2.2.1 HX.out.2.2.2.1 HX.out.2.2.2.2.1 HX.out.2.2.2.2.2.1 HX.out.2.2.2.2.2.2.1 HX.out.2.2.2.2.2.2.2 R10.out
end
end Go.Proofs.YtlcipgdnpilkfaaGreatDoor
