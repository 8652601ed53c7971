/-
  Part 27 of what the laws of emul want: RowsApC, RowsNum.
-/
import Derived.LoopTactic
import Derived.Test.YtikhknnhmnopbaaGreatDoorPm01
import Derived.Test.YtikhknnhmnopbaaGreatDoorPm19
import Derived.Test.YtikhknnhmnopbaaGreatDoorPm22
import Derived.Test.YtikhknnhmnopbaaGreatDoorPm26
namespace Go.Proofs.YtikhknnhmnopbaaGreatDoor
open Go.RowKit
def ApEnd (A:Sc) (d:List Int) (w:World) (e:Ending) (w':World):Prop :=
 Below w.heap.size w w'∧∃ s',e=.returned (.tuple #[.agg (scrA s'),.int .i64 (applyS A d).2])∧ScOwn w.heap.size w' s' (applyS A d).1
def TdOk (base:Nat) (A:Sc) (d:List Int) (w:World) (s':ScR) (E:Int):Prop :=
 (E=0∧∃ S',ScOwn base w s' S'∧applyS A d=if fitsS S'=true then (S',0) else (scZero,3))∨(E≠0∧applyS A d=(scZero,E))
theorem TdOk.below {base:Nat} {A:Sc} {d:List Int} {w w':World} {s':ScR} {E:Int} (h:TdOk base A d w s' E) (hb:Below w.heap.size w w'):TdOk base A d w' s' E:=by
 rcases h with ⟨h1,S',h2,h3⟩ | h
 · exact .inl ⟨h1,S',h2.below hb,h3⟩
 · exact .inr h
theorem TdOk.box {base:Nat} {A:Sc} {d:List Int} {w w':World} {s' s0:ScR} {E:Int} {g:Nat} (h:TdOk base A d w s' E) (hR:Sx w g s0) (hg:w.grownBy w' (some g)):TdOk base A d w' s' E:=by
 rcases h with ⟨h1,S',h2,h3⟩ | h
 · exact .inl ⟨h1,S',h2.box hR hg,h3⟩
 · exact .inr h
theorem Rd.lower {t:TypeId} {base B:Nat} {w:World} {r:Nat} {A:Option Addr} {n c:Nat} {zs:List Int} {e:Int} (h:Rd t base w r A n c zs e) (hB:B≤base):Rd t B w r A n c zs e :=
 ⟨h.blk,h.sb,h.le,h.max,Nat.le_trans hB h.lo,fun ad hA=>⟨Nat.le_trans hB (h.at_ ad hA).1,(h.at_ ad hA).2⟩⟩
set_option maxHeartbeats 12800000 in
set_option maxRecDepth 100000 in
theorem cApply_any {w:World} {sa:ScR} {A:Sc} {dA:Option Addr} {dn dc:Nat} {d:List Int} (hT:Tabs w) (hI:Got w sa A) (hd:Sb w dA dn d) (h8:U8s d) (hl:dn≤1000000) :
  Calls Tryz.prog 9 #[.agg (scrA sa),.slice dA dn dc] w (ApEnd A d w):=by
 have HT:=Lib.hid (fun w' (hb':Below w.heap.size w w')=>hT.below hb' (Nat.le_refl _))
 have HT0:=Lib.hid hT
 have HI:=Lib.hid hI
 have HD:=Lib.hid (And.intro hd (And.intro h8 hl))
 obtain ⟨b,hb⟩:∃ b,b=w.heap.size:=⟨_,rfl⟩
 obtain ⟨w1,hw1⟩:∃ w1,w1=(w.alloc (.cells (scrA sa) 25)).alloc (.cells (scrA scN) 25):=⟨_,rfl⟩
 have H1:=Lib.hid (show Bx2 b sa scN w1∧Below w.heap.size w w1∧w.heap.size≤b from by
  have h1:=Sx.new w sa
  have h2:=Sx.new (w.alloc (.cells (scrA sa) 25)) scN
  rw [World.size_alloc] at h2
  rw [hb,hw1]
  exact ⟨⟨h1.below ((Below.refl _ _).alloc (Nat.le_refl _) _),h2⟩,((Below.refl _ _).alloc (Nat.le_refl _) _).alloc (by simp) _,Nat.le_refl _⟩)
 have HB:=Lib.hid H1.out.2.2
 have PF:=Lib.hid (cFits_any (HT.out _ H1.out.2.1) (hI.sc.below H1.out.2.1) hI.n hI.m)
 obtain ⟨a0,a1,a2,a3,a4,a5,a6,a7,a8,_⟩:=sx_cells H1.out.1.b1
 clear hT hI hd h8 hl
 unfold scrA at PF
 unfold scrA scN at hw1
 dsimp only at hw1
 unfold scrA
 go_enter Tryz.func9,Tryz.ntmps9
 go_upto_region 1 with fail
 rw [← hw1,← hb]
 clear hw1 hb
 go_wp2_with fail
 refine PF.out.mono ?_
 rintro e w2 ⟨rfl,hb2⟩
 have H2:=Lib.hid (show Bx2 b sa scN w2∧Below w.heap.size w w2 from ⟨⟨H1.out.1.b1.below hb2,H1.out.1.b2.below hb2⟩,H1.out.2.1.trans (hb2.mono H1.out.2.1.size)⟩)
 clear hb2 H1 PF a0 a1 a2 a3 a4 a5 a6 a7 a8
 cases hF:fitsS A
 · have HX:=Lib.hid (app_1 (d:=d) hF)
   clear hF
   go_wp2_with (refine wpList_store_V rfl 25 (.tmp 4) (.tmp 11) rfl scF_len one_sc info56 (b+1) _ 0 scN _ rfl (by omega) rfl rfl 25 [scN] H2.out.1.b2 (by decide) ?_;intro w7 hR7 hg7)
   have HE:=Lib.hid (show Below w.heap.size w w7 from H2.out.2.grown hg7 H2.out.2.size (fun k hk=>by injection hk with hk;have:=HB.out;omega))
   obtain ⟨y0,y1,y2,y3,y4,y5,y6,y7,y8,_⟩:=sx_cells (s:=scN) hR7
   exact bodyPost_ret (v:=.tuple #[.agg (scrA scN),.int .i64 1]) (by simp [results,Tryz.results9,scrA,scN,go_sem,y0,y1,y2,y3,y4,y5,y6,y7,y8]) rfl ⟨HE.out,scN,by rw [HX.out],by rw [HX.out];exact zero_own _ _⟩
 obtain ⟨c,rr,BL,hA⟩:=fits_of hF HI.out.pos
 have HA:=Lib.hid (And.intro hA hF)
 clear hA hF
 have PN:=Lib.hid (fun (w':World) (hb:Below w.heap.size w w')=>new_any (c:=dc) (HD.out.1.below hb) (by have:=HD.out.2.2;omega))
 have PT:=Lib.hid (fun (w':World) (r:Nat) (hb:Below w.heap.size w w') (hr:Rz w.heap.size r d 0 w')=>told_any (c:=c) (rr:=rr) (BL:=BL) HT0.out HI.out.sc hb HA.out.1 HA.out.2 hr)
 have SX:=Lib.hid (show ∀ w',Below w2.heap.size w2 w'→(Below w2.heap.size w2 w'∧(w'.cell? ⟨b,0,none⟩=some (.int .i64 sa.c)∧w'.cell? ⟨b,1,none⟩=some (.int .i64 sa.r)∧w'.cell? ⟨b,2,none⟩=some (.slice sa.A sa.n sa.k)∧w'.cell? ⟨b,3,none⟩=some (.int .i64 sa.x)∧w'.cell? ⟨b,4,none⟩=some (.int .i64 sa.y)∧w'.cell? ⟨b,5,none⟩=some (.bool sa.hid)∧w'.cell? ⟨b,6,none⟩=some (.int .u8 sa.mouse)∧w'.cell? ⟨b,7,none⟩=some (.string sa.ttl)∧w'.cell? ⟨b,8,none⟩=some (.slice sa.T sa.m sa.q))) from fun w' hb=>by
  have t0:=sx_cells (H2.out.1.b1.below hb)
  exact ⟨hb,t0.c0,t0.c1,t0.c2,t0.c3,t0.c4,t0.c5,t0.c6,t0.c7,t0.c8⟩)
 unfold scrA at PT
 go_upto_region 3 with fail
 go_cut [6,7] (fun v6 v7 wc=>∃ (b6:Nat) (s':ScR) (E:Int),v6=.pointer (some ⟨b6,0,none⟩)∧v7=.int .i64 E∧Bx2 b sa scN wc∧Below w.heap.size w wc∧Sx wc b6 s'∧TdOk w.heap.size A d wc s' E)
 case first =>
  have hS0:∀ w',Sx w' b sa→(w'.cell? ⟨b,0,none⟩=some (.int .i64 sa.c)∧w'.cell? ⟨b,1,none⟩=some (.int .i64 sa.r)∧w'.cell? ⟨b,2,none⟩=some (.slice sa.A sa.n sa.k)∧w'.cell? ⟨b,3,none⟩=some (.int .i64 sa.x)∧w'.cell? ⟨b,4,none⟩=some (.int .i64 sa.y)∧w'.cell? ⟨b,5,none⟩=some (.bool sa.hid)∧w'.cell? ⟨b,6,none⟩=some (.int .u8 sa.mouse)∧w'.cell? ⟨b,7,none⟩=some (.string sa.ttl)∧w'.cell? ⟨b,8,none⟩=some (.slice sa.T sa.m sa.q)):=fun w' h=>by
   have t0:=sx_cells h
   exact ⟨t0.c0,t0.c1,t0.c2,t0.c3,t0.c4,t0.c5,t0.c6,t0.c7,t0.c8⟩
  have SY:=Lib.hid hS0
  clear hS0 SX
  refine wp_region_noPanic ?_
  refine wp_region_held_drew (S:=fun w'=>w'.cell? ⟨b,0,none⟩=some (.int .i64 sa.c)∧w'.cell? ⟨b,1,none⟩=some (.int .i64 sa.r)∧w'.cell? ⟨b,2,none⟩=some (.slice sa.A sa.n sa.k)∧w'.cell? ⟨b,3,none⟩=some (.int .i64 sa.x)∧w'.cell? ⟨b,4,none⟩=some (.int .i64 sa.y)∧w'.cell? ⟨b,5,none⟩=some (.bool sa.hid)∧w'.cell? ⟨b,6,none⟩=some (.int .u8 sa.mouse)∧w'.cell? ⟨b,7,none⟩=some (.string sa.ttl)∧w'.cell? ⟨b,8,none⟩=some (.slice sa.T sa.m sa.q)) (by kernel_rfl) (SY.out _ (H2.out.1.b1.below (Below.refl _ _).drew)) (fun hHeld=>?_)
  refine tkH 0 (.agg #[.int .i64 sa.c,.int .i64 sa.r,.slice sa.A sa.n sa.k,.int .i64 sa.x,.int .i64 sa.y,.bool sa.hid,.int .u8 sa.mouse,.string sa.ttl,.slice sa.T sa.m sa.q]) rfl (.inl ⟨by rfl,fun wz hSz=>?_⟩) hHeld ?_
  · obtain ⟨e0,e1,e2,e3,e4,e5,e6,e7,e8⟩:=hSz
    go_simp
  simp only [Act.put,List.getElem_toArray,List.getElem_cons_zero,List.setIfInBounds_toArray,List.set_cons_succ,List.set_cons_zero]
  refine tkH 1 (.slice dA dn dc) rfl (.inl ⟨by rfl,fun wz hSz=>?_⟩) hHeld ?_
  · go_simp
  simp only [Act.put,List.getElem_toArray,List.getElem_cons_succ,List.getElem_cons_zero,List.setIfInBounds_toArray,List.set_cons_succ,List.set_cons_zero]
  obtain ⟨w10,hw10⟩:∃ q,q=w2.drew:=⟨_,rfl⟩
  have H10:=Lib.hid (show Bx2 b sa scN w10∧Below w.heap.size w w10 from by
   have hbb:Below w2.heap.size w2 w10:=by rw [hw10];exact (Below.refl _ _).drew
   exact ⟨⟨H2.out.1.b1.below hbb,H2.out.1.b2.below hbb⟩,H2.out.2.trans (hbb.mono H2.out.2.size)⟩)
  rw [← hw10] at hHeld ⊢
  clear hw10
  refine wpAnyH_ready (rs:=[2,7]) (by kernel_rfl) (by simp) (AllReadyH.cons rfl (fun K hK=>?_) (AllReadyH.cons rfl (fun K hK=>?_) AllReadyH.nil))
  · rw [if_pos (by rfl)]
    go_simp
    refine (PN.out _ H10.out.2).mono ?_
    rintro e w11 ⟨r,rA,rn,rc,rfl,hrd,hbz⟩
    have H11:=Lib.hid (show Bx2 b sa scN w11∧Below w.heap.size w w11∧Rz w.heap.size r d 0 w11 from ⟨⟨H10.out.1.b1.below hbz,H10.out.1.b2.below hbz⟩,H10.out.2.trans (hbz.mono H10.out.2.size),⟨⟨rA,rn,rc,hrd.lower H10.out.2.size⟩,HD.out.2.1,by have h1:=HD.out.1.len;have h2:=HD.out.2.2;omega⟩⟩)
    clear hrd hbz
    refine hK.out _ _ (SY.out _ H11.out.1.b1) (fun hHeld=>?_)
    clear hK K H10
    try simp only [Act.put,List.getElem_toArray,List.getElem_cons_succ,List.getElem_cons_zero]
    try simp only [List.setIfInBounds_toArray]
    try simp only [List.set_cons_succ]
    try simp only [List.set_cons_zero]
    refine wpAnyH_ready (rs:=[3,7]) (by kernel_rfl) (by simp) (AllReadyH.cons rfl (fun K hK=>?_) (AllReadyH.cons rfl (fun K hK=>?_) AllReadyH.nil))
    · rw [if_pos (by rfl)]
      go_simp
      refine (PT.out _ _ H11.out.2.1 H11.out.2.2).mono ?_
      rintro e w12 ⟨hfr,s',E,rfl,htd⟩
      have hnb:b≠r∧b+1≠r:=by
       obtain ⟨A5,n5,c5,hrd⟩:=H11.out.2.2.rd
       have h1:=hrd.blk
       constructor
       · intro e
         obtain ⟨q,h2⟩:=H11.out.1.b1
         rw [e,h1] at h2
         injection h2 with h2
         injection h2 with _ h2
         exact absurd h2 (by decide)
       · intro e
         obtain ⟨q,h2⟩:=H11.out.1.b2
         rw [e,h1] at h2
         injection h2 with h2
         injection h2 with _ h2
         exact absurd h2 (by decide)
      have H12:=Lib.hid (show Bx2 b sa scN w12∧Below w.heap.size w w12∧TdOk w.heap.size A d w12 s' E from ⟨⟨H11.out.1.b1.grown hfr.gr (fun e=>by injection e with e;exact hnb.1 e.symm),H11.out.1.b2.grown hfr.gr (fun e=>by injection e with e;exact hnb.2 e.symm)⟩,H11.out.2.1.trans (hfr.bel.mono (Nat.le_refl _)),htd⟩)
      clear hfr htd hnb
      refine hK.out _ _ (SY.out _ H12.out.1.b1) (fun hHeld=>?_)
      clear hK K H11
      try simp only [Act.put,List.getElem_toArray,List.getElem_cons_succ,List.getElem_cons_zero]
      try simp only [List.setIfInBounds_toArray]
      try simp only [List.set_cons_succ]
      try simp only [List.set_cons_zero]
      refine tkH 4 (.tuple #[.agg (scrA s'),.int .i64 E]) rfl (.inl ⟨by rfl,fun wz hSz=>?_⟩) hHeld ?_
      · go_simp
      simp only [Act.put,List.getElem_toArray,List.getElem_cons_succ,List.getElem_cons_zero,List.setIfInBounds_toArray,List.set_cons_succ,List.set_cons_zero]
      refine tkH 5 (.agg (scrA s')) rfl (.inl ⟨by rfl,fun wz hSz=>?_⟩) hHeld ?_
      · go_simp
      simp only [Act.put,List.getElem_toArray,List.getElem_cons_succ,List.getElem_cons_zero,List.setIfInBounds_toArray,List.set_cons_succ,List.set_cons_zero]
      refine tkH 6 (.int .i64 E) rfl (.inl ⟨by rfl,fun wz hSz=>?_⟩) hHeld ?_
      · go_simp
      simp only [Act.put,List.getElem_toArray,List.getElem_cons_succ,List.getElem_cons_zero,List.setIfInBounds_toArray,List.set_cons_succ,List.set_cons_zero]
      refine wpAnyH_ready (rs:=[7]) (by kernel_rfl) (by simp) (AllReadyH.cons rfl (fun K hK=>?_) AllReadyH.nil)
      · rw [if_pos (by rfl)]
        go_simp
        obtain ⟨b6,hb6⟩:∃ q,q=w12.heap.size:=⟨_,rfl⟩
        obtain ⟨w13,hw13⟩:∃ q,q=w12.alloc (.cells #[.int .i64 0,.int .i64 0,.slice none 0 0,.int .i64 0,.int .i64 0,.bool false,.int .u8 0,.string ⟨#[]⟩,.slice none 0 0] 25):=⟨_,rfl⟩
        have H13:=Lib.hid (show Bx2 b sa scN w13∧Below w.heap.size w w13∧TdOk w.heap.size A d w13 s' E∧Sx w13 b6 scN∧w.heap.size≤b6∧(b6≠b+1∧b6≠b) from by
         have hbz:Below w12.heap.size w12 w13:=by rw [hw13];exact (Below.refl _ _).alloc (Nat.le_refl _) _
         exact ⟨⟨H12.out.1.b1.below hbz,H12.out.1.b2.below hbz⟩,H12.out.2.1.trans (hbz.mono H12.out.2.1.size),H12.out.2.2.below hbz,by rw [hw13,hb6];exact Sx.new w12 scN,by rw [hb6];exact H12.out.2.1.size,by have h1:=H12.out.1.b2.lt;have h2:=H12.out.1.b1.lt;omega⟩)
        rw [← hw13,← hb6]
        clear hw13 hb6
        refine hK.out _ _ (SY.out _ H13.out.1.b1) (fun hHeld=>?_)
        clear hK K H12
        try simp only [Act.put,List.getElem_toArray,List.getElem_cons_succ,List.getElem_cons_zero]
        try simp only [List.setIfInBounds_toArray]
        try simp only [List.set_cons_succ]
        try simp only [List.set_cons_zero]
        refine wpAnyH_ready (rs:=[8]) (by kernel_rfl) (by simp) (AllReadyH.cons rfl (fun K hK=>?_) AllReadyH.nil)
        rw [if_pos (by rfl)]
        refine wp_store_S (.tmp 6) (.tmp 17) rfl b6 scN s' rfl rfl H13.out.2.2.2.1 ?_
        intro w14 hsx hgx
        have H14:=Lib.hid (show Bx2 b sa scN w14∧Below w.heap.size w w14∧Sx w14 b6 s'∧TdOk w.heap.size A d w14 s' E from ⟨⟨H13.out.1.b1.grown hgx (fun e=>by injection e with e;exact H13.out.2.2.2.2.2.2 e),H13.out.1.b2.grown hgx (fun e=>by injection e with e;exact H13.out.2.2.2.2.2.1 e)⟩,H13.out.2.1.grown hgx H13.out.2.1.size (fun k hk=>by injection hk with hk;have:=H13.out.2.2.2.2.1;omega),hsx,H13.out.2.2.1.box H13.out.2.2.2.1 hgx⟩)
        clear hsx hgx
        refine hK.out _ _ (SY.out _ H14.out.1.b1) (fun hHeld=>?_)
        clear hK K H13
        try simp only [Act.put,List.getElem_toArray,List.getElem_cons_succ,List.getElem_cons_zero]
        try simp only [List.setIfInBounds_toArray]
        try simp only [List.set_cons_succ]
        try simp only [List.set_cons_zero]
        refine tkH 9 (.int .i64 E) rfl (.inl ⟨by rfl,fun wz hSz=>?_⟩) hHeld ?_
        · go_simp
        simp only [Act.put,List.getElem_toArray,List.getElem_cons_succ,List.getElem_cons_zero,List.setIfInBounds_toArray,List.set_cons_succ,List.set_cons_zero]
        refine wpAnyH_done (by kernel_rfl) ?_ _
        refine NoPanic.normal ?_
        try go_wp2_with fail
        go_meet
        case rel=>exact ⟨b6,s',E,rfl,rfl,H14.out.1,H14.out.2.1,H14.out.2.2.1,H14.out.2.2.2⟩
    · rw [if_pos (by rfl)]
      go_simp
      obtain ⟨b6,hb6⟩:∃ q,q=w11.heap.size:=⟨_,rfl⟩
      obtain ⟨w12,hw12⟩:∃ q,q=w11.alloc (.cells #[.int .i64 0,.int .i64 0,.slice none 0 0,.int .i64 0,.int .i64 0,.bool false,.int .u8 0,.string ⟨#[]⟩,.slice none 0 0] 25):=⟨_,rfl⟩
      have H12:=Lib.hid (show Bx2 b sa scN w12∧Below w.heap.size w w12∧Rz w.heap.size r d 0 w12∧Sx w12 b6 scN∧w.heap.size≤b6∧(b6≠b+1∧b6≠b)∧b6≠r from by
       have hbz:Below w11.heap.size w11 w12:=by rw [hw12];exact (Below.refl _ _).alloc (Nat.le_refl _) _
       exact ⟨⟨H11.out.1.b1.below hbz,H11.out.1.b2.below hbz⟩,H11.out.2.1.trans (hbz.mono H11.out.2.1.size),H11.out.2.2.below hbz,by rw [hw12,hb6];exact Sx.new w11 scN,by rw [hb6];exact H11.out.2.1.size,by have h1:=H11.out.1.b2.lt;have h2:=H11.out.1.b1.lt;omega,by have:=H11.out.2.2.lt;omega⟩)
      rw [← hw12,← hb6]
      clear hw12 hb6
      refine hK.out _ _ (SY.out _ H12.out.1.b1) (fun hHeld=>?_)
      clear hK K H11
      try simp only [Act.put,List.getElem_toArray,List.getElem_cons_succ,List.getElem_cons_zero]
      try simp only [List.setIfInBounds_toArray]
      try simp only [List.set_cons_succ]
      try simp only [List.set_cons_zero]
      refine wpAnyH_ready (rs:=[3]) (by kernel_rfl) (by simp) (AllReadyH.cons rfl (fun K hK=>?_) AllReadyH.nil)
      · rw [if_pos (by rfl)]
        go_simp
        refine (PT.out _ _ H12.out.2.1 H12.out.2.2.1).mono ?_
        rintro e w13 ⟨hfr,s',E,rfl,htd⟩
        have hnb:b≠r∧b+1≠r:=by
         obtain ⟨A5,n5,c5,hrd⟩:=H12.out.2.2.1.rd
         have h1:=hrd.blk
         constructor
         · intro e
           obtain ⟨q,h2⟩:=H12.out.1.b1
           rw [e,h1] at h2
           injection h2 with h2
           injection h2 with _ h2
           exact absurd h2 (by decide)
         · intro e
           obtain ⟨q,h2⟩:=H12.out.1.b2
           rw [e,h1] at h2
           injection h2 with h2
           injection h2 with _ h2
           exact absurd h2 (by decide)
        have H13:=Lib.hid (show Bx2 b sa scN w13∧Below w.heap.size w w13∧TdOk w.heap.size A d w13 s' E∧Sx w13 b6 scN∧w.heap.size≤b6∧(b6≠b+1∧b6≠b) from ⟨⟨H12.out.1.b1.grown hfr.gr (fun e=>by injection e with e;exact hnb.1 e.symm),H12.out.1.b2.grown hfr.gr (fun e=>by injection e with e;exact hnb.2 e.symm)⟩,H12.out.2.1.trans (hfr.bel.mono (Nat.le_refl _)),htd,H12.out.2.2.2.1.grown hfr.gr (fun e=>by injection e with e;exact H12.out.2.2.2.2.2.2 e.symm),H12.out.2.2.2.2.1,H12.out.2.2.2.2.2.1⟩)
        clear hfr htd hnb
        refine hK.out _ _ (SY.out _ H13.out.1.b1) (fun hHeld=>?_)
        clear hK K H12
        try simp only [Act.put,List.getElem_toArray,List.getElem_cons_succ,List.getElem_cons_zero]
        try simp only [List.setIfInBounds_toArray]
        try simp only [List.set_cons_succ]
        try simp only [List.set_cons_zero]
        refine tkH 4 (.tuple #[.agg (scrA s'),.int .i64 E]) rfl (.inl ⟨by rfl,fun wz hSz=>?_⟩) hHeld ?_
        · go_simp
        simp only [Act.put,List.getElem_toArray,List.getElem_cons_succ,List.getElem_cons_zero,List.setIfInBounds_toArray,List.set_cons_succ,List.set_cons_zero]
        refine tkH 5 (.agg (scrA s')) rfl (.inl ⟨by rfl,fun wz hSz=>?_⟩) hHeld ?_
        · go_simp
        simp only [Act.put,List.getElem_toArray,List.getElem_cons_succ,List.getElem_cons_zero,List.setIfInBounds_toArray,List.set_cons_succ,List.set_cons_zero]
        refine tkH 6 (.int .i64 E) rfl (.inl ⟨by rfl,fun wz hSz=>?_⟩) hHeld ?_
        · go_simp
        simp only [Act.put,List.getElem_toArray,List.getElem_cons_succ,List.getElem_cons_zero,List.setIfInBounds_toArray,List.set_cons_succ,List.set_cons_zero]
        refine wpAnyH_ready (rs:=[8]) (by kernel_rfl) (by simp) (AllReadyH.cons rfl (fun K hK=>?_) AllReadyH.nil)
        rw [if_pos (by rfl)]
        refine wp_store_S (.tmp 6) (.tmp 17) rfl b6 scN s' rfl rfl H13.out.2.2.2.1 ?_
        intro w14 hsx hgx
        have H14:=Lib.hid (show Bx2 b sa scN w14∧Below w.heap.size w w14∧Sx w14 b6 s'∧TdOk w.heap.size A d w14 s' E from ⟨⟨H13.out.1.b1.grown hgx (fun e=>by injection e with e;exact H13.out.2.2.2.2.2.2 e),H13.out.1.b2.grown hgx (fun e=>by injection e with e;exact H13.out.2.2.2.2.2.1 e)⟩,H13.out.2.1.grown hgx H13.out.2.1.size (fun k hk=>by injection hk with hk;have:=H13.out.2.2.2.2.1;omega),hsx,H13.out.2.2.1.box H13.out.2.2.2.1 hgx⟩)
        clear hsx hgx
        refine hK.out _ _ (SY.out _ H14.out.1.b1) (fun hHeld=>?_)
        clear hK K H13
        try simp only [Act.put,List.getElem_toArray,List.getElem_cons_succ,List.getElem_cons_zero]
        try simp only [List.setIfInBounds_toArray]
        try simp only [List.set_cons_succ]
        try simp only [List.set_cons_zero]
        refine tkH 9 (.int .i64 E) rfl (.inl ⟨by rfl,fun wz hSz=>?_⟩) hHeld ?_
        · go_simp
        simp only [Act.put,List.getElem_toArray,List.getElem_cons_succ,List.getElem_cons_zero,List.setIfInBounds_toArray,List.set_cons_succ,List.set_cons_zero]
        refine wpAnyH_done (by kernel_rfl) ?_ _
        refine NoPanic.normal ?_
        try go_wp2_with fail
        go_meet
        case rel=>exact ⟨b6,s',E,rfl,rfl,H14.out.1,H14.out.2.1,H14.out.2.2.1,H14.out.2.2.2⟩
  · rw [if_pos (by rfl)]
    go_simp
    obtain ⟨b6,hb6⟩:∃ q,q=w10.heap.size:=⟨_,rfl⟩
    obtain ⟨w11,hw11⟩:∃ q,q=w10.alloc (.cells #[.int .i64 0,.int .i64 0,.slice none 0 0,.int .i64 0,.int .i64 0,.bool false,.int .u8 0,.string ⟨#[]⟩,.slice none 0 0] 25):=⟨_,rfl⟩
    have H11:=Lib.hid (show Bx2 b sa scN w11∧Below w.heap.size w w11∧Sx w11 b6 scN∧w.heap.size≤b6∧(b6≠b+1∧b6≠b) from by
     have hbz:Below w10.heap.size w10 w11:=by rw [hw11];exact (Below.refl _ _).alloc (Nat.le_refl _) _
     exact ⟨⟨H10.out.1.b1.below hbz,H10.out.1.b2.below hbz⟩,H10.out.2.trans (hbz.mono H10.out.2.size),by rw [hw11,hb6];exact Sx.new w10 scN,by rw [hb6];exact H10.out.2.size,by have h1:=H10.out.1.b2.lt;have h2:=H10.out.1.b1.lt;omega⟩)
    rw [← hw11,← hb6]
    clear hw11 hb6
    refine hK.out _ _ (SY.out _ H11.out.1.b1) (fun hHeld=>?_)
    clear hK K H10
    try simp only [Act.put,List.getElem_toArray,List.getElem_cons_succ,List.getElem_cons_zero]
    try simp only [List.setIfInBounds_toArray]
    try simp only [List.set_cons_succ]
    try simp only [List.set_cons_zero]
    refine wpAnyH_ready (rs:=[2]) (by kernel_rfl) (by simp) (AllReadyH.cons rfl (fun K hK=>?_) AllReadyH.nil)
    · rw [if_pos (by rfl)]
      go_simp
      refine (PN.out _ H11.out.2.1).mono ?_
      rintro e w12 ⟨r,rA,rn,rc,rfl,hrd,hbz⟩
      have H12:=Lib.hid (show Bx2 b sa scN w12∧Below w.heap.size w w12∧Rz w.heap.size r d 0 w12∧Sx w12 b6 scN∧w.heap.size≤b6∧(b6≠b+1∧b6≠b)∧b6≠r from ⟨⟨H11.out.1.b1.below hbz,H11.out.1.b2.below hbz⟩,H11.out.2.1.trans (hbz.mono H11.out.2.1.size),⟨⟨rA,rn,rc,hrd.lower H11.out.2.1.size⟩,HD.out.2.1,by have h1:=HD.out.1.len;have h2:=HD.out.2.2;omega⟩,H11.out.2.2.1.below hbz,H11.out.2.2.2.1,H11.out.2.2.2.2,by have h1:=H11.out.2.2.1.lt;have h2:=hrd.lo;have h3:w11.heap.size≤r:=hrd.lo;omega⟩)
      clear hrd hbz
      refine hK.out _ _ (SY.out _ H12.out.1.b1) (fun hHeld=>?_)
      clear hK K H11
      try simp only [Act.put,List.getElem_toArray,List.getElem_cons_succ,List.getElem_cons_zero]
      try simp only [List.setIfInBounds_toArray]
      try simp only [List.set_cons_succ]
      try simp only [List.set_cons_zero]
      refine wpAnyH_ready (rs:=[3]) (by kernel_rfl) (by simp) (AllReadyH.cons rfl (fun K hK=>?_) AllReadyH.nil)
      · rw [if_pos (by rfl)]
        go_simp
        refine (PT.out _ _ H12.out.2.1 H12.out.2.2.1).mono ?_
        rintro e w13 ⟨hfr,s',E,rfl,htd⟩
        have hnb:b≠r∧b+1≠r:=by
         obtain ⟨A5,n5,c5,hrd⟩:=H12.out.2.2.1.rd
         have h1:=hrd.blk
         constructor
         · intro e
           obtain ⟨q,h2⟩:=H12.out.1.b1
           rw [e,h1] at h2
           injection h2 with h2
           injection h2 with _ h2
           exact absurd h2 (by decide)
         · intro e
           obtain ⟨q,h2⟩:=H12.out.1.b2
           rw [e,h1] at h2
           injection h2 with h2
           injection h2 with _ h2
           exact absurd h2 (by decide)
        have H13:=Lib.hid (show Bx2 b sa scN w13∧Below w.heap.size w w13∧TdOk w.heap.size A d w13 s' E∧Sx w13 b6 scN∧w.heap.size≤b6∧(b6≠b+1∧b6≠b) from ⟨⟨H12.out.1.b1.grown hfr.gr (fun e=>by injection e with e;exact hnb.1 e.symm),H12.out.1.b2.grown hfr.gr (fun e=>by injection e with e;exact hnb.2 e.symm)⟩,H12.out.2.1.trans (hfr.bel.mono (Nat.le_refl _)),htd,H12.out.2.2.2.1.grown hfr.gr (fun e=>by injection e with e;exact H12.out.2.2.2.2.2.2 e.symm),H12.out.2.2.2.2.1,H12.out.2.2.2.2.2.1⟩)
        clear hfr htd hnb
        refine hK.out _ _ (SY.out _ H13.out.1.b1) (fun hHeld=>?_)
        clear hK K H12
        try simp only [Act.put,List.getElem_toArray,List.getElem_cons_succ,List.getElem_cons_zero]
        try simp only [List.setIfInBounds_toArray]
        try simp only [List.set_cons_succ]
        try simp only [List.set_cons_zero]
        refine tkH 4 (.tuple #[.agg (scrA s'),.int .i64 E]) rfl (.inl ⟨by rfl,fun wz hSz=>?_⟩) hHeld ?_
        · go_simp
        simp only [Act.put,List.getElem_toArray,List.getElem_cons_succ,List.getElem_cons_zero,List.setIfInBounds_toArray,List.set_cons_succ,List.set_cons_zero]
        refine tkH 5 (.agg (scrA s')) rfl (.inl ⟨by rfl,fun wz hSz=>?_⟩) hHeld ?_
        · go_simp
        simp only [Act.put,List.getElem_toArray,List.getElem_cons_succ,List.getElem_cons_zero,List.setIfInBounds_toArray,List.set_cons_succ,List.set_cons_zero]
        refine tkH 6 (.int .i64 E) rfl (.inl ⟨by rfl,fun wz hSz=>?_⟩) hHeld ?_
        · go_simp
        simp only [Act.put,List.getElem_toArray,List.getElem_cons_succ,List.getElem_cons_zero,List.setIfInBounds_toArray,List.set_cons_succ,List.set_cons_zero]
        refine wpAnyH_ready (rs:=[8]) (by kernel_rfl) (by simp) (AllReadyH.cons rfl (fun K hK=>?_) AllReadyH.nil)
        rw [if_pos (by rfl)]
        refine wp_store_S (.tmp 6) (.tmp 17) rfl b6 scN s' rfl rfl H13.out.2.2.2.1 ?_
        intro w14 hsx hgx
        have H14:=Lib.hid (show Bx2 b sa scN w14∧Below w.heap.size w w14∧Sx w14 b6 s'∧TdOk w.heap.size A d w14 s' E from ⟨⟨H13.out.1.b1.grown hgx (fun e=>by injection e with e;exact H13.out.2.2.2.2.2.2 e),H13.out.1.b2.grown hgx (fun e=>by injection e with e;exact H13.out.2.2.2.2.2.1 e)⟩,H13.out.2.1.grown hgx H13.out.2.1.size (fun k hk=>by injection hk with hk;have:=H13.out.2.2.2.2.1;omega),hsx,H13.out.2.2.1.box H13.out.2.2.2.1 hgx⟩)
        clear hsx hgx
        refine hK.out _ _ (SY.out _ H14.out.1.b1) (fun hHeld=>?_)
        clear hK K H13
        try simp only [Act.put,List.getElem_toArray,List.getElem_cons_succ,List.getElem_cons_zero]
        try simp only [List.setIfInBounds_toArray]
        try simp only [List.set_cons_succ]
        try simp only [List.set_cons_zero]
        refine tkH 9 (.int .i64 E) rfl (.inl ⟨by rfl,fun wz hSz=>?_⟩) hHeld ?_
        · go_simp
        simp only [Act.put,List.getElem_toArray,List.getElem_cons_succ,List.getElem_cons_zero,List.setIfInBounds_toArray,List.set_cons_succ,List.set_cons_zero]
        refine wpAnyH_done (by kernel_rfl) ?_ _
        refine NoPanic.normal ?_
        try go_wp2_with fail
        go_meet
        case rel=>exact ⟨b6,s',E,rfl,rfl,H14.out.1,H14.out.2.1,H14.out.2.2.1,H14.out.2.2.2⟩
 case rest =>
 obtain ⟨b6,s',E,rfl,rfl,h1,h2,h3,h4⟩:=hcut
 have Y:=Lib.hid (show Bx2 b sa scN wc∧Below w.heap.size w wc∧Sx wc b6 s'∧TdOk w.heap.size A d wc s' E from ⟨h1,h2,h3,h4⟩)
 clear h1 h2 h3 h4 H2 PN PT SX
 rcases Y.out.2.2.2 with ⟨hE,S',hS,hap⟩ | ⟨hE,hap⟩
 rotate_left
 · have HAP:=Lib.hid (And.intro hE hap)
   have hEb:(E == 0)=false:=by simpa using hE
   have hEc:(E != 0)=true:=by simpa using hE
   clear hE hap
   go_wp2_with (refine wpList_store_V rfl 25 (.tmp 4) (.tmp 28) rfl scF_len one_sc info56 (b+1) _ 0 scN _ rfl (by omega) rfl rfl 25 [scN] Y.out.1.b2 (by decide) ?_;intro w7 hR7 hg7)
   have HE:=Lib.hid (show Below w.heap.size w w7 from Y.out.2.1.grown hg7 Y.out.2.1.size (fun k hk=>by injection hk with hk;have:=HB.out;omega))
   obtain ⟨y0,y1,y2,y3,y4,y5,y6,y7,y8,_⟩:=sx_cells (s:=scN) hR7
   exact bodyPost_ret (v:=.tuple #[.agg (scrA scN),.int .i64 E]) (by simp [results,Tryz.results9,scrA,scN,go_sem,y0,y1,y2,y3,y4,y5,y6,y7,y8]) rfl ⟨HE.out,scN,by rw [HAP.out.2],by rw [HAP.out.2];exact zero_own _ _⟩
 subst hE
 have HS:=Lib.hid (And.intro hS hap)
 have PF:=Lib.hid (cFits_any (HT.out _ Y.out.2.1) hS.sc (by have:=hS.n;omega) (by have:=hS.m;omega))
 clear hS hap
 obtain ⟨a0,a1,a2,a3,a4,a5,a6,a7,a8,_⟩:=sx_cells Y.out.2.2.1
 unfold scrA at PF
 go_wp2_with fail
 refine PF.out.mono ?_
 rintro e w5 ⟨rfl,hb5⟩
 have H5:=Lib.hid (show Bx2 b sa scN w5∧Below w.heap.size w w5∧Sx w5 b6 s'∧ScOwn w.heap.size w5 s' S' from ⟨⟨Y.out.1.b1.below hb5,Y.out.1.b2.below hb5⟩,Y.out.2.1.trans (hb5.mono Y.out.2.1.size),Y.out.2.2.1.below hb5,HS.out.1.below hb5⟩)
 clear hb5 PF a0 a1 a2 a3 a4 a5 a6 a7 a8
 cases hF:fitsS S'
 · have HAP:=Lib.hid (show applyS A d=(scZero,3) from by rw [HS.out.2,if_neg (by rw [hF];simp)])
   clear hF
   go_wp2_with (refine wpList_store_V rfl 25 (.tmp 4) (.tmp 28) rfl scF_len one_sc info56 (b+1) _ 0 scN _ rfl (by omega) rfl rfl 25 [scN] H5.out.1.b2 (by decide) ?_;intro w7 hR7 hg7)
   have HE:=Lib.hid (show Below w.heap.size w w7 from H5.out.2.1.grown hg7 H5.out.2.1.size (fun k hk=>by injection hk with hk;have:=HB.out;omega))
   obtain ⟨y0,y1,y2,y3,y4,y5,y6,y7,y8,_⟩:=sx_cells (s:=scN) hR7
   exact bodyPost_ret (v:=.tuple #[.agg (scrA scN),.int .i64 3]) (by simp [results,Tryz.results9,scrA,scN,go_sem,y0,y1,y2,y3,y4,y5,y6,y7,y8]) rfl ⟨HE.out,scN,by rw [HAP.out],by rw [HAP.out];exact zero_own _ _⟩
 · have HAP:=Lib.hid (show applyS A d=(S',0) from by rw [HS.out.2,if_pos hF])
   clear hF
   obtain ⟨a0,a1,a2,a3,a4,a5,a6,a7,a8,_⟩:=sx_cells H5.out.2.2.1
   go_wp2_with (refine wpList_store_V rfl 25 (.tmp 4) (.tmp 30) rfl scF_len one_sc info56 (b+1) _ 0 s' _ rfl (by omega) rfl rfl 25 [scN] H5.out.1.b2 (by decide) ?_;intro w7 hR7 hg7)
   have HE:=Lib.hid (show Below w.heap.size w w7∧ScOwn w.heap.size w7 s' S' from ⟨H5.out.2.1.grown hg7 H5.out.2.1.size (fun k hk=>by injection hk with hk;have:=HB.out;omega),H5.out.2.2.2.box H5.out.1.b2 hg7⟩)
   obtain ⟨y0,y1,y2,y3,y4,y5,y6,y7,y8,_⟩:=sx_cells (s:=s') hR7
   exact bodyPost_ret (v:=.tuple #[.agg (scrA s'),.int .i64 0]) (by simp [results,Tryz.results9,scrA,go_sem,y0,y1,y2,y3,y4,y5,y6,y7,y8]) rfl ⟨HE.out.1,s',by rw [HAP.out],by rw [HAP.out];exact HE.out.2⟩
open Go.RowKit
theorem valL_lt:∀ (l:List Int) (acc:Int),U8s l→0≤acc→0≤valL acc l∧valL acc l<(acc+1)*256 ^ l.length
 | [],acc,_,h=>by simp [valL];omega
 | d :: l,acc,h8,h=>by
  have hd:=h8 d (by simp)
  have ih:=valL_lt l (acc*256+d) (fun z hz=>h8 z (by simp [hz])) (by omega)
  refine ⟨ih.1,Int.lt_of_lt_of_le ih.2 ?_⟩
  rw [List.length_cons,Int.pow_succ,Int.mul_comm (256 ^ l.length) 256,← Int.mul_assoc]
  exact Int.mul_le_mul_of_nonneg_right (by omega) (Int.le_of_lt (Int.pow_pos (by omega)))
theorem pow4 {k:Nat} (h:k≤4):(256:Int) ^ k≤4294967296:=by
 have:k=0∨k=1∨k=2∨k=3∨k=4:=by omega
 rcases this with rfl | rfl | rfl | rfl | rfl<;>decide
set_option maxHeartbeats 1600000 in
theorem num16_any {w:World} {A:Option Addr} {n c at_ size:Nat} {zs:List Int} (h:Sb w A n zs) (h8:U8s zs) (hn:n≤140737488355328) (hz:at_+size≤n) (hs:size≤4) :
  Calls Tryz.prog 20 #[.slice A n c,.int .i64 (at_:Int),.int .i64 (size:Int)] w fun e w'=>e=.returned (.int .i64 (valL 0 ((zs.drop at_).take size)))∧w'=w:=by
 have HS:=Lib.hid (And.intro h h8)
 clear h h8
 go_enter Tryz.func20,Tryz.ntmps20
 go_wp2_with fail
 go_loopw [7,8] (fun v i wr=>∃ k:Nat,k≤size∧i=.int .i64 k∧v=.int .i64 (valL 0 ((zs.drop at_).take k))∧wr=w) (fun _ i _=>size-(intOf i).toNat)
 case atStart=>exact ⟨0,Nat.zero_le _,rfl,rfl,rfl⟩
 case round =>
  obtain ⟨k,hk,rfl,rfl,rfl⟩:=hrel
  by_cases hlt:k<size
  · have hkl:(k:Int)<(size:Int):=by omega
    have hln:=HS.out.1.len
    have hdl:k<(zs.drop at_).length:=by rw [List.length_drop];omega
    obtain ⟨z,hzd⟩:∃ z,z=(zs.drop at_).getD k 0:=⟨_,rfl⟩
    obtain ⟨V,hV⟩:∃ V,valL 0 ((zs.drop at_).take k)=V:=⟨_,rfl⟩
    have hV2:valL 0 ((zs.drop at_).take (k+1))=V*256+z:=by rw [take_snoc hdl,valL_append,hV,hzd]
    have hb:=valL_lt ((zs.drop at_).take k) 0 (fun y hy=>HS.out.2 y (List.mem_of_mem_drop (List.mem_of_mem_take hy))) (by omega)
    rw [hV,List.length_take,Nat.min_eq_left (by omega)] at hb
    have hp:=pow4 (k:=k) (by omega)
    have hzb:0≤z∧z≤255:=by rw [hzd,List.getD_eq_getElem?_getD,List.getElem?_eq_getElem hdl];exact HS.out.2 _ (List.mem_of_mem_drop (List.getElem_mem hdl))
    obtain ⟨ad,rfl⟩:=HS.out.1.addr (by omega)
    have hi0:(0:Int)≤(at_:Int)+(k:Int):=by omega
    have hi1:(at_:Int)+(k:Int)<(n:Int):=by omega
    have hcell:=HS.out.1.cell (k:=at_+k) (by omega)
    have hz2:zs.getD (at_+k) 0=z:=by rw [hzd];simp only [List.getD_eq_getElem?_getD,List.getElem?_drop]
    rw [hz2] at hcell
    have hw0:IntKind.i64.wrap z=z:=by rw [IntKind.wrap_i64];omega
    have hw1:IntKind.i64.wrap (V*256)=V*256:=by rw [IntKind.wrap_i64];omega
    have hw2:IntKind.i64.wrap (V*256+z)=V*256+z:=by rw [IntKind.wrap_i64];omega
    have HV2:=Lib.hid hV2
    rw [hV]
    clear hV hV2 hdl hln hzd hz2
    go_wp2_with fail
    go_roundw
    case rel=>exact ⟨k+1,by omega,by go_num,by rw [HV2.out],trivial⟩
    case measure=>simp [intOf];omega
  · have e:k=size:=by omega
    subst e
    go_wp2_with fail
    go_ret
    exact ⟨rfl,rfl⟩
end Go.Proofs.YtikhknnhmnopbaaGreatDoor
