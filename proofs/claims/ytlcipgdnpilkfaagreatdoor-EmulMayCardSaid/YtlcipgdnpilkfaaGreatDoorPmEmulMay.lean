/-
  Proved: EmulMay answers true for every screen, over the tables that the library and the program lay (a tied card).
-/
import Derived.Test.YtlcipgdnpilkfaaGreatDoorCards
import Derived.Test.YtlcipgdnpilkfaaGreatDoorTie
import Derived.SevenTiedAt
import Derived.WalkKit
import Derived.Test.YtlcipgdnpilkfaaGreatDoorPm01
import Derived.Test.YtlcipgdnpilkfaaGreatDoorPm02
import Derived.Test.YtlcipgdnpilkfaaGreatDoorPm49
import Derived.Test.YtlcipgdnpilkfaaGreatDoorPm50
import Derived.Test.YtlcipgdnpilkfaaGreatDoorPm51
namespace Go.Proofs.YtlcipgdnpilkfaaGreatDoor.emulMay
open Go.ChangeShapes Go.WideShapes Go.ChangeAt Go.RowKit
set_option maxHeartbeats 6400000 in
set_option maxRecDepth 100000 in
theorem walk {s:ScR} {S:Sc} (w:World) (hT:Tabs w) (h:ScIn w s S) :
  Calls Tryz.prog 6 #[.agg (scrA s)] w fun e w'=>e=.returned (.bool true)∧Below w.heap.size w w':=by
 have HT:=Lib.hid hT
 have HS:=Lib.hid h
 obtain ⟨b1,hb1⟩:∃ b,b=w.heap.size:=⟨_,rfl⟩
 obtain ⟨w1,hw1⟩:∃ w1,w1=w.alloc (.cells (scrA s) 56):=⟨_,rfl⟩
 have HB1:=Lib.hid (show Below w.heap.size w w1 from by rw [hw1];exact (Below.refl _ _).alloc (Nat.le_refl _) _)
 have HR1:=Lib.hid (show w1.heap[b1]?=some (.cells (scrA s) 56 (0,0))∧ScC w1 b1 s from by rw [hw1,hb1];exact ⟨heap_alloc_new w _,ScC.new w s⟩)
 clear h hT
 obtain ⟨c0,c1,c2,c3,c4,c5,c6,c7,c8,c9⟩:=HR1.out.2
 unfold scrA at hw1 ⊢
 go_enter Tryz.func6,Tryz.ntmps6
 go_upto_region 1 with fail
 rw [← hw1,← hb1]
 clear hw1 hb1
 by_cases hn:s.n≤3000
 case neg =>
  go_wp2_with fail
  refine (fixedE_any (HT.out.below HB1.out (Nat.le_refl _))).mono ?_
  rintro e w5 ⟨rfl,hb5⟩
  have Z:=Lib.hid (HB1.out.trans (hb5.mono HB1.out.size))
  clear hb5
  go_wp2_with fail
  go_ret
  exact ⟨rfl,Z.out⟩
 by_cases ht:s.ttl.size≤1000
 case neg =>
  go_wp2_with fail
  refine (fixedE_any (HT.out.below HB1.out (Nat.le_refl _))).mono ?_
  rintro e w5 ⟨rfl,hb5⟩
  have Z:=Lib.hid (HB1.out.trans (hb5.mono HB1.out.size))
  clear hb5
  go_wp2_with fail
  go_ret
  exact ⟨rfl,Z.out⟩
 by_cases hm:s.m≤1000
 case neg =>
  go_wp2_with fail
  refine (fixedE_any (HT.out.below HB1.out (Nat.le_refl _))).mono ?_
  rintro e w5 ⟨rfl,hb5⟩
  have Z:=Lib.hid (HB1.out.trans (hb5.mono HB1.out.size))
  clear hb5
  go_wp2_with fail
  go_ret
  exact ⟨rfl,Z.out⟩
 go_wp2_with fail
 refine (refCopyS_any (HS.out.below HB1.out) (by omega) (by omega)).mono ?_
 rintro e w2 ⟨hb2,s',rfl,hs',hn',hm'⟩
 have HS2:=Lib.hid (And.intro hs' (And.intro (show s'.n≤60000 by omega) (show s'.m≤60000 by omega)))
 have HB2:=Lib.hid (HB1.out.trans (hb2.mono HB1.out.size))
 have HR2:=Lib.hid (show w2.heap[b1]?=some (.cells (scrA s) 56 (0,0)) from (hb2.block _ c9).trans HR1.out.1)
 have HNM:=Lib.hid (show s.n≤60000∧s.m≤60000 by omega)
 clear hb2 hs' hn' hm' c0 c1 c2 c3 c4 c5 c6 c7 c8 c9
 obtain ⟨b3,hb3⟩:∃ b,b=w2.heap.size:=⟨_,rfl⟩
 obtain ⟨w3,hw3⟩:∃ w',w'=w2.alloc (.cells #[.int .i64 0,.int .i64 0,.slice none 0 0,.int .i64 0,.int .i64 0,.bool false,.int .u8 0,.string ⟨#[]⟩,.slice none 0 0] 56):=⟨_,rfl⟩
 have H3:=Lib.hid (show Sx w3 b3 scN∧Below w2.heap.size w2 w3∧b3=w2.heap.size from ⟨by rw [hw3,hb3];exact Sx.new w2 scN,by rw [hw3];exact (Below.refl _ _).alloc (Nat.le_refl _) _,hb3⟩)
 have hone:(scrA s').all (·.oneCell')=true:=by
  rw [Array.all_eq_true_iff_forall_mem]
  intro v hv
  simp only [scrA,List.mem_toArray,List.mem_cons,List.not_mem_nil,or_false] at hv
  rcases hv with rfl | rfl | rfl | rfl | rfl | rfl | rfl | rfl | rfl<;>rfl
 have HO:=Lib.hid hone
 have H30:=Lib.hid (show w3.heap[b3]?=some (.cells (scrA scN) 56 (0,0)) from by rw [hw3,hb3];exact heap_alloc_new w2 _)
 clear hone
 go_upto_region 4 with (refine wpList_store_row rfl 56 (.tmp 3) (.tmp 22) rfl b3 (scrA s') (by rw [hb3];rfl) rfl 56 (scrA scN) (by rw [← hw3];exact H30.out) info56 rfl HO.out ?_)
 rw [← hw3,← hb3]
 obtain ⟨w4,hw4⟩:∃ w',w'=w3.setRow b3 (scrA s'):=⟨_,rfl⟩
 have H24:=Lib.hid (show Below w2.heap.size w2 w4 from by rw [hw4];exact below_setRow H3.out.2.1 (Nat.le_of_eq H3.out.2.2.symm) _)
 have H4:=Lib.hid (show w4.heap[b3]?=some (.cells (scrA s') 56 (0,0))∧w4.heap[b1]?=some (.cells (scrA s) 56 (0,0))∧Below w.heap.size w w4 from ⟨by rw [hw4];exact setRow_heap w3 _ _ _ _ _ H30.out,(H24.out.block b1 (Array.getElem?_eq_some_iff.1 HR2.out).1).trans HR2.out,HB2.out.trans (H24.out.mono HB2.out.size)⟩)
 rw [← hw4]
 have HX:=Lib.hid (show ∀ w',Below w4.heap.size w4 w'→Tabs w'∧ScIn w' s' S∧ScIn w' s S∧Below w.heap.size w w'∧w'.heap[b3]?=some (.cells (scrA s') 56 (0,0))∧w'.heap[b1]?=some (.cells (scrA s) 56 (0,0)) from fun w' hb=>by
  have h1:=H4.out.2.2.trans (hb.mono H4.out.2.2.size)
  exact ⟨HT.out.below h1 (Nat.le_refl _),(HS2.out.1.below H24.out).below hb,HS.out.below h1,h1,(hb.block b3 (Array.getElem?_eq_some_iff.1 H4.out.1).1).trans H4.out.1,(hb.block b1 (Array.getElem?_eq_some_iff.1 H4.out.2.1).1).trans H4.out.2.1⟩)
 have HF:=Lib.hid (show ∀ w',Below w4.heap.size w4 w'→Calls Tryz.prog 23 #[] w' fun e w''=>e=.returned (.bool true)∧Below w'.heap.size w' w'' from fun w' hb=>fixedE_any (HX.out w' hb).1)
 have HRT:=Lib.hid (show ∀ w',Below w4.heap.size w4 w'→Calls Tryz.prog 22 #[.agg (scrA s')] w' fun e w''=>e=.returned (.bool (rightSc S))∧Below w'.heap.size w' w'' from fun w' hb=>rightT_any (HX.out w' hb).1 (HX.out w' hb).2.1 HS2.out.2.1 HS2.out.2.2)
 have HRR:=Lib.hid (show ∀ w',Below w4.heap.size w4 w'→Calls Tryz.prog 25 #[.agg (scrA s)] w' fun e w''=>e=.returned (.bool (rightSc S))∧Below w'.heap.size w' w'' from fun w' hb=>refRightS_any (HX.out w' hb).2.2.1 HNM.out.1 HNM.out.2)
 have HSM:=Lib.hid (show ∀ w',Below w4.heap.size w4 w'→Calls Tryz.prog 17 #[.agg (scrA s'),.agg (scrA s)] w' fun e w''=>e=.returned (.bool true)∧Below w'.heap.size w' w'' from fun w' hb=>refSameS_any (HX.out w' hb).2.1 (HX.out w' hb).2.2.1 HS2.out.2.1 HNM.out.1 HS2.out.2.2 HNM.out.2)
 obtain ⟨RR,hRR⟩:∃ RR,rightSc S=RR:=⟨_,rfl⟩
 rw [hRR] at HRT HRR
 clear hRR hw3 hw4 hb3 hn ht hm
 have hfold:#[Value.int .i64 s.c,Value.int .i64 s.r,Value.slice s.A s.n s.k,Value.int .i64 s.x,Value.int .i64 s.y,Value.bool s.hid,Value.int .u8 s.mouse,Value.string s.ttl,Value.slice s.T s.m s.q]=scrA s:=rfl
 have hfold':#[Value.int .i64 s'.c,Value.int .i64 s'.r,Value.slice s'.A s'.n s'.k,Value.int .i64 s'.x,Value.int .i64 s'.y,Value.bool s'.hid,Value.int .u8 s'.mouse,Value.string s'.ttl,Value.slice s'.T s'.m s'.q]=scrA s':=rfl
 try rw [hfold]
 try rw [hfold']
 clear hfold hfold'
 refine wp_region_held_drew (S:=fun w'=>Below w4.heap.size w4 w'∧w'.heap[b3]?=some (.cells (scrA s') 56 (0,0))∧w'.heap[b1]?=some (.cells (scrA s) 56 (0,0))) (by kernel_rfl) ⟨(Below.refl _ _).drew,H4.out.1,H4.out.2.1⟩ (fun hHeld=>?_)
 generalize w4.drew=wd at hHeld ⊢
 refine wpAnyH_ready (rs:=[0]) (by kernel_rfl) (by simp) (AllReadyH.cons rfl (fun K hK=>?_) AllReadyH.nil)
 rw [if_pos (by rfl)]
 go_simp
 refine (HF.out _ hHeld.1).mono ?_
 rintro e wn ⟨rfl,hbn⟩
 have hbw:=hHeld.1.trans (hbn.mono hHeld.1.size)
 refine hK.out _ _ ⟨hbw,(HX.out _ hbw).2.2.2.2.1,(HX.out _ hbw).2.2.2.2.2⟩ (fun hHeld=>?_)
 clear hK K hbn hbw
 refine tkH 1 (.bool true) rfl (.inl ⟨by rfl,fun wz hSz=>?_⟩) hHeld ?_
 · go_simp
 simp only [Act.put,List.getElem_toArray,List.getElem_cons_succ,List.getElem_cons_zero,List.setIfInBounds_toArray,List.set_cons_succ,List.set_cons_zero]
 refine wpAnyH_take (i:=2) (v:=.agg (scrA s')) rfl (by kernel_rfl) (by kernel_rfl) (by kernel_rfl) (fun _ _ _ h=>h) (yieldsIf_load_row (by rfl) 56 (.tmp 3) rfl b3 rfl (scrA s') _ (fun w hw=>hw.2.1) Tryz.underlying56 rfl info56) hHeld ?_
 simp only [Act.put,List.getElem_toArray,List.getElem_cons_succ,List.getElem_cons_zero,List.setIfInBounds_toArray,List.set_cons_succ,List.set_cons_zero]
 refine wpAnyH_take (i:=4) (v:=.agg (scrA s)) rfl (by kernel_rfl) (by kernel_rfl) (by kernel_rfl) (fun _ _ _ h=>h) (yieldsIf_load_row (by rfl) 56 (.tmp 1) rfl b1 rfl (scrA s) _ (fun w hw=>hw.2.2) Tryz.underlying56 rfl info56) hHeld ?_
 simp only [Act.put,List.getElem_toArray,List.getElem_cons_succ,List.getElem_cons_zero,List.setIfInBounds_toArray,List.set_cons_succ,List.set_cons_zero]
 refine wpAnyH_ready (rs:=[3]) (by kernel_rfl) (by simp) (AllReadyH.cons rfl (fun K hK=>?_) AllReadyH.nil)
 rw [if_pos (by rfl)]
 go_simp
 refine (HRT.out _ hHeld.1).mono ?_
 rintro e wn ⟨rfl,hbn⟩
 have hbw:=hHeld.1.trans (hbn.mono hHeld.1.size)
 refine hK.out _ _ ⟨hbw,(HX.out _ hbw).2.2.2.2.1,(HX.out _ hbw).2.2.2.2.2⟩ (fun hHeld=>?_)
 clear hK K hbn hbw
 refine wpAnyH_ready (rs:=[5]) (by kernel_rfl) (by simp) (AllReadyH.cons rfl (fun K hK=>?_) AllReadyH.nil)
 rw [if_pos (by rfl)]
 go_simp
 refine (HRR.out _ hHeld.1).mono ?_
 rintro e wn ⟨rfl,hbn⟩
 have hbw:=hHeld.1.trans (hbn.mono hHeld.1.size)
 refine hK.out _ _ ⟨hbw,(HX.out _ hbw).2.2.2.2.1,(HX.out _ hbw).2.2.2.2.2⟩ (fun hHeld=>?_)
 clear hK K hbn hbw
 refine tkH 6 (.bool true) rfl (.inl ⟨by rfl,fun wz hSz=>?_⟩) hHeld ?_
 · go_simp
 simp only [Act.put,List.getElem_toArray,List.getElem_cons_succ,List.getElem_cons_zero,List.setIfInBounds_toArray,List.set_cons_succ,List.set_cons_zero]
 refine tkH 7 (.bool true) rfl (.inl ⟨by rfl,fun wz hSz=>?_⟩) hHeld ?_
 · go_simp
 simp only [Act.put,List.getElem_toArray,List.getElem_cons_succ,List.getElem_cons_zero,List.setIfInBounds_toArray,List.set_cons_succ,List.set_cons_zero]
 refine tkH 8 (.bool true) rfl (.inl ⟨by rfl,fun wz hSz=>?_⟩) hHeld ?_
 · go_simp
 simp only [Act.put,List.getElem_toArray,List.getElem_cons_succ,List.getElem_cons_zero,List.setIfInBounds_toArray,List.set_cons_succ,List.set_cons_zero]
 refine wpAnyH_take (i:=9) (v:=.agg (scrA s')) rfl (by kernel_rfl) (by kernel_rfl) (by kernel_rfl) (fun _ _ _ h=>h) (yieldsIf_load_row (by rfl) 56 (.tmp 3) rfl b3 rfl (scrA s') _ (fun w hw=>hw.2.1) Tryz.underlying56 rfl info56) hHeld ?_
 simp only [Act.put,List.getElem_toArray,List.getElem_cons_succ,List.getElem_cons_zero,List.setIfInBounds_toArray,List.set_cons_succ,List.set_cons_zero]
 refine wpAnyH_take (i:=10) (v:=.agg (scrA s)) rfl (by kernel_rfl) (by kernel_rfl) (by kernel_rfl) (fun _ _ _ h=>h) (yieldsIf_load_row (by rfl) 56 (.tmp 1) rfl b1 rfl (scrA s) _ (fun w hw=>hw.2.2) Tryz.underlying56 rfl info56) hHeld ?_
 simp only [Act.put,List.getElem_toArray,List.getElem_cons_succ,List.getElem_cons_zero,List.setIfInBounds_toArray,List.set_cons_succ,List.set_cons_zero]
 refine wpAnyH_ready (rs:=[11]) (by kernel_rfl) (by simp) (AllReadyH.cons rfl (fun K hK=>?_) AllReadyH.nil)
 rw [if_pos (by rfl)]
 go_simp
 refine (HSM.out _ hHeld.1).mono ?_
 rintro e wn ⟨rfl,hbn⟩
 have hbw:=hHeld.1.trans (hbn.mono hHeld.1.size)
 refine hK.out _ _ ⟨hbw,(HX.out _ hbw).2.2.2.2.1,(HX.out _ hbw).2.2.2.2.2⟩ (fun hHeld=>?_)
 clear hK K hbn hbw
 refine tkH 12 (.bool true) rfl (.inl ⟨by rfl,fun wz hSz=>?_⟩) hHeld ?_
 · go_simp
 simp only [Act.put,List.getElem_toArray,List.getElem_cons_succ,List.getElem_cons_zero,List.setIfInBounds_toArray,List.set_cons_succ,List.set_cons_zero]
 refine tkH 13 (.bool true) rfl (.inl ⟨by rfl,fun wz hSz=>?_⟩) hHeld ?_
 · go_simp
 simp only [Act.put,List.getElem_toArray,List.getElem_cons_succ,List.getElem_cons_zero,List.setIfInBounds_toArray,List.set_cons_succ,List.set_cons_zero]
 refine wpAnyH_done (by kernel_rfl) ?_ _
 have Z:=Lib.hid (HX.out _ hHeld.1).2.2.2.1
 go_wp2_with fail
 go_ret
 exact ⟨rfl,Z.out⟩
set_option maxRecDepth 100000 in
theorem lifted (os:Os) (started:os.Started) (H:Type) (enc:TypeId × Value→H) :
  ReturnsInHanded {} Tryz.checked os 6 .any (fun w args=>(Rows.emulMaySpec.pre enc Tryz.prog Tryz.f6 [] false w args∧laidMetH Tryz.prog laidL w)∧sizedMet enc Tryz.prog Tryz.f6 (OpenSpec.ofChange Rows.emulMaySpec) false w args)
   (Rows.emulMaySpec.post enc Tryz.prog Tryz.f6 false true false false):=by
 refine returnsInHanded_of_change_and (C:=Tryz.checked) (X:=fun w _=>laidMetH Tryz.prog laidL w) (fun _ _ _ hh h=>h.of_heap hh) own started (by kernel_rfl) Tryz.func6
  (ChangeSpec.witness_shaped (enc:=enc) (C:=Tryz.checked) (os:=os) (X:=fun w _=>laidMetH Tryz.prog laidL w) false (World.laidAll Tryz.prog os laidL) #[.agg (scrA scN)] 8 (World.laidAll_os _ _ _) (start_shaped os) (by kernel_rfl) (by kernel_rfl) (by kernel_rfl) (start_met os _)) ?_
 intro W base args ds gs before hval0 hW _ hsz0 hL _
 have hsz:(DataW.weightsEach Tryz.prog (Tryz.f6.params.toList ++ Rows.emulMaySpec.plain.varTypes Tryz.prog) (ds ++ gs)).all (·≤reachBytes)=true:=hsz0
 clear hsz0
 have hval:∀ (j:Nat) t v,Tryz.f6.params[j]?=some t→args[j]?=some v→Value.okWide Tryz.prog W .any base t v:=hval0
 have hW':=hW
 obtain ⟨p,q,hA0,hV,rfl,_,_⟩:=hW
 have hA:DataW.TrodAll enc Tryz.prog W 0 (fun _=>true) true Tryz.f6.params.toList args.toList ds p:=hA0
 rw [Tryz.params6] at hA hval hsz
 obtain ⟨v0,vs0,d0,ds0,p0,q0,hargs,rfl,rfl,h0,r0⟩:=trodAll_cons hA
 obtain ⟨rfl,rfl,rfl⟩:=trodAll_nil r0
 obtain rfl:args=#[v0]:=by cases args;simp_all
 obtain ⟨rfl,rfl⟩:=trodVars_none hV
 have lt0:∀ x∈p0,x.block<W.heap.size:=by obtain ⟨m,hm⟩:=h0;exact DataW.trod_lt m _ _ _ hm
 obtain ⟨s0,S0,rfl,s0⟩:=open_screen (weights_at hsz (j:=0) rfl rfl) (hval 0 56 v0 rfl rfl) h0
 clear hA0 hval0
 refine (walk W (tabs_of_laid hL) s0).mono fun e W' ⟨he,bel⟩=>?_
 subst he
 exact ⟨_,rfl,_,_,_,[],_,[],hW',trodAll_mk1 (shut_bool Tryz.underlying4 _),(trodAll_cons_mk (Below.trod laidOut (by kernel_rfl) (of_decide_eq_true (by kernel_rfl)) h0 bel lt0) trodAll_mk0),rfl,bel.frame _,fun h=>by cases h⟩
theorem over:Rows.emulMayRow.holds Tryz.pinned (OpenSpec.ofChange Rows.emulMaySpec) :=
 OpenClaim.holds_of_wide 6 Tryz.f6 rfl rfl rfl rfl rfl rfl rfl ⟨rfl,rfl,rfl,rfl,rfl⟩ rfl rfl rfl rfl rfl (by kernel_rfl) Tryz.func6 (by kernel_rfl)
  (of_decide_eq_true (by kernel_rfl)) (by unfold Func.isWrapper;first | (rw [if_pos (by decide +kernel)];kernel_rfl) | (rw [if_neg (by decide +kernel)];exact ⟨rfl,rfl⟩))
  (fun os started H enc _=>lifted os started H enc)
theorem proved:Rows.EmulMayCardSaid :=
 Claim7.holds_tied_plain_at .later [] [.data,.data,.pinned] true Rows.emulMayCard.stood.harness false
  over (fun _ h=>by cases h) (by kernel_rfl) (fun _ h=>by cases h) emulMay_row_tie rfl ⟨rfl,rfl⟩ (by kernel_rfl) rfl
  (fun f fn hf hfn=>by
   obtain rfl:f=6:=Option.some.inj ((show Tryz.prog.funcNamed "spyglass/spyglasslaw12.EmulMay"=some 6 by kernel_rfl).symm.trans hf) |>.symm
   obtain rfl:fn=Tryz.f6:=(Option.some.inj (Tryz.func6.symm.trans hfn)).symm
   exact ⟨by kernel_rfl,fun j t ht=>by
    rw [Tryz.params6] at ht
    have hm:t∈[56]:=by simpa using Array.mem_of_getElem? ht
    have hall:([56].all fun u=>!Tryz.prog.wantsStandIn u)=true:=by kernel_rfl
    exact (show Tryz.prog.wantsStandIn t=false by simpa using List.all_eq_true.1 hall t hm)⟩)
  (by kernel_rfl)
end Go.Proofs.YtlcipgdnpilkfaaGreatDoor.emulMay
