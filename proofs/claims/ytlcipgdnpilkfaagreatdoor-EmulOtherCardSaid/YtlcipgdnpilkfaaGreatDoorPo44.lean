/-
  Part 44 of what the laws of emul want: EmulRefNew, UtfRefFeed.
-/
import Derived.RegionTactic
import Derived.Deep.RegionHeld3
import Derived.Laws.Rows
import Derived.Deep.DeepCutAuto
import Derived.Deep.QuietTactic
import Derived.BigQuiet
import Derived.LoopTactic
import Derived.Laws.CopyOwn
import Derived.OwnWalk
import Derived.Lib.Hide
import Derived.Test.YtlcipgdnpilkfaaGreatDoorPo01
import Derived.Test.YtlcipgdnpilkfaaGreatDoorPo02
import Derived.Test.YtlcipgdnpilkfaaGreatDoorPo10
import Derived.Test.YtlcipgdnpilkfaaGreatDoorPo11
import Derived.Test.YtlcipgdnpilkfaaGreatDoorPo17
import Derived.Test.YtlcipgdnpilkfaaGreatDoorPo29
import Derived.Test.YtlcipgdnpilkfaaGreatDoorPo42
import Derived.Test.YtlcipgdnpilkfaaGreatDoorPo43
namespace Go.Proofs.YtlcipgdnpilkfaaGreatDoor
open Go.RowKit
section
set_option maxRecDepth 100000 in
theorem refTabs_any (w:World):Calls Tryz.prog 34 #[] w fun e w'=>e=.returned (.agg (tabs0.map Value.bool).toArray)∧Below w.heap.size w w':=by
 have hw2:(w.alloc (.cells Tryz.zeroCells34 34)).heap.size=w.heap.size+1:=by simp
 obtain ⟨W,hW⟩:∃ W,W=(w.alloc (.cells Tryz.zeroCells34 34)).alloc (.cells Tryz.zeroCells34 34):=⟨_,rfl⟩
 have HW:=Lib.hid (show Below w.heap.size w W∧W.heap[w.heap.size]?=some (.cells (rowK 0) 34 (0,0))∧W.heap[w.heap.size+1]?=some (.cells (rowK 0) 34 (0,0)) from by
  rw [hW,rowK_zero]
  refine ⟨((Below.refl _ _).alloc (Nat.le_refl _) _).alloc (by simp) _,(Below.heap_alloc _ _ _ (by simp)).trans (heap_alloc_new w _),?_⟩
  have e:=heap_alloc_new (w.alloc (.cells (rowK 0) 34)) (.cells (rowK 0) 34)
  rw [show (w.alloc (.cells (rowK 0) 34)).heap.size=w.heap.size+1 from by simp] at e
  exact e)
 go_enter Tryz.func34,Tryz.ntmps34
 go_upto_region 2 with (refine wpList_store_row rfl 34 (.tmp 1) (.tmp 3) rfl (w.heap.size+1) (rowK 0) rfl (show Value.agg Tryz.zeroCells34=.agg (rowK 0) from congrArg _ rowK_zero) 34 (rowK 0) (by rw [← hW];exact HW.out.2.2) (info80 0) rfl (rowK_one 0) ?_)
 rw [← hW]
 obtain ⟨W2,hW2⟩:∃ W2,W2=W.setRow (w.heap.size+1) (rowK 0):=⟨_,rfl⟩
 have HV:=Lib.hid (show Below w.heap.size w W2∧W2.heap[w.heap.size]?=some (.cells (rowK 0) 34 (0,0))∧W2.heap[w.heap.size+1]?=some (.cells (rowK 0) 34 (0,0)) from by
  rw [hW2]
  exact ⟨below_setRow HW.out.1 (by omega) _,(setRow_other W (w.heap.size+1) w.heap.size _ (by omega)).trans HW.out.2.1,setRow_heap W _ _ _ _ _ HW.out.2.2⟩)
 rw [← hW2]
 clear hW2 hW hw2
 clear HW
 have HW:=HV
 go_wp2_with fail
 go_loopw [2] (fun i wr=>∃ (k m:Nat),k≤9∧m=8*(k+1)∧i=.int .i64 m∧Below w.heap.size w wr∧wr.heap[w.heap.size]?=some (.cells (rowK 0) 34 (0,0))∧wr.heap[w.heap.size+1]?=some (.cells (rowK k) 34 (0,0))) (fun i _=>80-(intOf i).toNat)
 case atStart=>exact ⟨0,8,by omega,rfl,rfl,HW.out.1,HW.out.2.1,HW.out.2.2⟩
 case round =>
  obtain ⟨k,m,hk,hm,rfl,hb,h0,h1⟩:=hrel
  have HB:=Lib.hid hb
  have H0:=Lib.hid h0
  have H1:=Lib.hid h1
  by_cases hlt:k<9
  · have ec:wr.cell? ⟨w.heap.size+1,m,none⟩=some (.bool false):=by
     rw [cell_of_row _ _ m _ _ _ h1,hm]
     have:=rowB_at ⟨k,hlt⟩
     simpa [rowK] using this
    have ef:wr.frozen? ⟨w.heap.size+1,m,none⟩=false:=frozen_of_row _ _ m _ _ h1
    have m0:(0:Int)≤(m:Int):=by omega
    have m1:(m:Int)<80:=by omega
    have hbn:Below w.heap.size w (wr.setCell ⟨w.heap.size+1,m,none⟩ (.bool true)):=hb.setCell (p:=⟨w.heap.size+1,m,none⟩) (by show w.heap.size≤w.heap.size+1;omega) _
    have h0n:(wr.setCell ⟨w.heap.size+1,m,none⟩ (.bool true)).heap[w.heap.size]?=some (.cells (rowK 0) 34 (0,0)):=(heap_setCell_other wr _ w.heap.size _ (by show w.heap.size≠w.heap.size+1;omega)).trans h0
    have h1n:(wr.setCell ⟨w.heap.size+1,m,none⟩ (.bool true)).heap[w.heap.size+1]?=some (.cells (rowK (k+1)) 34 (0,0)):=by
     rw [heap_setCell_same wr _ m _ _ _ h1]
     have:=rowB_step ⟨k,hlt⟩
     simp only at this
     have e:(rowK k).setIfInBounds m (.bool true)=rowK (k+1):=by
      unfold rowK
      rw [← this,hm,List.setIfInBounds_toArray,List.map_set]
     rw [e]
    have HN:=Lib.hid (And.intro hbn (And.intro h0n h1n))
    have HMm:=Lib.hid hm
    clear hm hb h0 h1 hbn h0n h1n
    go_wp2_with fail
    go_roundw
    case rel=>exact ⟨k+1,m+8,by omega,by rw [HMm.out];omega,by go_num,HN.out.1,HN.out.2.1,HN.out.2.2⟩
    case measure=>simp [intOf];omega
  · obtain rfl:k=9:=by omega
    obtain rfl:m=80:=by omega
    clear hb h0 h1
    go_wp2_with (first | (refine wpList_load_row rfl 34 (.tmp 1) rfl (w.heap.size+1) rfl 34 _ (0,0) _ H1.out Tryz.underlying34 rfl (info80 9) ?_) | (refine wpList_store_row rfl 34 (.tmp 0) (.tmp 10) rfl w.heap.size (rowK 9) rfl rfl 34 _ H0.out (info80 9) (by simp [rowK,rowB_len]) (rowK_one 9) ?_))
    have hR:(wr.setRow w.heap.size (rowK 9)).heap[w.heap.size]?=some (.cells (rowK 9) 34 (0,0)):=setRow_heap wr _ _ _ _ _ H0.out
    refine bodyPost_ret (results_cell_row rfl _ _ w.heap.size 34 (rowK 9) (0,0) _ rfl hR Tryz.underlying34 rfl (info80 9)) rfl ?_
    exact ⟨by unfold rowK;rw [rowB_end],below_setRow HB.out (Nat.le_refl _) _⟩
def rtN (c r q1 k1 q2 k2:Nat) (tb:List Bool):RT:=⟨{ tmNew c r with tabs:=tb },some ⟨q1,0,none⟩,r*c,k1,some ⟨q2,0,none⟩,r*c,k2,⟨#[]⟩,none,0,0,0,none,0,0,none,0,0⟩
def partsN (c r q1 k1 q2 k2:Nat):List (Nat × Value):=[(0,.int .i64 (c:Int)),(1,.int .i64 (r:Int)),(2,.agg #[.int .i64 (c:Int),.int .i64 (r:Int),.slice (some ⟨q1,0,none⟩) (r*c) k1]),(3,.agg #[.int .i64 (c:Int),.int .i64 (r:Int),.slice (some ⟨q2,0,none⟩) (r*c) k2]),(9,.int .i64 ((r:Int)-1))]
theorem built_refnew (c r q1 k1 q2 k2:Nat):Tryz.prog.built 42 (partsN c r q1 k1 q2 k2)=some (rtV (rtN c r q1 k1 q2 k2 (List.replicate 80 false))).toArray:=by kernel_rfl
structure RNew (c r:Nat) (w w':World) (y:RT):Prop where
 t:y.t=tmNew c r
 bel:Below w.heap.size w w'
 m:Vs ceV w' y.mA y.mN y.t.main.flatten
 mkk:y.mN≤y.mK
 o:Vs ceV w' y.oA y.oN y.t.other.flatten
 okk:y.oN≤y.oK
 new:(∀ ad,y.mA=some ad→w.heap.size≤ad.block)∧(∀ ad,y.oA=some ad→w.heap.size≤ad.block)
 rest:y.ttl=⟨#[]⟩∧y.bA=none∧y.bN=0∧y.bK=0∧y.sn=0∧y.sA=none∧y.sN=0∧y.sK=0∧y.dA=none∧y.dN=0∧y.dK=0
theorem yields_build5 {P:Program} {ev:Operand→Value} {o:Oper} {w:World} {t:TypeId} {i1 i2 i3 i4 i5:Nat} {x1 x2 x3 x4 x5:Operand} (ho:o.op=.build t #[(i1,x1),(i2,x2),(i3,x3),(i4,x4),(i5,x5)])
  (v1 v2 v3 v4 v5:Value) (h1:ev x1=v1) (h2:ev x2=v2) (h3:ev x3=v3) (h4:ev x4=v4) (h5:ev x5=v5) (cells:Array Value) (hb:P.built t [(i1,v1),(i2,v2),(i3,v3),(i4,v4),(i5,v5)]=some cells):(execOp ev o).run P w=.ok (.value (.agg cells)) w:=by
 have e:(#[(i1,x1),(i2,x2),(i3,x3),(i4,x4),(i5,x5)].map fun (p:Nat × Operand)=>(p.1,ev p.2)).toList=[(i1,v1),(i2,v2),(i3,v3),(i4,v4),(i5,v5)]:=by simp [h1,h2,h3,h4,h5]
 unfold execOp
 simp only [ho,Sem.run_bind]
 rw [run_build w t _ cells (by rw [e];exact hb)]
 rfl
theorem retT2 {fn:Func} {p u:Tmp} (h:fn.results=#[.cell p 42,.tmp u]) {tmps:Array Value} {w:World} {b:Nat} {cs:Array Value} {v:Value} (hG:w.heap[b]?=some (.cells cs 42 (0,0))) (hz:cs.size=116) (hp:tmps.getD p undef=.pointer (some ⟨b,0,none⟩)) (hu:tmps.getD u undef=v) :
  (results fn tmps).run Tryz.prog w=.ok (.tuple #[.agg cs,v]) w:=by
 rw [results_cell_tmp h,hp,hu]
 simp [asAddr,run_loadVar_row w b 42 42 cs (0,0) _ hG Tryz.underlying42 rfl (by rw [hz];exact infoRT1)]
theorem rtN_tabs (c r q1 k1 q2 k2:Nat):(rtV (rtN c r q1 k1 q2 k2 (List.replicate 80 false))).take 30 ++ (tabs0.map Value.bool ++ (rtV (rtN c r q1 k1 q2 k2 (List.replicate 80 false))).drop 110)=rtV (rtN c r q1 k1 q2 k2 tabs0):=by kernel_rfl
set_option maxRecDepth 100000 in
set_option maxHeartbeats 3200000 in
theorem refNewT_any {c r:Nat} (h1:1≤c) (h2:c≤80) (h3:1≤r) (h4:r≤24) (w:World):Calls Tryz.prog 31 #[.int .i64 (c:Int),.int .i64 (r:Int)] w fun e w'=>∃ y:RT,e=.returned (.tuple #[.agg (rtV y).toArray,.int .i64 0])∧RNew c r w w' y:=by
 have hs:sizeOk (c:Int) (r:Int)=true:=by unfold sizeOk;simp only [decide_eq_true_eq];omega
 obtain ⟨w1,hw1⟩:∃ w1,w1=w.alloc (.cells Tryz.zeroCells42 42):=⟨_,rfl⟩
 obtain ⟨b1,hb1⟩:∃ b1,b1=w.heap.size:=⟨_,rfl⟩
 have H1:=Lib.hid (show Below w.heap.size w w1∧RtB w1 b1 rt0∧w.heap.size≤b1 from by
  rw [hw1,hb1]
  refine ⟨(Below.refl _ _).alloc (Nat.le_refl _) _,?_,Nat.le_refl _⟩
  unfold RtB
  rw [← zeroRT]
  exact heap_alloc_new w _)
 have HN:=Lib.hid (show Gk c r (List.replicate r (blanksS c pn0)) from gk_blankE h1 h2 h3 h4)
 have HG:=Lib.hid (refNew_any (c:=c) (r:=r) w1)
 rw [new_yes hs] at HG
 have hr1:wrap64 ((r:Int)-1)=(r:Int)-1:=by unfold wrap64;omega
 have hr2:IntKind.i64.wrap ((r:Int)-1)=(r:Int)-1:=by clear hr1;rw [IntKind.wrap_i64];omega
 have HSZ:=Lib.hid (show r*c≤1920 from Nat.mul_le_mul h4 h2)
 clear hs h1 h2 h3 h4
 go_enter Tryz.func31,Tryz.ntmps31
 go_upto_region 1 with fail
 rw [← hw1,← hb1]
 clear hw1 hb1
 go_wp2_with fail
 refine HG.out.mono ?_
 rintro e w2 hP
 obtain ⟨v,rfl,hb,q1,k1,hv,hq,hk,hm,hR⟩:=hP.1 _ _ _ rfl
 injection hv with hv
 subst hv
 have hfl:(List.replicate r (blanksS c pn0)).flatten.length=r*c:=HN.out.box.flen
 obtain ⟨b3,hb3⟩:∃ b3,b3=w2.heap.size:=⟨_,rfl⟩
 obtain ⟨w3,hw3⟩:∃ w3,w3=w2.alloc (.cells #[.int .i64 (c:Int),.int .i64 (r:Int),.slice (some ⟨q1,0,none⟩) (r*c) k1] 26):=⟨_,rfl⟩
 have h23:Below w2.heap.size w2 w3:=by rw [hw3];exact (Below.refl _ _).alloc (Nat.le_refl _) _
 have H3:=Lib.hid (show Below w1.heap.size w1 w3∧Rw ceV 66 w3 q1 (List.replicate r (blanksS c pn0)).flatten∧w1.heap.size≤q1∧r*c≤k1∧k1≤maxLen∧w3.cell? ⟨b3,0,none⟩=some (.int .i64 (c:Int))∧w3.cell? ⟨b3,1,none⟩=some (.int .i64 (r:Int))∧w3.cell? ⟨b3,2,none⟩=some (.slice (some ⟨q1,0,none⟩) (r*c) k1)∧b3<w3.heap.size from by
  refine ⟨hb.trans (h23.mono hb.size),hR.below h23,hq,by rw [← hfl];exact hk,hm,?_,?_,?_,?_⟩
  · rw [hw3,hb3];exact newCell w2 _ _ 0 rfl
  · rw [hw3,hb3];exact newCell w2 _ _ 1 rfl
  · rw [hw3,hb3];exact newCell w2 _ _ 2 rfl
  · rw [hw3,hb3];simp)
 rw [hfl]
 clear hP hb hq hk hm hR h23
 unfold gV
 go_upto_region 4 with fail
 rw [← hw3,← hb3]
 clear hw3 hb3
 have SX:=Lib.hid (show ∀ w',Below w3.heap.size w3 w'→(Below w3.heap.size w3 w'∧w'.cell? ⟨b3,0,none⟩=some (.int .i64 (c:Int))∧w'.cell? ⟨b3,1,none⟩=some (.int .i64 (r:Int))∧w'.cell? ⟨b3,2,none⟩=some (.slice (some ⟨q1,0,none⟩) (r*c) k1)) from fun w' hb=>by
  obtain ⟨_,_,_,_,_,d0,d1,d2,hl⟩:=H3.out
  exact ⟨hb,(hb.cell hl).trans d0,(hb.cell hl).trans d1,(hb.cell hl).trans d2⟩)
 have HCP:=Lib.hid (show ∀ w',Below w3.heap.size w3 w'→Calls Tryz.prog 74 #[.agg #[.int .i64 (c:Int),.int .i64 (r:Int),.slice (some ⟨q1,0,none⟩) (r*c) k1]] w' fun e w''=>Below w'.heap.size w' w''∧∃ q2 k2,e=.returned (.agg #[.int .i64 (c:Int),.int .i64 (r:Int),.slice (some ⟨q2,0,none⟩) (r*c) k2])∧w'.heap.size≤q2∧r*c≤k2∧k2≤maxLen∧Rw ceV 66 w'' q2 (List.replicate r (blanksS c pn0)).flatten from fun w' hb=>by
  have hv:=(H3.out.2.1.below hb).vs
  rw [HN.out.box.flen] at hv
  refine (copyG_any (c:=(c:Int)) (r:=(r:Int)) (k:=k1) hv (by have:=HSZ.out;omega)).mono ?_
  rintro e w'' ⟨hb2,q2,k2,rfl,a1,a2,a3,a4⟩
  rw [HN.out.box.flen] at a2 ⊢
  exact ⟨hb2,q2,k2,rfl,a1,a2,a3,a4⟩)
 have HZ:=Lib.hid (show ∀ w',Below w3.heap.size w3 w'→RtB w' b1 rt0 from fun w' hb=>(H1.out.2.1.below H3.out.1).below hb)
 refine wp_region_held_drew (S:=fun w'=>Below w3.heap.size w3 w'∧w'.cell? ⟨b3,0,none⟩=some (.int .i64 (c:Int))∧w'.cell? ⟨b3,1,none⟩=some (.int .i64 (r:Int))∧w'.cell? ⟨b3,2,none⟩=some (.slice (some ⟨q1,0,none⟩) (r*c) k1)) (by kernel_rfl) (SX.out _ (Below.refl _ _).drew) (fun hHeld=>?_)
 have HD:=Lib.hid (show Below w3.heap.size w3 w3.drew from (Below.refl _ _).drew)
 generalize w3.drew=w4 at HD hHeld ⊢
 refine tkH 0 (.int .i64 (c:Int)) rfl (.inl ⟨by rfl,fun wz hSz=>?_⟩) hHeld ?_
 · go_simp
 simp only [Act.put,List.getElem_toArray,List.getElem_cons_zero,List.setIfInBounds_toArray,List.set_cons_succ,List.set_cons_zero]
 refine tkH 1 (.int .i64 (r:Int)) rfl (.inl ⟨by rfl,fun wz hSz=>?_⟩) hHeld ?_
 · go_simp
 simp only [Act.put,List.getElem_toArray,List.getElem_cons_succ,List.getElem_cons_zero,List.setIfInBounds_toArray,List.set_cons_succ,List.set_cons_zero]
 refine tkH 2 (.agg #[.int .i64 (c:Int),.int .i64 (r:Int),.slice (some ⟨q1,0,none⟩) (r*c) k1]) rfl (.inl ⟨by rfl,fun wz hSz=>?_⟩) hHeld ?_
 · obtain ⟨_,d0,d1,d2⟩:=hSz
   go_simp
 simp only [Act.put,List.getElem_toArray,List.getElem_cons_succ,List.getElem_cons_zero,List.setIfInBounds_toArray,List.set_cons_succ,List.set_cons_zero]
 refine tkH 3 (.agg #[.int .i64 (c:Int),.int .i64 (r:Int),.slice (some ⟨q1,0,none⟩) (r*c) k1]) rfl (.inl ⟨by rfl,fun wz hSz=>?_⟩) hHeld ?_
 · obtain ⟨_,d0,d1,d2⟩:=hSz
   go_simp
 simp only [Act.put,List.getElem_toArray,List.getElem_cons_succ,List.getElem_cons_zero,List.setIfInBounds_toArray,List.set_cons_succ,List.set_cons_zero]
 refine tkH 5 (.int .i64 (r:Int)) rfl (.inl ⟨by rfl,fun wz hSz=>?_⟩) hHeld ?_
 · go_simp
 simp only [Act.put,List.getElem_toArray,List.getElem_cons_succ,List.getElem_cons_zero,List.setIfInBounds_toArray,List.set_cons_succ,List.set_cons_zero]
 refine tkH 6 (.int .i64 ((r:Int)-1)) rfl (.inl ⟨by rfl,fun wz hSz=>?_⟩) hHeld ?_
 · go_simp
 simp only [Act.put,List.getElem_toArray,List.getElem_cons_succ,List.getElem_cons_zero,List.setIfInBounds_toArray,List.set_cons_succ,List.set_cons_zero]
 refine wpAnyH_ready (rs:=[4,8]) (by kernel_rfl) (by simp) (AllReadyH.cons rfl (fun K hK=>?_) (AllReadyH.cons rfl (fun K hK=>?_) AllReadyH.nil))
 · rw [if_pos (by rfl)]
   go_simp
   refine (HCP.out w4 HD.out).mono ?_
   rintro e w5 ⟨hb5,q2,k2,rfl,hq2,hk2,hm2,hR2⟩
   have HB5:=Lib.hid (show Below w3.heap.size w3 w5 from (HD.out).trans (hb5.mono (HD.out).size))
   have HR2:=Lib.hid (show Rw ceV 66 w5 q2 (List.replicate r (blanksS c pn0)).flatten∧w3.heap.size≤q2∧r*c≤k2∧k2≤maxLen from ⟨hR2,Nat.le_trans (HD.out).size hq2,hk2,hm2⟩)
   clear hb5 hq2 hk2 hm2 hR2
   refine hK.out _ _ (SX.out _ HB5.out) (fun hHeld=>?_)
   clear hK K
   try simp only [Act.put,List.getElem_toArray,List.getElem_cons_succ,List.getElem_cons_zero]
   try simp only [List.setIfInBounds_toArray]
   try simp only [List.set_cons_succ]
   try simp only [List.set_cons_zero]
   obtain ⟨cs,hcs⟩:∃ cs,cs=(rtV (rtN c r q1 k1 q2 k2 (List.replicate 80 false))).toArray:=⟨_,rfl⟩
   have hbd:=built_refnew c r q1 k1 q2 k2
   rw [← hcs] at hbd
   unfold partsN at hbd
   have HBD:=Lib.hid hbd
   clear hbd
   have HCS:=Lib.hid hcs
   clear hcs
   refine tkH 7 (.agg cs) rfl (.inl ⟨by rfl,fun wz hSz=>?_⟩) hHeld ?_
   · exact yields_build5 rfl (.int .i64 (c:Int)) (.int .i64 (r:Int)) (.agg #[.int .i64 (c:Int),.int .i64 (r:Int),.slice (some ⟨q1,0,none⟩) (r*c) k1]) (.agg #[.int .i64 (c:Int),.int .i64 (r:Int),.slice (some ⟨q2,0,none⟩) (r*c) k2]) (.int .i64 ((r:Int)-1)) rfl rfl rfl rfl rfl cs HBD.out
   simp only [Act.put,List.getElem_toArray,List.getElem_cons_succ,List.getElem_cons_zero,List.setIfInBounds_toArray,List.set_cons_succ,List.set_cons_zero]
   refine wpAnyH_ready (rs:=[8]) (by kernel_rfl) (by simp) (AllReadyH.cons rfl (fun K hK=>?_) AllReadyH.nil)
   rw [if_pos (by rfl)]
   go_simp
   rw [zeroRT]
   obtain ⟨b8,hb8⟩:∃ b8,b8=w5.heap.size:=⟨_,rfl⟩
   obtain ⟨w6,hw6⟩:∃ w6,w6=w5.alloc (.cells (rtV rt0).toArray 42):=⟨_,rfl⟩
   have HA:=Lib.hid (show Below w5.heap.size w5 w6∧RtB w6 b8 rt0∧w3.heap.size≤b8 from ⟨by rw [hw6];exact (Below.refl _ _).alloc (Nat.le_refl _) _,by rw [hw6,hb8];exact heap_alloc_new w5 _,by rw [hb8];exact (HB5.out).size⟩)
   have HBC:=Lib.hid (show Below w3.heap.size w3 w6 from (HB5.out).trans (HA.out.1.mono (HB5.out).size))
   rw [← hw6,← hb8]
   have HNE:=Lib.hid (show w5.heap.size≤b8 from Nat.le_of_eq hb8.symm)
   clear hw6 hb8
   refine hK.out _ _ (SX.out _ HBC.out) (fun hHeld=>?_)
   clear hK K
   try simp only [Act.put,List.getElem_toArray,List.getElem_cons_succ,List.getElem_cons_zero]
   try simp only [List.setIfInBounds_toArray]
   try simp only [List.set_cons_succ]
   try simp only [List.set_cons_zero]
   refine wpAnyH_ready (rs:=[9]) (by kernel_rfl) (by simp) (AllReadyH.cons rfl (fun K hK=>?_) AllReadyH.nil)
   rw [if_pos (by rfl)]
   refine wp_store_row 42 (.tmp 8) (.tmp 26) rfl b8 cs rfl rfl 42 (rtV rt0).toArray (HA.out.2.1) (by rw [HCS.out];exact infoRT1) (by rw [HCS.out];rfl) (by rw [HCS.out];exact rt_one _) ?_
   have HW6:=Lib.hid (show RtB (w6.setRow b8 cs) b8 (rtN c r q1 k1 q2 k2 (List.replicate 80 false))∧Below w3.heap.size w3 (w6.setRow b8 cs)∧Rw ceV 66 (w6.setRow b8 cs) q2 (List.replicate r (blanksS c pn0)).flatten from ⟨by rw [HCS.out];exact setRow_heap w6 _ _ _ _ _ (HA.out.2.1),below_setRow HBC.out HA.out.2.2 _,(HR2.out.1.below HA.out.1).kept (setRow_other w6 b8 q2 _ (by have:=HR2.out.1.lt;have:=HNE.out;omega))⟩)
   generalize w6.setRow b8 cs=w9 at HW6 ⊢
   refine hK.out _ _ (SX.out _ HW6.out.2.1) (fun hHeld=>?_)
   clear hK K
   try simp only [Act.put,List.getElem_toArray,List.getElem_cons_succ,List.getElem_cons_zero]
   try simp only [List.setIfInBounds_toArray]
   try simp only [List.set_cons_succ]
   try simp only [List.set_cons_zero]
   refine wpAnyH_done (by kernel_rfl) ?_ _
   go_wp2_with fail
   refine (refTabs_any w9).mono ?_
   rintro e w10 ⟨rfl,hb10⟩
   have HR10:=Lib.hid (HW6.out.1.below hb10)
   have HB10:=Lib.hid (show Below w3.heap.size w3 w10 from HW6.out.2.1.trans (hb10.mono HW6.out.2.1.size))
   have HRW:=Lib.hid (HW6.out.2.2.below hb10)
   clear hb10
   have hth:w10.there b8 30 80:=fun j hj=>⟨by rw [cell_of_row _ _ _ _ _ _ HR10.out];simp only [List.getElem?_toArray];rw [List.getElem?_eq_getElem (by rw [rtV_len (by rfl)];omega)];rfl,HR10.out.free _⟩
   have HTH:=Lib.hid hth
   clear hth
   go_upto_region 6 with (refine wpList_store_mid rfl 34 (.tmp 28) (.tmp 27) rfl b8 30 (tabs0.map Value.bool).toArray rfl rfl HTH.out (by kernel_rfl) (by decide +kernel) ?_)
   obtain ⟨o1,o2,o3,o4,o5,o6⟩:=setCells_row b8 42 (tabs0.map Value.bool) 30 (rtV (rtN c r q1 k1 q2 k2 (List.replicate 80 false))) w10 HR10.out (by rw [rtV_len (by rfl)];decide)
   have e0:(rtV (rtN c r q1 k1 q2 k2 (List.replicate 80 false))).take 30 ++ ((tabs0.map Value.bool) ++ (rtV (rtN c r q1 k1 q2 k2 (List.replicate 80 false))).drop (30+(tabs0.map Value.bool).length))=rtV (rtN c r q1 k1 q2 k2 tabs0):=rtN_tabs c r q1 k1 q2 k2
   rw [e0] at o1
   have H11:=Lib.hid (show RtB (w10.setCells b8 30 (tabs0.map Value.bool)) b8 (rtN c r q1 k1 q2 k2 tabs0)∧Below w3.heap.size w3 (w10.setCells b8 30 (tabs0.map Value.bool))∧Rw ceV 66 (w10.setCells b8 30 (tabs0.map Value.bool)) q2 (List.replicate r (blanksS c pn0)).flatten from ⟨o1,⟨o4.trans HB10.out.os,o5.trans HB10.out.tape,o6.trans HB10.out.output,by rw [o3];exact HB10.out.size,fun q hq=>(o2 q (by have:=HA.out.2.2;omega)).trans (HB10.out.block q hq)⟩,HRW.out.kept (o2 q2 (by have:=HR2.out.1.lt;have:=HNE.out;omega))⟩)
   show (Code.region 6 _ _).wp _ _ _ (w10.setCells b8 30 (tabs0.map Value.bool))
   generalize w10.setCells b8 30 (tabs0.map Value.bool)=w11 at H11 ⊢
   clear o1 o2 o3 o4 o5 o6 e0
   obtain ⟨es,hes⟩:∃ es,es=(rtV (rtN c r q1 k1 q2 k2 tabs0)).toArray:=⟨_,rfl⟩
   have hE1:w11.heap[b8]?=some (.cells es 42 (0,0)):=by rw [hes];exact H11.out.1
   have hE2:es.size=116:=by rw [hes,List.size_toArray];exact rtV_len rfl
   have hE3:es.all (·.oneCell')=true:=by rw [hes];exact rt_one _
   have HE:=Lib.hid (And.intro hE1 (And.intro hE2 (And.intro hE3 hes)))
   clear hE1 hE2 hE3 hes
   go_wp2_with (first | (refine wpList_load_row rfl 42 (.tmp 8) rfl b8 rfl 42 es (0,0) _ HE.out.1 Tryz.underlying42 rfl (by rw [HE.out.2.1];exact infoRT1) ?_) | (refine wpList_store_row rfl 42 (.tmp 4) (.tmp 29) rfl b1 es rfl rfl 42 (rtV rt0).toArray (HZ.out _ H11.out.2.1) (by rw [HE.out.2.1];exact infoRT1) (by rw [HE.out.2.1];rfl) HE.out.2.2.1 ?_))
   refine bodyPost_ret (retT2 Tryz.results31 (setRow_heap w11 b1 _ _ _ _ (HZ.out _ H11.out.2.1)) HE.out.2.1 rfl rfl) rfl ?_
   have hbz:Below w.heap.size w (w11.setRow b1 es):=below_setRow (H1.out.1.trans ((H3.out.1.trans (H11.out.2.1.mono H3.out.1.size)).mono H1.out.1.size)) H1.out.2.2 es
   have h13:=H3.out.1.size
   have hlt1:=H1.out.2.1.lt
   have rm:=(H3.out.2.1.below H11.out.2.1).kept (setRow_other w11 b1 q1 es (by have:=H3.out.2.2.1;omega))
   have ro:=H11.out.2.2.kept (setRow_other w11 b1 q2 es (by have:=HR2.out.2.1;omega))
   have vm:=rm.vs
   have vo:=ro.vs
   rw [HN.out.box.flen] at vm vo
   exact ⟨rtN c r q1 k1 q2 k2 tabs0,by rw [HE.out.2.2.2];rfl,⟨rfl,hbz,vm,H3.out.2.2.2.1,vo,HR2.out.2.2.1,⟨fun ad e=>by injection e with e;rw [← e];have:=H3.out.2.2.1;have:=H1.out.1.size;show w.heap.size≤q1;omega,fun ad e=>by injection e with e;rw [← e];have:=HR2.out.2.1;have:=H1.out.1.size;show w.heap.size≤q2;omega⟩,⟨rfl,rfl,rfl,rfl,rfl,rfl,rfl,rfl,rfl,rfl,rfl⟩⟩⟩
 · rw [if_pos (by rfl)]
   go_simp
   rw [zeroRT]
   obtain ⟨b8,hb8⟩:∃ b8,b8=w4.heap.size:=⟨_,rfl⟩
   obtain ⟨w5,hw5⟩:∃ w5,w5=w4.alloc (.cells (rtV rt0).toArray 42):=⟨_,rfl⟩
   have HA:=Lib.hid (show Below w4.heap.size w4 w5∧RtB w5 b8 rt0∧w3.heap.size≤b8 from ⟨by rw [hw5];exact (Below.refl _ _).alloc (Nat.le_refl _) _,by rw [hw5,hb8];exact heap_alloc_new w4 _,by rw [hb8];exact (HD.out).size⟩)
   have HBC:=Lib.hid (show Below w3.heap.size w3 w5 from (HD.out).trans (HA.out.1.mono (HD.out).size))
   rw [← hw5,← hb8]
   have HLT:=Lib.hid (show b8<w5.heap.size from HA.out.2.1.lt)
   clear hw5 hb8
   refine hK.out _ _ (SX.out _ HBC.out) (fun hHeld=>?_)
   clear hK K
   try simp only [Act.put,List.getElem_toArray,List.getElem_cons_succ,List.getElem_cons_zero]
   try simp only [List.setIfInBounds_toArray]
   try simp only [List.set_cons_succ]
   try simp only [List.set_cons_zero]
   refine wpAnyH_ready (rs:=[4]) (by kernel_rfl) (by simp) (AllReadyH.cons rfl (fun K hK=>?_) AllReadyH.nil)
   rw [if_pos (by rfl)]
   go_simp
   refine (HCP.out w5 HBC.out).mono ?_
   rintro e w6 ⟨hb5,q2,k2,rfl,hq2,hk2,hm2,hR2⟩
   have HB5:=Lib.hid (show Below w3.heap.size w3 w6 from (HBC.out).trans (hb5.mono (HBC.out).size))
   have HR2:=Lib.hid (show Rw ceV 66 w6 q2 (List.replicate r (blanksS c pn0)).flatten∧w3.heap.size≤q2∧r*c≤k2∧k2≤maxLen from ⟨hR2,Nat.le_trans (HBC.out).size hq2,hk2,hm2⟩)
   have HA6:=Lib.hid (show RtB w6 b8 rt0∧w5.heap.size≤q2 from ⟨HA.out.2.1.below hb5,hq2⟩)
   clear hb5 hq2 hk2 hm2 hR2
   refine hK.out _ _ (SX.out _ HB5.out) (fun hHeld=>?_)
   clear hK K
   try simp only [Act.put,List.getElem_toArray,List.getElem_cons_succ,List.getElem_cons_zero]
   try simp only [List.setIfInBounds_toArray]
   try simp only [List.set_cons_succ]
   try simp only [List.set_cons_zero]
   obtain ⟨cs,hcs⟩:∃ cs,cs=(rtV (rtN c r q1 k1 q2 k2 (List.replicate 80 false))).toArray:=⟨_,rfl⟩
   have hbd:=built_refnew c r q1 k1 q2 k2
   rw [← hcs] at hbd
   unfold partsN at hbd
   have HBD:=Lib.hid hbd
   clear hbd
   have HCS:=Lib.hid hcs
   clear hcs
   refine tkH 7 (.agg cs) rfl (.inl ⟨by rfl,fun wz hSz=>?_⟩) hHeld ?_
   · exact yields_build5 rfl (.int .i64 (c:Int)) (.int .i64 (r:Int)) (.agg #[.int .i64 (c:Int),.int .i64 (r:Int),.slice (some ⟨q1,0,none⟩) (r*c) k1]) (.agg #[.int .i64 (c:Int),.int .i64 (r:Int),.slice (some ⟨q2,0,none⟩) (r*c) k2]) (.int .i64 ((r:Int)-1)) rfl rfl rfl rfl rfl cs HBD.out
   simp only [Act.put,List.getElem_toArray,List.getElem_cons_succ,List.getElem_cons_zero,List.setIfInBounds_toArray,List.set_cons_succ,List.set_cons_zero]
   refine wpAnyH_ready (rs:=[9]) (by kernel_rfl) (by simp) (AllReadyH.cons rfl (fun K hK=>?_) AllReadyH.nil)
   rw [if_pos (by rfl)]
   refine wp_store_row 42 (.tmp 8) (.tmp 26) rfl b8 cs rfl rfl 42 (rtV rt0).toArray (HA6.out.1) (by rw [HCS.out];exact infoRT1) (by rw [HCS.out];rfl) (by rw [HCS.out];exact rt_one _) ?_
   have HW6:=Lib.hid (show RtB (w6.setRow b8 cs) b8 (rtN c r q1 k1 q2 k2 (List.replicate 80 false))∧Below w3.heap.size w3 (w6.setRow b8 cs)∧Rw ceV 66 (w6.setRow b8 cs) q2 (List.replicate r (blanksS c pn0)).flatten from ⟨by rw [HCS.out];exact setRow_heap w6 _ _ _ _ _ (HA6.out.1),below_setRow HB5.out HA.out.2.2 _,HR2.out.1.kept (setRow_other w6 b8 q2 _ (by have:=HLT.out;have:=HA6.out.2;omega))⟩)
   generalize w6.setRow b8 cs=w9 at HW6 ⊢
   refine hK.out _ _ (SX.out _ HW6.out.2.1) (fun hHeld=>?_)
   clear hK K
   try simp only [Act.put,List.getElem_toArray,List.getElem_cons_succ,List.getElem_cons_zero]
   try simp only [List.setIfInBounds_toArray]
   try simp only [List.set_cons_succ]
   try simp only [List.set_cons_zero]
   refine wpAnyH_done (by kernel_rfl) ?_ _
   go_wp2_with fail
   refine (refTabs_any w9).mono ?_
   rintro e w10 ⟨rfl,hb10⟩
   have HR10:=Lib.hid (HW6.out.1.below hb10)
   have HB10:=Lib.hid (show Below w3.heap.size w3 w10 from HW6.out.2.1.trans (hb10.mono HW6.out.2.1.size))
   have HRW:=Lib.hid (HW6.out.2.2.below hb10)
   clear hb10
   have hth:w10.there b8 30 80:=fun j hj=>⟨by rw [cell_of_row _ _ _ _ _ _ HR10.out];simp only [List.getElem?_toArray];rw [List.getElem?_eq_getElem (by rw [rtV_len (by rfl)];omega)];rfl,HR10.out.free _⟩
   have HTH:=Lib.hid hth
   clear hth
   go_upto_region 6 with (refine wpList_store_mid rfl 34 (.tmp 28) (.tmp 27) rfl b8 30 (tabs0.map Value.bool).toArray rfl rfl HTH.out (by kernel_rfl) (by decide +kernel) ?_)
   obtain ⟨o1,o2,o3,o4,o5,o6⟩:=setCells_row b8 42 (tabs0.map Value.bool) 30 (rtV (rtN c r q1 k1 q2 k2 (List.replicate 80 false))) w10 HR10.out (by rw [rtV_len (by rfl)];decide)
   have e0:(rtV (rtN c r q1 k1 q2 k2 (List.replicate 80 false))).take 30 ++ ((tabs0.map Value.bool) ++ (rtV (rtN c r q1 k1 q2 k2 (List.replicate 80 false))).drop (30+(tabs0.map Value.bool).length))=rtV (rtN c r q1 k1 q2 k2 tabs0):=rtN_tabs c r q1 k1 q2 k2
   rw [e0] at o1
   have H11:=Lib.hid (show RtB (w10.setCells b8 30 (tabs0.map Value.bool)) b8 (rtN c r q1 k1 q2 k2 tabs0)∧Below w3.heap.size w3 (w10.setCells b8 30 (tabs0.map Value.bool))∧Rw ceV 66 (w10.setCells b8 30 (tabs0.map Value.bool)) q2 (List.replicate r (blanksS c pn0)).flatten from ⟨o1,⟨o4.trans HB10.out.os,o5.trans HB10.out.tape,o6.trans HB10.out.output,by rw [o3];exact HB10.out.size,fun q hq=>(o2 q (by have:=HA.out.2.2;omega)).trans (HB10.out.block q hq)⟩,HRW.out.kept (o2 q2 (by have:=HLT.out;have:=HA6.out.2;omega))⟩)
   show (Code.region 6 _ _).wp _ _ _ (w10.setCells b8 30 (tabs0.map Value.bool))
   generalize w10.setCells b8 30 (tabs0.map Value.bool)=w11 at H11 ⊢
   clear o1 o2 o3 o4 o5 o6 e0
   obtain ⟨es,hes⟩:∃ es,es=(rtV (rtN c r q1 k1 q2 k2 tabs0)).toArray:=⟨_,rfl⟩
   have hE1:w11.heap[b8]?=some (.cells es 42 (0,0)):=by rw [hes];exact H11.out.1
   have hE2:es.size=116:=by rw [hes,List.size_toArray];exact rtV_len rfl
   have hE3:es.all (·.oneCell')=true:=by rw [hes];exact rt_one _
   have HE:=Lib.hid (And.intro hE1 (And.intro hE2 (And.intro hE3 hes)))
   clear hE1 hE2 hE3 hes
   go_wp2_with (first | (refine wpList_load_row rfl 42 (.tmp 8) rfl b8 rfl 42 es (0,0) _ HE.out.1 Tryz.underlying42 rfl (by rw [HE.out.2.1];exact infoRT1) ?_) | (refine wpList_store_row rfl 42 (.tmp 4) (.tmp 29) rfl b1 es rfl rfl 42 (rtV rt0).toArray (HZ.out _ H11.out.2.1) (by rw [HE.out.2.1];exact infoRT1) (by rw [HE.out.2.1];rfl) HE.out.2.2.1 ?_))
   refine bodyPost_ret (retT2 Tryz.results31 (setRow_heap w11 b1 _ _ _ _ (HZ.out _ H11.out.2.1)) HE.out.2.1 rfl rfl) rfl ?_
   have hbz:Below w.heap.size w (w11.setRow b1 es):=below_setRow (H1.out.1.trans ((H3.out.1.trans (H11.out.2.1.mono H3.out.1.size)).mono H1.out.1.size)) H1.out.2.2 es
   have h13:=H3.out.1.size
   have hlt1:=H1.out.2.1.lt
   have rm:=(H3.out.2.1.below H11.out.2.1).kept (setRow_other w11 b1 q1 es (by have:=H3.out.2.2.1;omega))
   have ro:=H11.out.2.2.kept (setRow_other w11 b1 q2 es (by have:=HR2.out.2.1;omega))
   have vm:=rm.vs
   have vo:=ro.vs
   rw [HN.out.box.flen] at vm vo
   exact ⟨rtN c r q1 k1 q2 k2 tabs0,by rw [HE.out.2.2.2];rfl,⟨rfl,hbz,vm,H3.out.2.2.2.1,vo,HR2.out.2.2.1,⟨fun ad e=>by injection e with e;rw [← e];have:=H3.out.2.2.1;have:=H1.out.1.size;show w.heap.size≤q1;omega,fun ad e=>by injection e with e;rw [← e];have:=HR2.out.2.1;have:=H1.out.1.size;show w.heap.size≤q2;omega⟩,⟨rfl,rfl,rfl,rfl,rfl,rfl,rfl,rfl,rfl,rfl,rfl⟩⟩⟩
end
open Go.RowKit
theorem yieldsIf_load_row {P:Program} {ops:Array Oper} {S:World→Prop} {op:Oper} {a:Act} (hw:Region.wanted op (yielded ops a.tmps)=true) (ty:TypeId) (x:Operand) (ho:op.op=.load ty x)
  (g:Nat) (hx:a.eval x=.pointer (some ⟨g,0,none⟩)) (cs:Array Value) (d:TypeDesc) (hS:∀ w,S w→w.heap[g]?=some (.cells cs ty (0,0)))
  (hu:P.underlying ty=some d) (hd:(match d with | .struct _ | .array _ _=>true | _=>false)=true) (hi:(P.info? ty).map (·.size)=some cs.size):YieldsIf P ops S op (.agg cs) a :=
 .inl ⟨hw,fun w hw'=>by
  unfold execOp
  simp only [ho,hx,Instr.loadAt,Instr.sureAddr,Sem.run_bind,Sem.run_pure,Result.andThen_ok,run_loadVar_row w g ty ty cs (0,0) d (hS w hw') hu hd hi]⟩
end Go.Proofs.YtlcipgdnpilkfaaGreatDoor
