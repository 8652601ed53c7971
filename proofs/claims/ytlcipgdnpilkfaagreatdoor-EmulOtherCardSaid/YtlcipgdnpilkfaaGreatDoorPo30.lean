/-
  Part 30 of what the laws of emul want: EmulBegin, EmulReset, EmulNew, LinksCopy, LinksMay, LinksText.
-/
import Derived.LoopTactic
import Derived.IntWalk
import Derived.Test.YtlcipgdnpilkfaaGreatDoorPo01
import Derived.Test.YtlcipgdnpilkfaaGreatDoorPo17
import Derived.Test.YtlcipgdnpilkfaaGreatDoorPo19
import Derived.Test.YtlcipgdnpilkfaaGreatDoorPo29
namespace Go.Proofs.YtlcipgdnpilkfaaGreatDoor
open Go.RowKit
section
variable {B:Nat} {w:World} {g:Nat} {x:CT} {A:Option Addr} {n c:Nat} {ps:List Int}
def begT (c r q1 k1 q2 k2:Nat):CT:=⟨tmNew c r,0,fun _=>False,q1,r*c,k1,q2,r*c,k2,ByteArray.empty,none,0,0⟩
def stC (x:CT):List Value:=(ctV x).drop 1
theorem stC_len {x:CT} (h:x.t.tabs.length=80):(stC x).length=111:=by unfold stC;rw [List.length_drop,ctV_len h]
def partsB (c r q1 k1 q2 k2:Nat):List (Nat × Value):=[(2,.agg (gV (c:Int) (r:Int) (some ⟨q1,0,none⟩) (r*c) k1)),(3,.agg (gV (c:Int) (r:Int) (some ⟨q2,0,none⟩) (r*c) k2)),(7,.int .i64 ((r:Int)-1)),(8,.bool true),(12,.agg (tabs0.map Value.bool).toArray)]
theorem built_state (c r q1 k1 q2 k2:Nat):Tryz.prog.built 91 (partsB c r q1 k1 q2 k2)=some (stC (begT c r q1 k1 q2 k2)).toArray:=by kernel_rfl
theorem wpList_build5 {P:Program} {ops:Array Oper} {rest:List Oper} {o:Oper} {a:Act} {w:World} {Q:Exit→Act→World→Prop} (hg:o.guard=none) (t:TypeId) (i1 i2 i3 i4 i5:Nat) (x1 x2 x3 x4 x5:Operand) (ho:o.op=.build t #[(i1,x1),(i2,x2),(i3,x3),(i4,x4),(i5,x5)])
  (v1 v2 v3 v4 v5:Value) (h1:a.eval x1=v1) (h2:a.eval x2=v2) (h3:a.eval x3=v3) (h4:a.eval x4=v4) (h5:a.eval x5=v5) (cells:Array Value) (hb:P.built t [(i1,v1),(i2,v2),(i3,v3),(i4,v4),(i5,v5)]=some cells) (h:wpList P ops Q rest (a.put o.dst (.agg cells)) w):wpList P ops Q (o :: rest) a w:=by
 have e:(#[(i1,x1),(i2,x2),(i3,x3),(i4,x4),(i5,x5)].map fun (p:Nat × Operand)=>(p.1,a.eval p.2)).toList=[(i1,v1),(i2,v2),(i3,v3),(i4,v4),(i5,v5)]:=by simp [h1,h2,h3,h4,h5]
 exact wpList_build hg t #[(i1,x1),(i2,x2),(i3,x3),(i4,x4),(i5,x5)] ho (by rw [e,hb];rfl) (by rw [e,hb];exact h)
theorem info91 {x:CT} (h:x.t.tabs.length=80):(Tryz.prog.info? 91).map (·.size)=some (stC x).toArray.size:=by
 have e:(stC x).toArray.size=111:=stC_len h
 exact (show (Tryz.prog.info? 91).map (·.size)=some 111 from by kernel_rfl).trans (by rw [e])
theorem stC_one (x:CT):(stC x).toArray.all (·.oneCell')=true:=by
 rw [Array.all_eq_true_iff_forall_mem]
 intro v hv
 have hv2:v∈stC x:=by simpa using hv
 exact one_ct x v (List.mem_of_mem_drop (i:=1) hv2)
set_option maxRecDepth 100000 in
set_option maxHeartbeats 1600000 in
theorem beginT_any {c r:Nat} (h1:1≤c) (h2:c≤80) (h3:1≤r) (h4:r≤24) (w:World):Calls Tryz.prog 73 #[.int .i64 (c:Int),.int .i64 (r:Int)] w fun e w'=>∃ q1 k1 q2 k2,e=.returned (.agg (stC (begT c r q1 k1 q2 k2)).toArray)∧Below w.heap.size w w'∧w.heap.size≤q1∧w.heap.size≤q2∧q1≠q2∧r*c≤k1∧k1≤maxLen∧r*c≤k2∧k2≤maxLen∧Rw ceV 66 w' q1 (blankR c r).flatten∧Rw ceV 66 w' q2 (blankR c r).flatten:=by
 have HBL:=Lib.hid (fun w=>blankT_any h1 h2 h3 h4 w)
 have HF:=Lib.hid (fun w=>firstTabs_any w)
 have hl:(blankR c r).flatten.length=r*c:=(gk_blankE h1 h2 h3 h4).box.flen
 have kr:wrap64 ((r:Int)-1)=(r:Int)-1:=by unfold wrap64;omega
 have kr2:IntKind.i64.wrap ((r:Int)-1)=(r:Int)-1:=by clear kr;rw [IntKind.wrap_i64];omega
 obtain ⟨w1,hw1⟩:∃ w1,w1=w.alloc (.cells Tryz.zeroCells91 91):=⟨_,rfl⟩
 have H1:=Lib.hid (show Below w.heap.size w w1∧w1.heap[w.heap.size]?=some (.cells Tryz.zeroCells91 91 (0,0))∧w.heap.size<w1.heap.size from by rw [hw1];exact ⟨(Below.refl _ _).alloc (Nat.le_refl _) _,heap_alloc_new w _,by simp⟩)
 have hz:Tryz.zeroCells91.size=111:=by kernel_rfl
 have HZS:=Lib.hid hz
 clear hz
 go_enter Tryz.func73,Tryz.ntmps73
 go_upto_region 1 with fail
 rw [← hw1]
 clear hw1
 go_wp2_with fail
 refine (HBL.out _).mono ?_
 rintro e w2 ⟨hb1,q1,k1,rfl,hq1,hk1,hm1,hR1⟩
 rw [hl] at hk1 ⊢
 have G1:=Lib.hid (And.intro hb1 (And.intro hq1 (And.intro hk1 (And.intro hm1 hR1))))
 clear hb1 hq1 hk1 hm1 hR1
 unfold gV
 go_wp2_with fail
 refine (HBL.out _).mono ?_
 rintro e w3 ⟨hb2,q2,k2,rfl,hq2,hk2,hm2,hR2⟩
 rw [hl] at hk2 ⊢
 have G2:=Lib.hid (And.intro hb2 (And.intro hq2 (And.intro hk2 (And.intro hm2 hR2))))
 clear hb2 hq2 hk2 hm2 hR2
 unfold gV
 go_wp2_with fail
 refine (HF.out _).mono ?_
 rintro e w4 ⟨rfl,hb4⟩
 have H4:=Lib.hid hb4
 clear hb4
 have hB:=built_state c r q1 k1 q2 k2
 unfold partsB gV at hB
 have s2:w1.heap.size≤w2.heap.size:=G1.out.1.size
 have s3:w2.heap.size≤w3.heap.size:=G2.out.1.size
 have hZ4:w4.heap[w.heap.size]?=some (.cells Tryz.zeroCells91 91 (0,0)):=(H4.out.block _ (by have:=H1.out.2.2;omega)).trans ((G2.out.1.block _ (by have:=H1.out.2.2;omega)).trans ((G1.out.1.block _ H1.out.2.2).trans H1.out.2.1))
 have HZ4:=Lib.hid hZ4
 clear hZ4 s2 s3
 obtain ⟨cs,hcs⟩:∃ cs,cs=(stC (begT c r q1 k1 q2 k2)).toArray:=⟨_,rfl⟩
 have h80:(begT c r q1 k1 q2 k2).t.tabs.length=80:=by show tabs0.length=80;decide
 have HCS:=Lib.hid (show (Tryz.prog.info? 91).map (·.size)=some cs.size∧cs.all (·.oneCell')=true∧cs.size=111 from by rw [hcs];exact ⟨info91 h80,stC_one _,stC_len h80⟩)
 rw [← hcs] at hB
 have HCE:=Lib.hid hcs
 clear hcs h80
 have HBD:=Lib.hid hB
 clear hB
 go_wp2_with (first | (refine wpList_build5 rfl 91 2 3 7 8 12 (.tmp 7) (.tmp 10) (.tmp 12) (.const (.bool true)) (.tmp 13) rfl (.agg #[.int .i64 (c:Int),.int .i64 (r:Int),.slice (some ⟨q1,0,none⟩) (r*c) k1]) (.agg #[.int .i64 (c:Int),.int .i64 (r:Int),.slice (some ⟨q2,0,none⟩) (r*c) k2]) (.int .i64 ((r:Int)-1)) (.bool true) (.agg (tabs0.map Value.bool).toArray) rfl rfl rfl rfl rfl cs HBD.out ?_) | (refine wpList_store_row rfl 91 (.tmp 4) (.tmp 14) rfl w.heap.size cs rfl rfl 91 _ HZ4.out HCS.out.1 (by rw [HZS.out,HCS.out.2.2]) HCS.out.2.1 ?_))
 have hR:(w4.setRow w.heap.size cs).heap[w.heap.size]?=some (.cells cs 91 (0,0)):=setRow_heap w4 _ _ _ _ _ HZ4.out
 have hq1:w1.heap.size≤q1:=G1.out.2.1
 have hq2:w2.heap.size≤q2:=G2.out.2.1
 have hq3:q1<w2.heap.size:=G1.out.2.2.2.2.lt
 have hlt:=H1.out.2.2
 have hbb:=(H1.out.1.trans ((G1.out.1.mono H1.out.1.size))).trans ((G2.out.1.mono (Nat.le_trans H1.out.1.size G1.out.1.size)).trans (H4.out.mono (Nat.le_trans H1.out.1.size (Nat.le_trans G1.out.1.size G2.out.1.size))))
 refine bodyPost_ret (results_cell_row rfl _ _ w.heap.size 91 cs (0,0) _ rfl hR Tryz.underlying91 rfl HCS.out.1) rfl ?_
 refine ⟨q1,k1,q2,k2,by rw [HCE.out],below_setRow hbb (Nat.le_refl _) _,by omega,by omega,by omega,G1.out.2.2.1,G1.out.2.2.2.1,G2.out.2.2.1,G2.out.2.2.2.1,?_,?_⟩
 · have h5:=(G1.out.2.2.2.2.below G2.out.1).below H4.out
   exact h5.kept (setRow_other _ _ _ _ (by omega))
 · have h5:=G2.out.2.2.2.2.below H4.out
   exact h5.kept (setRow_other _ _ _ _ (by omega))
end
open Go.RowKit
section
variable {B:Nat} {w:World} {g:Nat} {x:CT} {A:Option Addr} {n c:Nat} {ps:List Int}
def CT.anew (x:CT) (q1 k1 q2 k2:Nat):CT:={ begT x.t.c x.t.r q1 k1 q2 k2 with t:={ tmNew x.t.c x.t.r with p:=x.t.p },pd:=x.pd,PS:=x.PS }
theorem begT_tabs (c r q1 k1 q2 k2:Nat):(begT c r q1 k1 q2 k2).t.tabs.length=80:=by show tabs0.length=80;decide
theorem ctV_anew (x:CT) (h:x.t.tabs.length=80) (q1 k1 q2 k2:Nat):(ctV x).take 1 ++ (stC (begT x.t.c x.t.r q1 k1 q2 k2) ++ (ctV x).drop (1+111))=ctV (x.anew q1 k1 q2 k2):=by
 rw [List.drop_eq_nil_of_le (by rw [ctV_len h];exact Nat.le_refl _),List.append_nil]
 rfl
theorem Cz.anew {w':World} {q1 k1 q2 k2:Nat} (h:Cz B w g x) (hb:Below w.heap.size w w') (hq1:w.heap.size≤q1) (hq2:w.heap.size≤q2) (hne:q1≠q2) (hk1:x.t.r*x.t.c≤k1) (hm1:k1≤maxLen) (hk2:x.t.r*x.t.c≤k2) (hm2:k2≤maxLen)
  (hr1:Rw ceV 66 w' q1 (blankR x.t.c x.t.r).flatten) (hr2:Rw ceV 66 w' q2 (blankR x.t.c x.t.r).flatten) :
  CzTo B g x { tmNew x.t.c x.t.r with p:=x.t.p } w (w'.setCells g 1 (stC (begT x.t.c x.t.r q1 k1 q2 k2))) (x.anew q1 k1 q2 k2):=by
 have hs:=stC_len (begT_tabs x.t.c x.t.r q1 k1 q2 k2)
 have hw:=(Array.getElem?_eq_some_iff.1 (h.raw.below hb).blk)
 obtain ⟨_,o2,_,_,_,_⟩:=setCells_row g 93 (stC (begT x.t.c x.t.r q1 k1 q2 k2)) 1 (ctV x) w' (h.raw.below hb).blk (by rw [hs,ctV_len h.ok.tabs];exact Nat.le_refl _)
 have R:=(h.raw.below hb).sets 1 (stC (begT x.t.c x.t.r q1 k1 q2 k2)) (by rw [hs,ctV_len h.ok.tabs];exact Nat.le_refl _)
 rw [hs,ctV_anew x h.ok.tabs] at R
 have hlt:=h.lt
 have hB:=h.bB
 have r1:=hr1.kept (o2 q1 (by omega))
 have r2:=hr2.kept (o2 q2 (by omega))
 generalize w'.setCells g 1 (stC (begT x.t.c x.t.r q1 k1 q2 k2))=w2 at R r1 r2 ⊢
 have hkp:∀ b,b<w.heap.size→b≠g→w2.heap[b]?=w.heap[b]?:=fun b hb hne=>R.gr.block b hb (fun e=>hne (by injection e))
 have gm:=h.ok.gm
 have F:=TmOk.fresh gm.c1 gm.c80 gm.r1 gm.r24
 have hok:TmOk ({ tmNew x.t.c x.t.r with p:=x.t.p }:Tm):={ F with }
 have hout:OutB B (CB g x) w w2:=⟨⟨R.gr.os,R.gr.tape,R.gr.output,R.gr.size,fun b hb=>hkp b (by omega) (fun e=>by have:=h.gB;omega)⟩,fun b hb hS=>hkp b hb (fun e=>hS (.inl e))⟩
 refine ⟨rfl,⟨R.blk,h.gB,hok,r1,by show B≤q1;omega,rfl,⟨hk1,hm1⟩,r2,by show B≤q2;omega,rfl,⟨hk2,hm2⟩,hne,h.p.kept R.gr.size fun b hb=>hkp b (h.p.hi b hb) (fun e=>h.gp (e ▸ hb)),Tx.nil B w2,rfl,fun s hs=>by cases hs⟩,hout,?_⟩
 rintro b (rfl | rfl | rfl | hb | hb)
 · exact .inl (.inl rfl)
 · exact .inr hq1
 · exact .inr hq2
 · exact .inl (.inr (.inr (.inr (.inl hb))))
 · cases hb
set_option maxRecDepth 100000 in
set_option maxHeartbeats 1600000 in
theorem resetT_any (h:Cz B w g x):Calls Tryz.prog 112 #[.pointer (some ⟨g,0,none⟩),.slice A n c] w (CzP B g x (Dd.reset.run ps x.t) w):=by
 have HD:=Lib.hid (show Below w.heap.size w w.drew from (Below.refl _ _).drew)
 have HZ:=Lib.hid h
 have gm:=h.ok.gm
 have HB:=Lib.hid (fun w':World=>beginT_any gm.c1 gm.c80 gm.r1 gm.r24 w')
 clear gm
 show Calls _ _ _ _ (CzP B g x { tmNew x.t.c x.t.r with p:=x.t.p } w)
 have c15:w.cell? ⟨g,15,none⟩=some (.int .i64 x.t.c):=h.cell rfl
 have c16:w.cell? ⟨g,16,none⟩=some (.int .i64 x.t.r):=h.cell rfl
 clear h
 go_enter Tryz.func112,Tryz.ntmps112
 go_wp2_with fail
 refine wp_region_noPanic ?_
 refine wp_region_held_drew (S:=fun w'=>Below B w w'∧w'.cell? ⟨g,15,none⟩=some (.int .i64 x.t.c)∧w'.cell? ⟨g,16,none⟩=some (.int .i64 x.t.r)) (by kernel_rfl) (⟨(Below.refl _ _).drew,c15,c16⟩) (fun hHeld=>?_)
 clear c15 c16
 generalize w.drew=w2 at HD hHeld ⊢
 refine tkH 0 (.pointer (some ⟨g,0,none⟩)) rfl (.inl ⟨by rfl,fun wz hSz=>?_⟩) hHeld ?_
 · go_simp
 simp only [Act.put,List.getElem_toArray,List.getElem_cons_zero,List.setIfInBounds_toArray,List.set_cons_succ,List.set_cons_zero]
 refine tkH 1 (.pointer (some ⟨g,0,none⟩)) rfl (.inl ⟨by rfl,fun wz hSz=>?_⟩) hHeld ?_
 · go_simp
 simp only [Act.put,List.getElem_toArray,List.getElem_cons_succ,List.getElem_cons_zero,List.setIfInBounds_toArray,List.set_cons_succ,List.set_cons_zero]
 refine tkH 2 (.pointer (some ⟨g,0,none⟩)) rfl (.inl ⟨by rfl,fun wz hSz=>?_⟩) hHeld ?_
 · go_simp
 simp only [Act.put,List.getElem_toArray,List.getElem_cons_succ,List.getElem_cons_zero,List.setIfInBounds_toArray,List.set_cons_succ,List.set_cons_zero]
 refine tkH 3 (.pointer (some ⟨g,1,none⟩)) rfl (.inl ⟨by rfl,fun wz hSz=>?_⟩) hHeld ?_
 · go_simp
 simp only [Act.put,List.getElem_toArray,List.getElem_cons_succ,List.getElem_cons_zero,List.setIfInBounds_toArray,List.set_cons_succ,List.set_cons_zero]
 refine tkH 4 (.pointer (some ⟨g,15,none⟩)) rfl (.inl ⟨by rfl,fun wz hSz=>?_⟩) hHeld ?_
 · go_simp
 simp only [Act.put,List.getElem_toArray,List.getElem_cons_succ,List.getElem_cons_zero,List.setIfInBounds_toArray,List.set_cons_succ,List.set_cons_zero]
 refine tkH 5 (.pointer (some ⟨g,15,none⟩)) rfl (.inl ⟨by rfl,fun wz hSz=>?_⟩) hHeld ?_
 · go_simp
 simp only [Act.put,List.getElem_toArray,List.getElem_cons_succ,List.getElem_cons_zero,List.setIfInBounds_toArray,List.set_cons_succ,List.set_cons_zero]
 refine tkH 6 (.int .i64 x.t.c) rfl (.inl ⟨by rfl,fun wz hSz=>?_⟩) hHeld ?_
 · obtain ⟨_,d15,d16⟩:=hSz
   go_simp
 simp only [Act.put,List.getElem_toArray,List.getElem_cons_succ,List.getElem_cons_zero,List.setIfInBounds_toArray,List.set_cons_succ,List.set_cons_zero]
 refine tkH 7 (.pointer (some ⟨g,0,none⟩)) rfl (.inl ⟨by rfl,fun wz hSz=>?_⟩) hHeld ?_
 · go_simp
 simp only [Act.put,List.getElem_toArray,List.getElem_cons_succ,List.getElem_cons_zero,List.setIfInBounds_toArray,List.set_cons_succ,List.set_cons_zero]
 refine tkH 8 (.pointer (some ⟨g,0,none⟩)) rfl (.inl ⟨by rfl,fun wz hSz=>?_⟩) hHeld ?_
 · go_simp
 simp only [Act.put,List.getElem_toArray,List.getElem_cons_succ,List.getElem_cons_zero,List.setIfInBounds_toArray,List.set_cons_succ,List.set_cons_zero]
 refine tkH 9 (.pointer (some ⟨g,1,none⟩)) rfl (.inl ⟨by rfl,fun wz hSz=>?_⟩) hHeld ?_
 · go_simp
 simp only [Act.put,List.getElem_toArray,List.getElem_cons_succ,List.getElem_cons_zero,List.setIfInBounds_toArray,List.set_cons_succ,List.set_cons_zero]
 refine tkH 10 (.pointer (some ⟨g,15,none⟩)) rfl (.inl ⟨by rfl,fun wz hSz=>?_⟩) hHeld ?_
 · go_simp
 simp only [Act.put,List.getElem_toArray,List.getElem_cons_succ,List.getElem_cons_zero,List.setIfInBounds_toArray,List.set_cons_succ,List.set_cons_zero]
 refine tkH 11 (.pointer (some ⟨g,16,none⟩)) rfl (.inl ⟨by rfl,fun wz hSz=>?_⟩) hHeld ?_
 · go_simp
 simp only [Act.put,List.getElem_toArray,List.getElem_cons_succ,List.getElem_cons_zero,List.setIfInBounds_toArray,List.set_cons_succ,List.set_cons_zero]
 refine tkH 12 (.int .i64 x.t.r) rfl (.inl ⟨by rfl,fun wz hSz=>?_⟩) hHeld ?_
 · obtain ⟨_,d15,d16⟩:=hSz
   go_simp
 simp only [Act.put,List.getElem_toArray,List.getElem_cons_succ,List.getElem_cons_zero,List.setIfInBounds_toArray,List.set_cons_succ,List.set_cons_zero]
 refine wpAnyH_ready (rs:=[13]) (by kernel_rfl) (by simp) (AllReadyH.cons rfl (fun K hK=>?_) AllReadyH.nil)
 rw [if_pos (by rfl)]
 go_simp
 refine (HB.out _).mono ?_
 rintro e w3 ⟨q1,k1,q2,k2,rfl,hb,hq1,hq2,hne,hk1,hm1,hk2,hm2,hr1,hr2⟩
 have hb3:=HD.out.trans (hb.mono HD.out.size)
 have X:=Lib.hid (HZ.out.anew hb3 (Nat.le_trans HD.out.size hq1) (Nat.le_trans HD.out.size hq2) hne hk1 hm1 hk2 hm2 hr1 hr2)
 have Z:=HZ.out.below hb3
 have h3:=Lib.hid (And.intro (hb3.mono HZ.out.bB) Z)
 have hth:w3.there g 1 111:=fun j hj=>⟨by rw [cell_of_row _ _ _ _ _ _ Z.blk];simp only [List.getElem?_toArray];rw [List.getElem?_eq_getElem (by rw [ctV_len Z.ok.tabs];omega)];rfl,Z.fr _⟩
 have HTH:=Lib.hid hth
 clear hb hb3 hq1 hq2 hne hk1 hm1 hk2 hm2 hr1 hr2 Z hth
 obtain ⟨cs,hcs⟩:∃ cs,cs=stC (begT x.t.c x.t.r q1 k1 q2 k2):=⟨_,rfl⟩
 have HCS:=Lib.hid (show (Tryz.prog.info? 91).map (·.size)=some cs.toArray.size∧cs.toArray.all (·.oneCell')=true∧cs.toArray.size=111 from by rw [hcs];exact ⟨info91 (begT_tabs _ _ _ _ _ _),stC_one _,stC_len (begT_tabs _ _ _ _ _ _)⟩)
 rw [← hcs] at X ⊢
 clear hcs
 refine hK.out _ _ (⟨h3.out.1,h3.out.2.cell rfl,h3.out.2.cell rfl⟩) (fun hHeld=>?_)
 clear hK K
 try simp only [Act.put,List.getElem_toArray,List.getElem_cons_succ,List.getElem_cons_zero]
 try simp only [List.setIfInBounds_toArray]
 try simp only [List.set_cons_succ]
 try simp only [List.set_cons_zero]
 refine tkH 14 (.pointer (some ⟨g,0,none⟩)) rfl (.inl ⟨by rfl,fun wz hSz=>?_⟩) hHeld ?_
 · go_simp
 simp only [Act.put,List.getElem_toArray,List.getElem_cons_succ,List.getElem_cons_zero,List.setIfInBounds_toArray,List.set_cons_succ,List.set_cons_zero]
 refine tkH 15 (.pointer (some ⟨g,1,none⟩)) rfl (.inl ⟨by rfl,fun wz hSz=>?_⟩) hHeld ?_
 · go_simp
 simp only [Act.put,List.getElem_toArray,List.getElem_cons_succ,List.getElem_cons_zero,List.setIfInBounds_toArray,List.set_cons_succ,List.set_cons_zero]
 refine wpAnyH_ready (rs:=[16]) (by kernel_rfl) (by simp) (AllReadyH.cons rfl (fun K hK=>?_) AllReadyH.nil)
 rw [if_pos (by rfl)]
 refine wp_store_mid 91 (.tmp 19) (.tmp 17) rfl g 1 cs.toArray rfl rfl (by rw [HCS.out.2.2];exact HTH.out) HCS.out.1 HCS.out.2.1 ?_
 refine hK.out _ _ ⟨X.out.out.bel,by have:=X.out.cz.cell (k:=15) (v:=.int .i64 x.t.c) rfl;exact this,by have:=X.out.cz.cell (k:=16) (v:=.int .i64 x.t.r) rfl;exact this⟩ (fun hHeld=>?_)
 clear hK K
 refine wpAnyH_done (by kernel_rfl) ?_ _
 refine NoPanic.normal ?_
 go_end0
 exact ⟨rfl,_,X.out⟩
end
open Go.RowKit
section
variable {B:Nat} {w:World} {g:Nat} {x:CT} {A:Option Addr} {n c:Nat} {ps:List Int}
theorem wpList_buildTwo {P:Program} {ops:Array Oper} {rest:List Oper} {o:Oper} {a:Act} {w:World} {Q:Exit→Act→World→Prop} (hg:o.guard=none) (t:TypeId) (i j:Nat) (x y:Operand) (ho:o.op=.build t #[(i,x),(j,y)])
  (v u:Value) (hx:a.eval x=v) (hy:a.eval y=u) (cells:Array Value) (hb:P.built t [(i,v),(j,u)]=some cells) (h:wpList P ops Q rest (a.put o.dst (.agg cells)) w):wpList P ops Q (o :: rest) a w:=by
 have e:(#[(i,x),(j,y)].map fun (p:Nat × Operand)=>(p.1,a.eval p.2)).toList=[(i,v),(j,u)]:=by simp [hx,hy]
 exact wpList_build hg t #[(i,x),(j,y)] ho (by rw [e,hb];rfl) (by rw [e,hb];exact h)
def CT.born (c r q1 k1 q2 k2 p:Nat) (S:Nat→Prop):CT:={ begT c r q1 k1 q2 k2 with pd:=p,PS:=S }
theorem built_term (c r q1 k1 q2 k2 p:Nat) (S:Nat→Prop):Tryz.prog.built 93 [(0,.pointer (some ⟨p,0,none⟩)),(1,.agg (stC (begT c r q1 k1 q2 k2)).toArray)]=some (ctV (CT.born c r q1 k1 q2 k2 p S)).toArray:=by kernel_rfl
theorem Cz.born {B:Nat} {w w':World} {c r q1 k1 q2 k2 p:Nat} {S:Nat→Prop} (h1:1≤c) (h2:c≤80) (h3:1≤r) (h4:r≤24) (hB:B≤w.heap.size) (hw:w'=w.alloc (.cells (ctV (CT.born c r q1 k1 q2 k2 p S)).toArray 93)) (hp:Pz B w p pa0 S) (hq1:B≤q1) (hq2:B≤q2) (hne:q1≠q2)
  (hk1:r*c≤k1) (hm1:k1≤maxLen) (hk2:r*c≤k2) (hm2:k2≤maxLen) (hr1:Rw ceV 66 w q1 (blankR c r).flatten) (hr2:Rw ceV 66 w q2 (blankR c r).flatten):Cz B w' w.heap.size (CT.born c r q1 k1 q2 k2 p S):=by
 have hb:Below w.heap.size w w':=by rw [hw];exact (Below.refl _ _).alloc (Nat.le_refl _) _
 have F:=TmOk.fresh h1 h2 h3 h4
 exact ⟨by rw [hw];exact heap_alloc_new w _,hB,F,hr1.below hb,hq1,rfl,⟨hk1,hm1⟩,hr2.below hb,hq2,rfl,⟨hk2,hm2⟩,hne,hp.kept hb.size fun q hq=>hb.block q (hp.hi q hq),Tx.nil B w',rfl,fun s hs=>by cases hs⟩
def NewT (c r:Int) (w:World) (e:Ending) (w':World):Prop :=
 Below w.heap.size w w'∧((sizeOk c r=true∧∃ B g x,e=.returned (.tuple #[.pointer (some ⟨g,0,none⟩),.int .i64 0])∧w.heap.size≤B∧Cz B w' g x∧x.t=tmNew c.toNat r.toNat)∨(sizeOk c r=false∧e=.returned (.tuple #[.pointer none,.int .i64 1])))
set_option maxRecDepth 100000 in
set_option maxHeartbeats 1600000 in
theorem newT_any (hT:Tabs w) (c r:Int):Calls Tryz.prog 30 #[.int .i64 c,.int .i64 r] w (NewT c r w):=by
 have HT:=Lib.hid hT
 have HN:=Lib.hid (gNew_any (c:=c) (r:=r) w)
 cases hs:sizeOk c r
 · rw [new_no hs] at HN
   have HS:=Lib.hid hs
   clear hs hT
   go_enter Tryz.func30,Tryz.ntmps30
   go_wp2_with fail
   refine HN.out.mono ?_
   rintro e w2 hP
   obtain ⟨rfl,hb⟩:=hP.2 rfl
   have HB:=Lib.hid hb
   clear hP hb
   have X:=Lib.hid (show Gb (w2.alloc (.cells (gV 0 0 none 0 0) 26)) w2.heap.size gr0∧Below w.heap.size w (w2.alloc (.cells (gV 0 0 none 0 0) 26)) from ⟨gb_new w2 gr0,HB.out.alloc HB.out.size _⟩)
   unfold gV at *
   go_wp2_with (refine wpList_store_G rfl (.tmp 6) (.tmp 12) rfl w2.heap.size gr0 gr0 rfl rfl X.out.1 ?_;intro w3 hG3 hg3)
   have hb3:=X.out.2.grown hg3 X.out.2.size (by intro k hk;injection hk with hk;have:=HB.out.size;omega)
   go_ret2
   exact ⟨hb3,.inr ⟨HS.out,rfl⟩⟩
 · have hz:=hs
   unfold sizeOk at hz
   simp only [decide_eq_true_eq] at hz
   obtain ⟨cc,rfl⟩:∃ k:Nat,c=(k:Int):=⟨c.toNat,by omega⟩
   obtain ⟨rr,rfl⟩:∃ k:Nat,r=(k:Int):=⟨r.toNat,by omega⟩
   have h1:1≤cc:=by omega
   have h2:cc≤80:=by omega
   have h3:1≤rr:=by omega
   have h4:rr≤24:=by omega
   rw [new_yes hs] at HN
   have HBG:=Lib.hid (fun w':World=>beginT_any h1 h2 h3 h4 w')
   have HH:=Lib.hid (And.intro h1 (And.intro h2 (And.intro h3 h4)))
   have HS:=Lib.hid hs
   clear hs hz h1 h2 h3 h4 hT
   go_enter Tryz.func30,Tryz.ntmps30
   go_wp2_with fail
   refine HN.out.mono ?_
   rintro e w2 hP
   obtain ⟨v,rfl,hb,q,k,hv,hq,hk,hm,hR⟩:=hP.1 _ _ _ rfl
   injection hv with hv
   subst hv
   have HB:=Lib.hid hb
   clear hP hb hq hk hm hR
   have X:=Lib.hid (show Gb (w2.alloc (.cells (gV 0 0 none 0 0) 26)) w2.heap.size gr0∧Below w.heap.size w (w2.alloc (.cells (gV 0 0 none 0 0) 26)) from ⟨gb_new w2 gr0,HB.out.alloc HB.out.size _⟩)
   unfold gV at *
   go_wp2_with (refine wpList_store_G rfl (.tmp 6) (.tmp 12) rfl w2.heap.size gr0 ⟨_,_,some ⟨q,0,none⟩,_,k⟩ rfl rfl X.out.1 ?_;intro w3 hG3 hg3)
   have hb3:=X.out.2.grown hg3 X.out.2.size (by intro k hk;injection hk with hk;have:=HB.out.size;omega)
   have H3:=Lib.hid hb3
   clear hG3 hg3 hb3 X
   refine (pNew_any (HT.out.below H3.out (Nat.le_refl _))).mono ?_
   rintro e w4 ⟨p,S,rfl,hp,hb4⟩
   have H4:=Lib.hid (And.intro hp hb4)
   clear hp hb4
   go_wp2_with fail
   refine (HBG.out _).mono ?_
   rintro e w5 ⟨q1,k1,q2,k2,rfl,hb5,hq1,hq2,hne,hk1,hm1,hk2,hm2,hr1,hr2⟩
   have h34:w3.heap.size≤w4.heap.size:=H4.out.2.size
   have h45:w4.heap.size≤w5.heap.size:=hb5.size
   have HC:=Lib.hid (Cz.born (B:=w3.heap.size) (p:=p) (S:=S) HH.out.1 HH.out.2.1 HH.out.2.2.1 HH.out.2.2.2 (by omega) rfl (H4.out.1.kept hb5.size fun b hb=>hb5.block b (H4.out.1.hi b hb)) (by omega) (by omega) hne hk1 hm1 hk2 hm2 hr1 hr2)
   have hsz:w.heap.size≤w3.heap.size:=H3.out.size
   have HW:=Lib.hid (show Below w.heap.size w (w5.alloc (.cells (ctV (CT.born cc rr q1 k1 q2 k2 p S)).toArray 93)) from ((H3.out.trans (H4.out.2.mono hsz)).trans (hb5.mono (by omega))).alloc (by omega) _)
   have hbt:=built_term cc rr q1 k1 q2 k2 p S
   obtain ⟨cs,hcs⟩:∃ cs,cs=(ctV (CT.born cc rr q1 k1 q2 k2 p S)).toArray:=⟨_,rfl⟩
   obtain ⟨ds,hds⟩:∃ ds,ds=(stC (begT cc rr q1 k1 q2 k2)).toArray:=⟨_,rfl⟩
   rw [← hcs,← hds] at hbt
   rw [← hcs] at HC HW
   rw [← hds]
   have HD:=Lib.hid hbt
   clear hbt hcs hds hb5 hq1 hq2 hne hk1 hm1 hk2 hm2 hr1 hr2 h34 h45
   go_wp2_with (refine wpList_buildTwo rfl 93 0 1 (.tmp 17) (.tmp 20) rfl (.pointer (some ⟨p,0,none⟩)) (.agg ds) rfl rfl cs HD.out ?_)
   go_ret2
   exact ⟨HW.out,.inl ⟨HS.out,w3.heap.size,w5.heap.size,CT.born cc rr q1 k1 q2 k2 p S,rfl,hsz,HC.out,by rw [Int.toNat_natCast,Int.toNat_natCast];rfl⟩⟩
end
open Go.RowKit
def TxEnd (L:List ByteArray) (w:World) (e:Ending) (w':World):Prop:=∃ v,e=.returned v∧TxPost L w v w'
theorem cloneT_any {w:World} {A:Option Addr} {n c:Nat} {L:List ByteArray} (h:Vs stV w A n L) (hn:n≤1000000) :
  Calls Tryz.prog 239 #[.slice A n c] w (TxEnd L w):=by
 have hrun:=fun (w:World)=>Lib.run_eql_slice_nil (P:=Tryz.prog) w 35 9 A n c 0 0 Tryz.underlying35
 cases A with
 | none =>
  have H0:Hid (n=0):=Lib.hid (by
   rcases Nat.eq_zero_or_pos n with h0 | h0
   · exact h0
   · obtain ⟨ad,e⟩:=h.addr h0;cases e)
  have X:TxEnd L w (.returned (.slice none 0 0)) w:=by
   obtain rfl:L=[]:=List.eq_nil_of_length_eq_zero (h.len.trans H0.out)
   exact ⟨_,rfl,(Tx.nil _ _).post (Below.refl _ _)⟩
  clear h
  go_enter Tryz.func239,Tryz.ntmps239
  go_wp2_with fail
  go_ret
  exact X
 | some ad =>
  have H:=Lib.hid (h.alloc (.cells #[] 9))
  clear h
  go_enter Tryz.func239,Tryz.ntmps239
  go_wp2_with (at_builtin;refine wpList_appT _ rfl _ _ rfl w.heap.size (some ⟨w.heap.size,0,none⟩) 0 0 [] rfl (Tx.mk' (World.ownsRow_lit w #[] 0 (Nat.le_refl _) (by unfold maxLen;omega) rfl)) (some ad) n c n (by omega) L rfl H.out hn (by simp) ?_;intro A' c' w1 hown hg)
  have X:TxEnd L w (.returned (.slice A' n c')) w1:=⟨_,rfl,hown.post (((Below.refl _ _).alloc (Nat.le_refl _) _).grown hg (by simp) (by intro k hk;have:w.heap.size=k:=(by simpa [Value.ownBlock] using hk);omega))⟩
  clear hown hg
  go_ret
  exact X
open Go.RowKit
theorem retBL {a b:Bool} (h:a=b):Ending.returned (.bool a)=.returned (.bool b):=by rw [h]
theorem take_snocB (s:ByteArray) (k:Nat) (h:k<s.size):s.data.toList.take (k+1)=s.data.toList.take k ++ [s[k]]:=by
 rw [List.take_succ_eq_append_getElem (by simpa using h)]
 rfl
theorem mayT_short {s:ByteArray} (h:s.size<1∨64<s.size):mayT s=false:=by
 cases hm:mayT s with
 | false=>rfl
 | true=>have:=mayT_size hm;omega
def okB (l:List UInt8):Bool:=l.all fun c=>decide (33≤c.toNat) && decide (c.toNat≤126)
theorem okB_snoc (l:List UInt8) (c:UInt8):okB (l ++ [c])=(okB l && (decide (33≤c.toNat) && decide (c.toNat≤126))):=by simp [okB,List.all_append]
theorem mayT_is {s:ByteArray} (h1:1≤s.size) (h2:s.size≤64):mayT s=okB s.data.toList:=by unfold mayT okB;simp [h1,h2]
theorem okB_take {l:List UInt8} (k:Nat) (h:okB (l.take k)=false):okB l=false:=by
 cases hm:okB l with
 | false=>rfl
 | true =>
  rw [← List.take_append_drop k l] at hm
  unfold okB at h hm
  rw [List.all_append,h] at hm
  cases hm
set_option maxHeartbeats 400000 in
theorem mayT_any (s:ByteArray) (w:World) (hs:s.size≤140737488351232) :
  Calls Tryz.prog 96 #[.string s] w fun e w'=>e=.returned (.bool (mayT s))∧w=w':=by
 by_cases h1:1≤s.size
 · by_cases h2:s.size≤64
   · have HM:=Lib.hid (mayT_is h1 h2)
     go_enter Tryz.func96,Tryz.ntmps96
     go_wp2
     go_loop [14] (fun i=>∃ k:Nat,k≤s.size∧i=.int .i64 k∧okB (s.data.toList.take k)=true) (fun i=>s.size-(intOf i).toNat)
     case atStart=>exact ⟨0,Nat.zero_le _,rfl,rfl⟩
     case round =>
      obtain ⟨k,hk,rfl,ho⟩:=hrel
      have HO:=Lib.hid ho
      clear ho
      by_cases hlt:k<s.size
      · have hsn:=okB_snoc (s.data.toList.take k) s[k]
        rw [← take_snocB s k hlt,HO.out] at hsn
        have HS:=Lib.hid hsn
        clear hsn
        by_cases hb:33≤s[k].toNat∧s[k].toNat≤126
        · have HB:=Lib.hid hb
          have hb1:=hb.1
          have hb2:=hb.2
          clear hb
          go_wp2
          go_round
          case rel=>exact ⟨k+1,by omega,by go_num,by rw [HS.out];simp [HB.out.1,HB.out.2]⟩
          case measure=>simp [intOf];omega
        · have HR:Hid (mayT s=false):=by
           refine Lib.hid ?_
           rw [HM.out]
           refine okB_take (k+1) ?_
           rw [HS.out]
           simp
           omega
          by_cases hb1:33≤s[k].toNat
          · have hb2:¬ s[k].toNat≤126:=fun x=>hb ⟨hb1,x⟩
            clear hb
            go_wp2
            go_ret
            exact ⟨retBL HR.out.symm,rfl⟩
          · clear hb
            go_wp2
            go_ret
            exact ⟨retBL HR.out.symm,rfl⟩
      · have HR:Hid (mayT s=true):=by
         refine Lib.hid ?_
         rw [HM.out,← HO.out,List.take_of_length_le (by simp;omega)]
        go_wp2
        go_ret
        exact ⟨retBL HR.out.symm,rfl⟩
   · have HR:=Lib.hid (mayT_short (s:=s) (Or.inr (by omega)))
     go_enter Tryz.func96,Tryz.ntmps96
     go_wp2
     go_ret
     exact ⟨retBL HR.out.symm,rfl⟩
 · have HR:=Lib.hid (mayT_short (s:=s) (Or.inl (by omega)))
   go_enter Tryz.func96,Tryz.ntmps96
   go_wp2
   go_ret
   exact ⟨retBL HR.out.symm,rfl⟩
open Go.RowKit
theorem retSL {a b:ByteArray} (h:a=b):Ending.returned (.string a)=.returned (.string b):=by rw [h]
theorem textI_no {t:List ByteArray} {z:Int} (h:z<1∨(t.length:Int)<z):textI t z=eT:=by unfold textI;rw [if_pos h]
theorem textI_yes {t:List ByteArray} {z:Int} (h1:1≤z) (h2:z≤t.length):textI t z=sAt t (z.toNat-1):=by unfold textI;rw [if_neg (by omega)]
set_option maxHeartbeats 400000 in
theorem textT_any {w:World} {A:Option Addr} {n c:Nat} {L:List ByteArray} (h:Vs stV w A n L) (z:Int) (h0:0≤z) (h1:z≤65535) (hn:n≤140737488351232) :
  Calls Tryz.prog 95 #[.slice A n c,.int .u16 z] w fun e w'=>e=.returned (.string (textI L z))∧w=w':=by
 have HL:=Lib.hid h.len
 by_cases hz:z<1
 · have HR:Hid (textI L z=eT):=Lib.hid (textI_no (Or.inl hz))
   clear h
   go_enter Tryz.func95,Tryz.ntmps95
   go_wp2
   go_ret
   exact ⟨retSL HR.out.symm,rfl⟩
 · by_cases hl:(n:Int)<z
   · have HR:Hid (textI L z=eT):=Lib.hid (textI_no (Or.inr (by rw [HL.out];exact hl)))
     clear h
     go_enter Tryz.func95,Tryz.ntmps95
     go_wp2
     go_ret
     exact ⟨retSL HR.out.symm,rfl⟩
   · obtain ⟨k,rfl⟩:∃ k:Nat,z=(k:Int)+1:=⟨(z-1).toNat,by omega⟩
     have hk:k<n:=by omega
     obtain ⟨ad,rfl⟩:=h.addr (by omega)
     have hc:=h.str hk
     have HR:Hid (textI L ((k:Int)+1)=sAt L k):=Lib.hid (by
      rw [textI_yes (by omega) (by rw [HL.out];omega)]
      congr 1)
     clear h HL
     generalize sAt L k=x at hc HR
     go_enter Tryz.func95,Tryz.ntmps95
     go_wp2
     go_ret
     exact ⟨retSL HR.out.symm,rfl⟩
end Go.Proofs.YtlcipgdnpilkfaaGreatDoor
