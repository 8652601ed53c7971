/-
  Part 29 of what the laws of emul want: EmulFirst, EmulModes.
-/
import Derived.Test.YtlcipgdnpilkfaaGreatDoorPo01
import Derived.Test.YtlcipgdnpilkfaaGreatDoorPo22
import Derived.Test.YtlcipgdnpilkfaaGreatDoorPo23
import Derived.Test.YtlcipgdnpilkfaaGreatDoorPo28
namespace Go.Proofs.YtlcipgdnpilkfaaGreatDoor
open Go.RowKit
section
variable {B:Nat} {w:World} {g:Nat} {x:CT} {A:Option Addr} {n c:Nat} {ps:List Int}
def rowB (k:Nat):List Bool:=(List.range 80).map fun i=>decide (i≠0∧i % 8=0∧i<8*(k+1))
def rowK (k:Nat):Array Value:=((rowB k).map Value.bool).toArray
theorem rowB_step:∀ k:Fin 9,(rowB k.1).set (8*(k.1+1)) true=rowB (k.1+1):=by decide +kernel
theorem rowB_at:∀ k:Fin 9,(rowB k.1)[8*(k.1+1)]?=some false:=by decide +kernel
theorem rowB_end:rowB 9=tabs0:=by decide +kernel
theorem rowB_len (k:Nat):(rowB k).length=80:=by simp [rowB]
theorem rowK_zero:Tryz.zeroCells34=rowK 0:=by kernel_rfl
theorem info80 (k:Nat):(Tryz.prog.info? 34).map (·.size)=some (rowK k).size:=by
 have e:(rowK k).size=80:=by simp [rowK,rowB_len]
 exact (show (Tryz.prog.info? 34).map (·.size)=some 80 from by kernel_rfl).trans (by rw [e])
theorem rowK_one (k:Nat):(rowK k).all (·.oneCell')=true:=by
 rw [Array.all_eq_true_iff_forall_mem]
 intro v hv
 obtain ⟨b,_,rfl⟩:=List.mem_map.1 (by simpa [rowK] using hv:v∈(rowB k).map Value.bool)
 rfl
set_option maxRecDepth 100000 in
theorem firstTabs_any (w:World):Calls Tryz.prog 39 #[] w fun e w'=>e=.returned (.agg (tabs0.map Value.bool).toArray)∧Below w.heap.size w w':=by
 have hw2:(w.alloc (.cells Tryz.zeroCells34 34)).heap.size=w.heap.size+1:=by simp
 obtain ⟨W,hW⟩:∃ W,W=(w.alloc (.cells Tryz.zeroCells34 34)).alloc (.cells Tryz.zeroCells34 34):=⟨_,rfl⟩
 have HW:=Lib.hid (show Below w.heap.size w W∧W.heap[w.heap.size]?=some (.cells (rowK 0) 34 (0,0))∧W.heap[w.heap.size+1]?=some (.cells (rowK 0) 34 (0,0)) from by
  rw [hW,rowK_zero]
  refine ⟨((Below.refl _ _).alloc (Nat.le_refl _) _).alloc (by simp) _,(Below.heap_alloc _ _ _ (by simp)).trans (heap_alloc_new w _),?_⟩
  have e:=heap_alloc_new (w.alloc (.cells (rowK 0) 34)) (.cells (rowK 0) 34)
  rw [show (w.alloc (.cells (rowK 0) 34)).heap.size=w.heap.size+1 from by simp] at e
  exact e)
 go_enter Tryz.func39,Tryz.ntmps39
 go_wp2_with fail
 rw [← hW]
 clear hW hw2
 go_loopw [2] (fun i wr=>∃ (k m:Nat),k≤9∧m=8*(k+1)∧i=.int .i64 m∧Below w.heap.size w wr∧wr.heap[w.heap.size]?=some (.cells (rowK 0) 34 (0,0))∧wr.heap[w.heap.size+1]?=some (.cells (rowK k) 34 (0,0))) (fun i _=>80-(intOf i).toNat)
 case atStart=>exact ⟨0,8,by omega,rfl,rfl,HW.out.1,HW.out.2.1,HW.out.2.2⟩
 case round =>
  obtain ⟨k,m,hk,hm,rfl,hb,h0,h1⟩:=hrel
  have HB:=Lib.hid hb
  have H0:=Lib.hid h0
  have H1:=Lib.hid h1
  by_cases hlt:k<9
  · have ec:wr.cell? ⟨w.heap.size+1,m,none⟩=some (.bool false):=by
     rw [cell_of_row _ _ m _ _ _ h1,hm]
     have:=rowB_at ⟨k,hlt⟩
     simpa [rowK] using this
    have ef:wr.frozen? ⟨w.heap.size+1,m,none⟩=false:=frozen_of_row _ _ m _ _ h1
    have m0:(0:Int)≤(m:Int):=by omega
    have m1:(m:Int)<80:=by omega
    have hbn:Below w.heap.size w (wr.setCell ⟨w.heap.size+1,m,none⟩ (.bool true)):=hb.setCell (p:=⟨w.heap.size+1,m,none⟩) (by show w.heap.size≤w.heap.size+1;omega) _
    have h0n:(wr.setCell ⟨w.heap.size+1,m,none⟩ (.bool true)).heap[w.heap.size]?=some (.cells (rowK 0) 34 (0,0)):=(heap_setCell_other wr _ w.heap.size _ (by show w.heap.size≠w.heap.size+1;omega)).trans h0
    have h1n:(wr.setCell ⟨w.heap.size+1,m,none⟩ (.bool true)).heap[w.heap.size+1]?=some (.cells (rowK (k+1)) 34 (0,0)):=by
     rw [heap_setCell_same wr _ m _ _ _ h1]
     have:=rowB_step ⟨k,hlt⟩
     simp only at this
     have e:(rowK k).setIfInBounds m (.bool true)=rowK (k+1):=by
      unfold rowK
      rw [← this,hm,List.setIfInBounds_toArray,List.map_set]
     rw [e]
    have HN:=Lib.hid (And.intro hbn (And.intro h0n h1n))
    have HMm:=Lib.hid hm
    clear hm hb h0 h1 hbn h0n h1n
    go_wp2_with fail
    go_roundw
    case rel=>exact ⟨k+1,m+8,by omega,by rw [HMm.out];omega,by go_num,HN.out.1,HN.out.2.1,HN.out.2.2⟩
    case measure=>simp [intOf];omega
  · obtain rfl:k=9:=by omega
    obtain rfl:m=80:=by omega
    clear hb h0 h1
    go_wp2_with (first | (refine wpList_load_row rfl 34 (.tmp 1) rfl (w.heap.size+1) rfl 34 _ (0,0) _ H1.out Tryz.underlying34 rfl (info80 9) ?_) | (refine wpList_store_row rfl 34 (.tmp 0) (.tmp 9) rfl w.heap.size (rowK 9) rfl rfl 34 _ H0.out (info80 9) (by simp [rowK,rowB_len]) (rowK_one 9) ?_))
    have hR:(wr.setRow w.heap.size (rowK 9)).heap[w.heap.size]?=some (.cells (rowK 9) 34 (0,0)):=setRow_heap wr _ _ _ _ _ H0.out
    refine bodyPost_ret (results_cell_row rfl _ _ w.heap.size 34 (rowK 9) (0,0) _ rfl hR Tryz.underlying34 rfl (info80 9)) rfl ?_
    exact ⟨by unfold rowK;rw [rowB_end],below_setRow HB.out (Nat.le_refl _) _⟩
end
open Go.RowKit
section
variable {B:Nat} {w:World} {g:Nat} {x:CT} {A:Option Addr} {n c:Nat} {ps:List Int}
set_option maxRecDepth 100000 in
set_option maxHeartbeats 1600000 in
theorem setInserts_any (h:Cz B w g x) (on:Bool):Calls Tryz.prog 253 #[.pointer (some ⟨g,0,none⟩),.bool on] w (CzP B g x ({ x.t with ins:=on }) w):=by
 have c26:w.cell? ⟨g,26,none⟩=some (.bool x.t.ins):=h.cell rfl
 have f26:w.frozen? ⟨g,26,none⟩=false:=h.fr 26
 have X:=Lib.hid (show CzTo B g x { x.t with ins:=on } w (w.setCell ⟨g,26,none⟩ (.bool on)) ({ x with t:={ x.t with ins:=on } }) from (h.raw.set 26 (.bool on)).fin h (y:={ x with t:={ x.t with ins:=on } }) (by rfl) ⟨rfl,rfl,rfl,rfl,rfl,rfl,rfl,rfl,rfl,rfl,rfl,rfl,rfl,rfl,rfl,rfl,rfl,h.tl⟩ { h.ok with })
 clear h
 go_enter Tryz.func253,Tryz.ntmps253
 go_wp2_with fail
 go_end0
 exact ⟨rfl,_,X.out⟩
set_option maxRecDepth 100000 in
set_option maxHeartbeats 1600000 in
theorem setWraps_any (h:Cz B w g x) (on:Bool):Calls Tryz.prog 258 #[.pointer (some ⟨g,0,none⟩),.bool on] w (CzP B g x ({ x.t with nowrap:=!on }) w):=by
 have c25:w.cell? ⟨g,25,none⟩=some (.bool (!x.t.nowrap)):=h.cell rfl
 have f25:w.frozen? ⟨g,25,none⟩=false:=h.fr 25
 have X:=Lib.hid (show CzTo B g x { x.t with nowrap:=!on } w (w.setCell ⟨g,25,none⟩ (.bool on)) ({ x with t:={ x.t with nowrap:=!on } }) from (h.raw.set 25 (.bool on)).fin h (y:={ x with t:={ x.t with nowrap:=!on } }) (by cases on<;>rfl) ⟨rfl,rfl,rfl,rfl,rfl,rfl,rfl,rfl,rfl,rfl,rfl,rfl,rfl,rfl,rfl,rfl,rfl,h.tl⟩ { h.ok with })
 clear h
 go_enter Tryz.func258,Tryz.ntmps258
 go_wp2_with fail
 go_end0
 exact ⟨rfl,_,X.out⟩
set_option maxRecDepth 100000 in
set_option maxHeartbeats 1600000 in
theorem setCursor_any (h:Cz B w g x) (on:Bool):Calls Tryz.prog 259 #[.pointer (some ⟨g,0,none⟩),.bool on] w (CzP B g x ({ x.t with hid:=!on }) w):=by
 have c27:w.cell? ⟨g,27,none⟩=some (.bool x.t.hid):=h.cell rfl
 have f27:w.frozen? ⟨g,27,none⟩=false:=h.fr 27
 have X:=Lib.hid (show CzTo B g x { x.t with hid:=!on } w (w.setCell ⟨g,27,none⟩ (.bool (!on))) ({ x with t:={ x.t with hid:=!on } }) from (h.raw.set 27 (.bool (!on))).fin h (y:={ x with t:={ x.t with hid:=!on } }) (by rfl) ⟨rfl,rfl,rfl,rfl,rfl,rfl,rfl,rfl,rfl,rfl,rfl,rfl,rfl,rfl,rfl,rfl,rfl,h.tl⟩ { h.ok with })
 clear h
 go_enter Tryz.func259,Tryz.ntmps259
 go_wp2_with fail
 go_end0
 exact ⟨rfl,_,X.out⟩
set_option maxRecDepth 100000 in
set_option maxHeartbeats 1600000 in
theorem setOrigin_any (h:Cz B w g x) (on:Bool):Calls Tryz.prog 257 #[.pointer (some ⟨g,0,none⟩),.bool on] w (CzP B g x (({ x.t with now:={ x.t.now with org:=on } }:Tm).home) w):=by
 have c7:w.cell? ⟨g,7,none⟩=some (.bool x.t.now.org):=h.cell rfl
 have f7:w.frozen? ⟨g,7,none⟩=false:=h.fr 7
 have X:=Lib.hid (show CzTo B g x { x.t with now:={ x.t.now with org:=on } } w (w.setCell ⟨g,7,none⟩ (.bool on)) { x with t:={ x.t with now:={ x.t.now with org:=on } } } from (h.raw.set 7 (.bool on)).fin h (y:={ x with t:={ x.t with now:={ x.t.now with org:=on } } }) rfl ⟨rfl,rfl,rfl,rfl,rfl,rfl,rfl,rfl,rfl,rfl,rfl,rfl,rfl,rfl,rfl,rfl,rfl,h.tl⟩ { h.ok with })
 clear h
 go_enter Tryz.func257,Tryz.ntmps257
 go_upto_region 1 with fail
 generalize w.setCell ⟨g,7,none⟩ (.bool on)=w1 at X ⊢
 clear c7 f7
 go_wp2_with fail
 refine (home_any X.out.cz).mono ?_
 rintro e w2 ⟨rfl,z,hz⟩
 have Z:=Lib.hid hz
 clear hz
 go_wp2_with fail
 go_end0
 exact ⟨rfl,z,X.out.trans (Z.out.as rfl)⟩
set_option maxRecDepth 100000 in
set_option maxHeartbeats 1600000 in
theorem setMouse_any (h:Cz B w g x) (on:Bool) (m:Int) (hm:0≤m∧m≤2):Calls Tryz.prog 268 #[.pointer (some ⟨g,0,none⟩),.int .u8 m,.bool on] w (CzP B g x ({ x.t with mouse:=if on then m else 0 }) w):=by
 have c28:w.cell? ⟨g,28,none⟩=some (.int .u8 x.t.mouse):=h.cell rfl
 have f28:w.frozen? ⟨g,28,none⟩=false:=h.fr 28
 cases on
 · have X:=Lib.hid (show CzTo B g x { x.t with mouse:=0 } w (w.setCell ⟨g,28,none⟩ (.int .u8 0)) { x with t:={ x.t with mouse:=0 } } from (h.raw.set 28 (.int .u8 0)).fin h (y:={ x with t:={ x.t with mouse:=0 } }) rfl ⟨rfl,rfl,rfl,rfl,rfl,rfl,rfl,rfl,rfl,rfl,rfl,rfl,rfl,rfl,rfl,rfl,rfl,h.tl⟩ { h.ok with m0:=by show 0≤(0:Int)∧(0:Int)≤2;omega })
   clear h
   go_enter Tryz.func268,Tryz.ntmps268
   go_wp2_with fail
   go_end0
   exact ⟨rfl,_,X.out⟩
 · have X:=Lib.hid (show CzTo B g x { x.t with mouse:=m } w ((w.setCell ⟨g,28,none⟩ (.int .u8 0)).setCell ⟨g,28,none⟩ (.int .u8 m)) { x with t:={ x.t with mouse:=m } } from ((h.raw.set 28 (.int .u8 0)).set 28 (.int .u8 m)).fin h (y:={ x with t:={ x.t with mouse:=m } }) rfl ⟨rfl,rfl,rfl,rfl,rfl,rfl,rfl,rfl,rfl,rfl,rfl,rfl,rfl,rfl,rfl,rfl,rfl,h.tl⟩ { h.ok with m0:=by show 0≤(m:Int)∧(m:Int)≤2;omega })
   clear h
   go_enter Tryz.func268,Tryz.ntmps268
   go_wp2_with fail
   go_end0
   exact ⟨rfl,_,X.out⟩
set_option maxRecDepth 100000 in
set_option maxHeartbeats 1600000 in
theorem setButtons_any (h:Cz B w g x) (on:Bool):Calls Tryz.prog 261 #[.pointer (some ⟨g,0,none⟩),.bool on] w (CzP B g x ({ x.t with mouse:=if on then 1 else 0 }) w):=by
 have HS:=Lib.hid (setMouse_any h on 1 (by omega))
 generalize ({ x.t with mouse:=if on then (1:Int) else 0 }:Tm)=T' at HS ⊢
 clear h
 go_enter Tryz.func261,Tryz.ntmps261
 go_wp2_with fail
 refine HS.out.mono ?_
 rintro e w1 ⟨rfl,y,hy⟩
 have Y:=Lib.hid hy
 clear hy
 go_wp2_with fail
 go_end0
 exact ⟨rfl,y,Y.out⟩
set_option maxRecDepth 100000 in
set_option maxHeartbeats 1600000 in
theorem setMotion_any (h:Cz B w g x) (on:Bool):Calls Tryz.prog 262 #[.pointer (some ⟨g,0,none⟩),.bool on] w (CzP B g x ({ x.t with mouse:=if on then 2 else 0 }) w):=by
 have HS:=Lib.hid (setMouse_any h on 2 (by omega))
 generalize ({ x.t with mouse:=if on then (2:Int) else 0 }:Tm)=T' at HS ⊢
 clear h
 go_enter Tryz.func262,Tryz.ntmps262
 go_wp2_with fail
 refine HS.out.mono ?_
 rintro e w1 ⟨rfl,y,hy⟩
 have Y:=Lib.hid hy
 clear hy
 go_wp2_with fail
 go_end0
 exact ⟨rfl,y,Y.out⟩
set_option maxRecDepth 100000 in
set_option maxHeartbeats 1600000 in
theorem blankT_any {c r:Nat} (h1:1≤c) (h2:c≤80) (h3:1≤r) (h4:r≤24) (w:World):Calls Tryz.prog 142 #[.int .i64 (c:Int),.int .i64 (r:Int)] w (MadeG (c:Nat) (r:Nat) (blankR c r).flatten w):=by
 have HN:=Lib.hid (show ∀ w:World,Calls Tryz.prog 35 #[.int .i64 (c:Int),.int .i64 (r:Int)] w (NewPost (some (c,r,blankR c r)) w) from fun w=>by
  have h:=gNew_any (c:=(c:Int)) (r:=(r:Int)) w
  rw [new_yes (by unfold sizeOk;simp;omega)] at h
  exact h)
 go_enter Tryz.func142,Tryz.ntmps142
 obtain ⟨w1,hw1⟩:∃ w1,w1=w.alloc (.cells (gV 0 0 none 0 0) 26):=⟨_,rfl⟩
 have G1:=Lib.hid (show Gb w1 w.heap.size gr0∧Below w.heap.size w w1∧w.heap.size<w1.heap.size from by rw [hw1];exact ⟨gb_new w gr0,(Below.refl _ _).alloc (Nat.le_refl _) _,by simp⟩)
 unfold gV at hw1
 go_upto_region 1 with fail
 rw [← hw1]
 clear hw1
 go_wp2_with fail
 refine (HN.out _).mono ?_
 rintro e w2 hP
 obtain ⟨v,rfl,hb,q,k,hv,hq,hk,hm,hR⟩:=hP.1 _ _ _ rfl
 injection hv with hv
 subst hv
 have hl:(blankR c r).flatten.length=r*c:=(gk_blankE h1 h2 h3 h4).box.flen
 rw [hl] at hk ⊢
 have X:=Lib.hid (show Gb (w2.alloc (.cells (gV 0 0 none 0 0) 26)) w2.heap.size gr0∧Gb (w2.alloc (.cells (gV 0 0 none 0 0) 26)) w.heap.size gr0∧Below w.heap.size w (w2.alloc (.cells (gV 0 0 none 0 0) 26))∧Rw ceV 66 (w2.alloc (.cells (gV 0 0 none 0 0) 26)) q (blankR c r).flatten∧w.heap.size<w2.heap.size∧w.heap.size<q∧q<w2.heap.size from
  ⟨gb_new w2 gr0,(G1.out.1.below hb).below ((Below.refl _ _).alloc (Nat.le_refl _) _),(G1.out.2.1.trans (hb.mono G1.out.2.1.size)).alloc (Nat.le_trans G1.out.2.1.size hb.size) _,hR.below ((Below.refl _ _).alloc (Nat.le_refl _) _),Nat.lt_of_lt_of_le G1.out.2.2 hb.size,Nat.lt_of_lt_of_le G1.out.2.2 hq,hR.lt⟩)
 have HK:=Lib.hid (And.intro hk hm)
 clear hP hb hq hk hm hR hl
 unfold gV at *
 go_wp2_with (first
  | (refine wpList_store_G rfl (.tmp 5) (.tmp 11) rfl w2.heap.size gr0 ⟨c,r,some ⟨q,0,none⟩,r*c,k⟩ rfl rfl X.out.1 ?_;intro w3 hG3 hg3;have hZ3:=X.out.2.1.grown hg3 (fun e=>by injection e with e;have:=X.out.2.2.2.2;omega);obtain ⟨d0,d1,d2,_⟩:=hG3.g3)
  | (refine wpList_store_G rfl (.tmp 4) (.tmp 13) rfl w.heap.size gr0 ⟨c,r,some ⟨q,0,none⟩,r*c,k⟩ rfl rfl hZ3 ?_;intro w4 hG4 hg4))
 refine bodyPost_ret (retG Tryz.results142 hG4 rfl) rfl ?_
 have hb3:=X.out.2.2.1.grown hg3 X.out.2.2.1.size (by intro k hk;injection hk with hk;have:=X.out.2.2.2.2.1;omega)
 have hr3:=X.out.2.2.2.1.grown hg3 (fun e=>by injection e with e;have:=X.out.2.2.2.2;omega)
 have hl:(blankR c r).flatten.length=r*c:=(gk_blankE h1 h2 h3 h4).box.flen
 exact ⟨hb3.grown hg4 hb3.size (by intro k hk;injection hk with hk;omega),q,k,by rw [hl],Nat.le_of_lt X.out.2.2.2.2.2.1,by rw [hl];exact HK.out.1,HK.out.2,hr3.grown hg4 (fun e=>by injection e with e;have:=X.out.2.2.2.2;omega)⟩
theorem Cz.newOther {w':World} {q n k:Nat} {LL:Rws} (h:Cz B w g x) (hb:Below w.heap.size w w') (hq:w.heap.size≤q) (hr:Rw ceV 66 w' q LL.flatten) (hg:Gk x.t.c x.t.r LL) (hn:LL.flatten.length=n) (hk:n≤k) (hm:k≤maxLen) :
  CzTo B g x { x.t with other:=LL } w (((w'.setCell ⟨g,18,none⟩ (.int .i64 x.t.c)).setCell ⟨g,19,none⟩ (.int .i64 x.t.r)).setCell ⟨g,20,none⟩ (.slice (some ⟨q,0,none⟩) n k)) { x with t:={ x.t with other:=LL },ob:=q,oN:=n,oK:=k }:=by
 have R:=(((h.raw.below hb).set 18 (.int .i64 x.t.c)).set 19 (.int .i64 x.t.r)).set 20 (.slice (some ⟨q,0,none⟩) n k)
 have hlt:=h.lt
 have hr2:Rw ceV 66 (((w'.setCell ⟨g,18,none⟩ (.int .i64 x.t.c)).setCell ⟨g,19,none⟩ (.int .i64 x.t.r)).setCell ⟨g,20,none⟩ (.slice (some ⟨q,0,none⟩) n k)) q LL.flatten :=
  ((hr.kept (heap_setCell_other _ _ q _ (by show q≠g;omega))).kept (heap_setCell_other _ _ q _ (by show q≠g;omega))).kept (heap_setCell_other _ _ q _ (by show q≠g;omega))
 generalize (((w'.setCell ⟨g,18,none⟩ (.int .i64 x.t.c)).setCell ⟨g,19,none⟩ (.int .i64 x.t.r)).setCell ⟨g,20,none⟩ (.slice (some ⟨q,0,none⟩) n k))=w2 at R hr2 ⊢
 have hB:=h.bB
 have hkp:∀ b,b<w.heap.size→b≠g→w2.heap[b]?=w.heap[b]?:=fun b hb hne=>R.gr.block b hb (fun e=>hne (by injection e))
 have hflen:n=x.t.r*x.t.c:=by rw [← hn];exact hg.box.flen
 have hmm:=h.m.lt
 refine ⟨rfl,⟨R.blk,h.gB,{ h.ok with go:=hg },h.m.kept (hkp _ h.m.lt h.gm.symm),h.mB,h.mn,h.mkk,hr2,by show B≤q;omega,hflen,⟨hk,hm⟩,by show x.mb≠q;omega,h.p.kept R.gr.size fun b hb=>hkp b (h.p.hi b hb) (fun e=>h.gp (e ▸ hb)),h.b.same fun b hb=>hkp b (h.b.own.lt b hb).2 (fun e=>h.gb (e ▸ hb)),h.tl,h.bs⟩,⟨⟨R.gr.os,R.gr.tape,R.gr.output,R.gr.size,fun b hb=>hkp b (by omega) (fun e=>by have:=h.gB;omega)⟩,fun b hb hS=>hkp b hb (fun e=>hS (.inl e))⟩,?_⟩
 rintro b (rfl | rfl | rfl | hb | hb)
 · exact .inl (.inl rfl)
 · exact .inl (.inr (.inl rfl))
 · exact .inr hq
 · exact .inl (.inr (.inr (.inr (.inl hb))))
 · exact .inl (.inr (.inr (.inr (.inr hb))))
set_option maxRecDepth 100000 in
set_option maxHeartbeats 1600000 in
theorem setOther_any (h:Cz B w g x) (on:Bool):Calls Tryz.prog 260 #[.pointer (some ⟨g,0,none⟩),.bool on] w (CzP B g x (x.t.showO on) w):=by
 have HZ:=Lib.hid h
 have zg:=h.ok.gm
 have HB:=Lib.hid (show ∀ w',Calls Tryz.prog 142 #[.int .i64 (x.t.c:Int),.int .i64 (x.t.r:Int)] w' (MadeG (x.t.c:Nat) (x.t.r:Nat) (blankR x.t.c x.t.r).flatten w') from fun w'=>blankT_any zg.c1 zg.c80 zg.r1 zg.r24 w')
 have c15:w.cell? ⟨g,15,none⟩=some (.int .i64 x.t.c):=h.cell rfl
 have c16:w.cell? ⟨g,16,none⟩=some (.int .i64 x.t.r):=h.cell rfl
 have c21:w.cell? ⟨g,21,none⟩=some (.bool x.t.isO):=h.cell rfl
 have f21:w.frozen? ⟨g,21,none⟩=false:=h.fr 21
 cases on
 · have e:x.t.showO false={ x.t with isO:=false }:=rfl
   rw [e]
   have X:=Lib.hid (show CzTo B g x { x.t with isO:=false } w (w.setCell ⟨g,21,none⟩ (.bool false)) { x with t:={ x.t with isO:=false } } from (h.raw.set 21 (.bool false)).fin h (y:={ x with t:={ x.t with isO:=false } }) rfl ⟨rfl,rfl,rfl,rfl,rfl,rfl,rfl,rfl,rfl,rfl,rfl,rfl,rfl,rfl,rfl,rfl,rfl,h.tl⟩ { h.ok with })
   clear h zg e
   go_enter Tryz.func260,Tryz.ntmps260
   go_wp2_with fail
   go_end0
   exact ⟨rfl,_,X.out⟩
 · cases ho:x.t.isO
   · rw [ho] at c21
     have e:x.t.showO true={ x.t with other:=blankR x.t.c x.t.r,isO:=true }:=by unfold Tm.showO;rw [if_pos ⟨rfl,ho⟩]
     rw [e]
     clear h zg e
     go_enter Tryz.func260,Tryz.ntmps260
     go_wp2_with fail
     refine wp_region_noPanic ?_
     refine wp_region_held_drew (S:=fun w'=>Below B w w'∧w'.cell? ⟨g,15,none⟩=some (.int .i64 x.t.c)∧w'.cell? ⟨g,16,none⟩=some (.int .i64 x.t.r)) (by kernel_rfl) (⟨(Below.refl _ _).drew,c15,c16⟩) (fun hHeld=>?_)
     have hD:Below w.heap.size w w.drew:=(Below.refl _ _).drew
     clear c15 c16 c21 f21
     generalize w.drew=w2 at hHeld hD ⊢
     refine tkH 0 (.pointer (some ⟨g,0,none⟩)) rfl (.inl ⟨by rfl,fun wz hSz=>?_⟩) hHeld ?_
     · go_simp
     simp only [Act.put,List.getElem_toArray,List.getElem_cons_zero,List.setIfInBounds_toArray,List.set_cons_succ,List.set_cons_zero]
     refine tkH 1 (.pointer (some ⟨g,0,none⟩)) rfl (.inl ⟨by rfl,fun wz hSz=>?_⟩) hHeld ?_
     · go_simp
     simp only [Act.put,List.getElem_toArray,List.getElem_cons_succ,List.getElem_cons_zero,List.setIfInBounds_toArray,List.set_cons_succ,List.set_cons_zero]
     refine tkH 2 (.pointer (some ⟨g,0,none⟩)) rfl (.inl ⟨by rfl,fun wz hSz=>?_⟩) hHeld ?_
     · go_simp
     simp only [Act.put,List.getElem_toArray,List.getElem_cons_succ,List.getElem_cons_zero,List.setIfInBounds_toArray,List.set_cons_succ,List.set_cons_zero]
     refine tkH 3 (.pointer (some ⟨g,1,none⟩)) rfl (.inl ⟨by rfl,fun wz hSz=>?_⟩) hHeld ?_
     · go_simp
     simp only [Act.put,List.getElem_toArray,List.getElem_cons_succ,List.getElem_cons_zero,List.setIfInBounds_toArray,List.set_cons_succ,List.set_cons_zero]
     refine tkH 4 (.pointer (some ⟨g,15,none⟩)) rfl (.inl ⟨by rfl,fun wz hSz=>?_⟩) hHeld ?_
     · go_simp
     simp only [Act.put,List.getElem_toArray,List.getElem_cons_succ,List.getElem_cons_zero,List.setIfInBounds_toArray,List.set_cons_succ,List.set_cons_zero]
     refine tkH 5 (.pointer (some ⟨g,15,none⟩)) rfl (.inl ⟨by rfl,fun wz hSz=>?_⟩) hHeld ?_
     · go_simp
     simp only [Act.put,List.getElem_toArray,List.getElem_cons_succ,List.getElem_cons_zero,List.setIfInBounds_toArray,List.set_cons_succ,List.set_cons_zero]
     refine tkH 6 (.int .i64 (x.t.c:Int)) rfl (.inl ⟨by rfl,fun wz hSz=>?_⟩) hHeld ?_
     · obtain ⟨_,d15,d16⟩:=hSz
       go_simp
     simp only [Act.put,List.getElem_toArray,List.getElem_cons_succ,List.getElem_cons_zero,List.setIfInBounds_toArray,List.set_cons_succ,List.set_cons_zero]
     refine tkH 7 (.pointer (some ⟨g,0,none⟩)) rfl (.inl ⟨by rfl,fun wz hSz=>?_⟩) hHeld ?_
     · go_simp
     simp only [Act.put,List.getElem_toArray,List.getElem_cons_succ,List.getElem_cons_zero,List.setIfInBounds_toArray,List.set_cons_succ,List.set_cons_zero]
     refine tkH 8 (.pointer (some ⟨g,0,none⟩)) rfl (.inl ⟨by rfl,fun wz hSz=>?_⟩) hHeld ?_
     · go_simp
     simp only [Act.put,List.getElem_toArray,List.getElem_cons_succ,List.getElem_cons_zero,List.setIfInBounds_toArray,List.set_cons_succ,List.set_cons_zero]
     refine tkH 9 (.pointer (some ⟨g,1,none⟩)) rfl (.inl ⟨by rfl,fun wz hSz=>?_⟩) hHeld ?_
     · go_simp
     simp only [Act.put,List.getElem_toArray,List.getElem_cons_succ,List.getElem_cons_zero,List.setIfInBounds_toArray,List.set_cons_succ,List.set_cons_zero]
     refine tkH 10 (.pointer (some ⟨g,15,none⟩)) rfl (.inl ⟨by rfl,fun wz hSz=>?_⟩) hHeld ?_
     · go_simp
     simp only [Act.put,List.getElem_toArray,List.getElem_cons_succ,List.getElem_cons_zero,List.setIfInBounds_toArray,List.set_cons_succ,List.set_cons_zero]
     refine tkH 11 (.pointer (some ⟨g,16,none⟩)) rfl (.inl ⟨by rfl,fun wz hSz=>?_⟩) hHeld ?_
     · go_simp
     simp only [Act.put,List.getElem_toArray,List.getElem_cons_succ,List.getElem_cons_zero,List.setIfInBounds_toArray,List.set_cons_succ,List.set_cons_zero]
     refine tkH 12 (.int .i64 (x.t.r:Int)) rfl (.inl ⟨by rfl,fun wz hSz=>?_⟩) hHeld ?_
     · obtain ⟨_,d15,d16⟩:=hSz
       go_simp
     simp only [Act.put,List.getElem_toArray,List.getElem_cons_succ,List.getElem_cons_zero,List.setIfInBounds_toArray,List.set_cons_succ,List.set_cons_zero]
     refine wpAnyH_ready (rs:=[13]) (by kernel_rfl) (by simp) (AllReadyH.cons rfl (fun K hK=>?_) AllReadyH.nil)
     rw [if_pos (by rfl)]
     go_simp
     refine (HB.out _).mono ?_
     rintro e w3 ⟨hb,q,k,he,hq,hk,hm,hR⟩
     have hl:(blankR x.t.c x.t.r).flatten.length=x.t.r*x.t.c:=(gk_blankE HZ.out.ok.gm.c1 HZ.out.ok.gm.c80 HZ.out.ok.gm.r1 HZ.out.ok.gm.r24).box.flen
     rw [hl] at he hk
     subst he
     have hb3:=hD.trans (hb.mono hD.size)
     have X:=Lib.hid (HZ.out.newOther (LL:=blankR x.t.c x.t.r) hb3 (Nat.le_trans hD.size hq) hR (gk_blankE HZ.out.ok.gm.c1 HZ.out.ok.gm.c80 HZ.out.ok.gm.r1 HZ.out.ok.gm.r24) hl hk hm)
     have Z:=HZ.out.below hb3
     have h3:=Lib.hid (And.intro (hb3.mono HZ.out.bB) Z)
     clear hb hb3 hq hk hm hR hl
     have c18:w3.cell? ⟨g,18,none⟩=some (.int .i64 x.t.c):=Z.cell rfl
     have c19:w3.cell? ⟨g,19,none⟩=some (.int .i64 x.t.r):=Z.cell rfl
     have c20:w3.cell? ⟨g,20,none⟩=some (.slice (some ⟨x.ob,0,none⟩) x.oN x.oK):=Z.cell rfl
     have f18:=Z.fr 18
     have f19:=Z.fr 19
     have f20:=Z.fr 20
     clear Z
     unfold gV
     refine hK.out _ _ (⟨h3.out.1,h3.out.2.cell rfl,h3.out.2.cell rfl⟩) (fun hHeld=>?_)
     clear hK K
     try simp only [Act.put,List.getElem_toArray,List.getElem_cons_succ,List.getElem_cons_zero]
     try simp only [List.setIfInBounds_toArray]
     try simp only [List.set_cons_succ]
     try simp only [List.set_cons_zero]
     refine tkH 14 (.pointer (some ⟨g,0,none⟩)) rfl (.inl ⟨by rfl,fun wz hSz=>?_⟩) hHeld ?_
     · go_simp
     simp only [Act.put,List.getElem_toArray,List.getElem_cons_succ,List.getElem_cons_zero,List.setIfInBounds_toArray,List.set_cons_succ,List.set_cons_zero]
     refine tkH 15 (.pointer (some ⟨g,1,none⟩)) rfl (.inl ⟨by rfl,fun wz hSz=>?_⟩) hHeld ?_
     · go_simp
     simp only [Act.put,List.getElem_toArray,List.getElem_cons_succ,List.getElem_cons_zero,List.setIfInBounds_toArray,List.set_cons_succ,List.set_cons_zero]
     refine tkH 16 (.pointer (some ⟨g,18,none⟩)) rfl (.inl ⟨by rfl,fun wz hSz=>?_⟩) hHeld ?_
     · go_simp
     simp only [Act.put,List.getElem_toArray,List.getElem_cons_succ,List.getElem_cons_zero,List.setIfInBounds_toArray,List.set_cons_succ,List.set_cons_zero]
     refine wpAnyH_ready (rs:=[17]) (by kernel_rfl) (by simp) (AllReadyH.cons rfl (fun K hK=>?_) AllReadyH.nil)
     rw [if_pos (by rfl)]
     go_simp
     refine hK.out _ _ (⟨X.out.out.bel,X.out.cz.cell rfl,X.out.cz.cell rfl⟩) (fun hHeld=>?_)
     clear hK K
     try simp only [Act.put,List.getElem_toArray,List.getElem_cons_succ,List.getElem_cons_zero]
     try simp only [List.setIfInBounds_toArray]
     try simp only [List.set_cons_succ]
     try simp only [List.set_cons_zero]
     refine wpAnyH_done (by kernel_rfl) ?_ _
     refine NoPanic.normal ?_
     generalize (((w3.setCell ⟨g,18,none⟩ (.int .i64 x.t.c)).setCell ⟨g,19,none⟩ (.int .i64 x.t.r)).setCell ⟨g,20,none⟩ (.slice (some ⟨q,0,none⟩) (x.t.r*x.t.c) k))=w4 at X ⊢
     clear c18 c19 c20 f18 f19 f20 hHeld
     have c21:w4.cell? ⟨g,21,none⟩=some (.bool x.t.isO):=X.out.cz.cell rfl
     have f21:=X.out.cz.fr 21
     have X2:=Lib.hid (show CzTo B g _ { x.t with other:=blankR x.t.c x.t.r,isO:=true } w4 (w4.setCell ⟨g,21,none⟩ (.bool true)) { x with t:={ x.t with other:=blankR x.t.c x.t.r,isO:=true },ob:=q,oN:=x.t.r*x.t.c,oK:=k } from (X.out.cz.raw.set 21 (.bool true)).fin X.out.cz (y:={ x with t:={ x.t with other:=blankR x.t.c x.t.r,isO:=true },ob:=q,oN:=x.t.r*x.t.c,oK:=k }) rfl ⟨rfl,rfl,rfl,rfl,rfl,rfl,rfl,rfl,rfl,rfl,rfl,rfl,rfl,rfl,rfl,rfl,rfl,X.out.cz.tl⟩ { X.out.cz.ok with })
     go_wp2_with fail
     go_end0
     exact ⟨rfl,_,X.out.trans X2.out⟩
   · rw [ho] at c21
     have e:x.t.showO true={ x.t with isO:=true }:=by unfold Tm.showO;rw [if_neg (fun e=>by rw [ho] at e;cases e.2)]
     rw [e]
     have X:=Lib.hid (show CzTo B g x { x.t with isO:=true } w (w.setCell ⟨g,21,none⟩ (.bool true)) { x with t:={ x.t with isO:=true } } from (h.raw.set 21 (.bool true)).fin h (y:={ x with t:={ x.t with isO:=true } }) rfl ⟨rfl,rfl,rfl,rfl,rfl,rfl,rfl,rfl,rfl,rfl,rfl,rfl,rfl,rfl,rfl,rfl,rfl,h.tl⟩ { h.ok with })
     clear h zg e ho
     go_enter Tryz.func260,Tryz.ntmps260
     go_wp2_with fail
     go_end0
     exact ⟨rfl,_,X.out⟩
end
end Go.Proofs.YtlcipgdnpilkfaaGreatDoor
