/-
  Part 47 of what the laws of emul want: GridSm, EmulRefMem.
-/
import Derived.Laws.Rows
import Derived.Laws.Tables
import Derived.Test.YtlcipgdnpilkfaaGreatDoorPt16
import Derived.Test.YtlcipgdnpilkfaaGreatDoorPt17
import Derived.Test.YtlcipgdnpilkfaaGreatDoorPt18
import Derived.Test.YtlcipgdnpilkfaaGreatDoorPt19
namespace Go.Proofs.YtlcipgdnpilkfaaGreatDoor
open Go.RowKit
set_option maxHeartbeats 1600000 in
theorem copyG_any {w:World} {A:Option Addr} {n k:Nat} {c r:Int} {L:List Ce} (h:Vs ceV w A n L) (hn:n≤1000000) :
  Calls Tryz.prog 74 #[.agg (gV c r A n k)] w (MadeG c r L w):=by
 obtain ⟨w0,hw0⟩:∃ w0,w0=(w.alloc (.cells (gV c r A n k) 26)).alloc (.cells (gV 0 0 none 0 0) 26):=⟨_,rfl⟩
 obtain ⟨b,hbe⟩:∃ b,b=w.heap.size:=⟨_,rfl⟩
 have H:=Lib.hid (show Gb w0 b ⟨c,r,A,n,k⟩∧Gb w0 (b+1) gr0∧Below w.heap.size w w0∧Vs ceV w0 A n L∧b=w.heap.size from by
  have h3:=gb_new (w.alloc (.cells (gV c r A n k) 26)) gr0
  rw [alloc_size] at h3
  have b3:=(below1 w (.cells (gV c r A n k) 26)).alloc (below1 w _).size (.cells (gV 0 0 none 0 0) 26)
  rw [hw0,hbe]
  exact ⟨(gb_new w ⟨c,r,A,n,k⟩).below (below1 _ _),h3,b3,h.below b3,rfl⟩)
 have HL:=Lib.hid h.len
 clear h
 obtain ⟨c0,c1,c2,_⟩:=H.out.1.g3
 unfold gV at hw0
 go_enter Tryz.func74,Tryz.ntmps74
 unfold gV
 go_upto_region 1 with fail
 rw [← hw0,← hbe]
 clear hw0 hbe
 go_wp2_with fail
 refine (copyC_any H.out.2.2.2.1 hn).mono ?_
 rintro e w1 ⟨hb,g,k2,rfl,hg,hk1,hk2,hR⟩
 rw [HL.out] at hk1 ⊢
 have X:=Lib.hid (show Gb w1 b ⟨c,r,A,n,k⟩∧Gb w1 (b+1) gr0∧Below w.heap.size w w1∧Rw ceV 66 w1 g L∧w0.heap.size≤g from ⟨H.out.1.below hb,H.out.2.1.below hb,H.out.2.2.1.trans (hb.mono H.out.2.2.1.size),hR,hg⟩)
 clear hb hg hR c0 c1 c2
 obtain ⟨c0,c1,c2,_⟩:=X.out.1.g3
 have f2:=X.out.1.rw.free 2
 have hlt:=H.out.2.1.lt
 have HS:=Lib.hid (show Gb (w1.setCell ⟨b,2,none⟩ (.slice (some ⟨g,0,none⟩) n k2)) b ⟨c,r,some ⟨g,0,none⟩,n,k2⟩∧Gb (w1.setCell ⟨b,2,none⟩ (.slice (some ⟨g,0,none⟩) n k2)) (b+1) gr0∧Below w.heap.size w (w1.setCell ⟨b,2,none⟩ (.slice (some ⟨g,0,none⟩) n k2))∧Rw ceV 66 (w1.setCell ⟨b,2,none⟩ (.slice (some ⟨g,0,none⟩) n k2)) g L from by
  have hg2:w1.grownBy (w1.setCell ⟨b,2,none⟩ (.slice (some ⟨g,0,none⟩) n k2)) (some b):=⟨rfl,rfl,rfl,by simp [World.setCell],fun i _ hne=>heap_setCell_other w1 _ i _ (fun e=>hne (by rw [e]))⟩
  have h7:=X.out.2.2.2.2
  exact ⟨(heap_setCell_same w1 _ _ _ _ _ X.out.1).trans rfl,X.out.2.1.grown hg2 (by simp),X.out.2.2.1.grown hg2 X.out.2.2.1.size (by intro k hk;injection hk with hk;have:=H.out.2.2.2.2;omega),X.out.2.2.2.1.grown hg2 (by simp;omega)⟩)
 go_upto_region 2 with fail
 generalize w1.setCell ⟨b,2,none⟩ (.slice (some ⟨g,0,none⟩) n k2)=w2 at HS ⊢
 clear c0 c1 c2 f2
 obtain ⟨c0,c1,c2,_⟩:=HS.out.1.g3
 go_wp2_with (refine wpList_store_G rfl (.tmp 2) (.tmp 7) rfl (b+1) gr0 ⟨c,r,some ⟨g,0,none⟩,n,k2⟩ rfl rfl HS.out.2.1 ?_;intro w5 hG5 hg5)
 refine bodyPost_ret (retG Tryz.results74 hG5 rfl) rfl ?_
 exact ⟨HS.out.2.2.1.grown hg5 HS.out.2.2.1.size (by intro k hk;injection hk with hk;have:=H.out.2.2.2.2;omega),g,k2,by rw [HL.out],by have:=X.out.2.2.2.2;have:=H.out.2.2.1.size;omega,by rw [HL.out];exact hk1,hk2,HS.out.2.2.2.grown hg5 (by have:=X.out.2.2.2.2;simp;omega)⟩
open Go.RowKit
structure RT where
 t:Tm
 mA:Option Addr
 mN:Nat
 mK:Nat
 oA:Option Addr
 oN:Nat
 oK:Nat
 ttl:ByteArray
 bA:Option Addr
 bN:Nat
 bK:Nat
 sn:Int
 sA:Option Addr
 sN:Nat
 sK:Nat
 dA:Option Addr
 dN:Nat
 dK:Nat
def sptV (s:Spt):List Value:=[.int .i64 s.x,.int .i64 s.y,.int .u32 s.pen.fg,.int .u32 s.pen.bg,.int .u8 s.pen.st,.int .u16 s.pen.lk,.bool s.org]
def rtV (x:RT):List Value :=
 .int .i64 x.t.c :: .int .i64 x.t.r :: .int .i64 x.t.c :: .int .i64 x.t.r :: .slice x.mA x.mN x.mK :: .int .i64 x.t.c :: .int .i64 x.t.r :: .slice x.oA x.oN x.oK :: .bool x.t.isO ::
  (sptV x.t.now ++ (sptV x.t.sav ++ (.bool x.t.full :: .int .i64 x.t.top :: .int .i64 x.t.bot :: .bool x.t.nowrap :: .bool x.t.ins :: .bool x.t.hid :: .int .i64 x.t.mouse ::
   (x.t.tabs.map Value.bool ++ [.string x.ttl,.slice x.bA x.bN x.bK,.int .i32 x.t.last,.int .i64 x.sn,.slice x.sA x.sN x.sK,.slice x.dA x.dN x.dK]))))
theorem rtV_len {x:RT} (h:x.t.tabs.length=80):(rtV x).length=116:=by simp [rtV,sptV,h]
theorem one_rt (x:RT):∀ v∈rtV x,v.oneCell'=true:=by
 intro v hv
 simp only [rtV,sptV,List.mem_cons,List.mem_append,List.mem_map,List.not_mem_nil,or_false] at hv
 rcases hv with rfl | rfl | rfl | rfl | rfl | rfl | rfl | rfl | rfl | (rfl | rfl | rfl | rfl | rfl | rfl | rfl) | (rfl | rfl | rfl | rfl | rfl | rfl | rfl) | rfl | rfl | rfl | rfl | rfl | rfl | rfl | ⟨_,_,rfl⟩ | rfl | rfl | rfl | rfl | rfl | rfl<;>rfl
def RtB (w:World) (b:Nat) (x:RT):Prop:=w.heap[b]?=some (.cells (rtV x).toArray 42 (0,0))
section
variable {w w':World} {b:Nat} {x y:RT}
theorem RtB.lt (h:RtB w b x):b<w.heap.size:=(Array.getElem?_eq_some_iff.1 h).1
theorem RtB.below (h:RtB w b x) (hb:Below w.heap.size w w'):RtB w' b x:=(hb.block b h.lt).trans h
theorem RtB.free (h:RtB w b x) (k:Nat):w.frozen? ⟨b,k,none⟩=false:=frozen_of_row _ _ k _ _ h
end
def rt0:RT:=⟨⟨0,0,[],[],false,spt0,spt0,false,0,0,false,false,false,0,List.replicate 80 false,[],[],0,pa0⟩,none,0,0,none,0,0,⟨#[]⟩,none,0,0,0,none,0,0,none,0,0⟩
theorem infoRT1:(Tryz.prog.info? 42).map (·.size)=some 116:=by kernel_rfl
end Go.Proofs.YtlcipgdnpilkfaaGreatDoor
