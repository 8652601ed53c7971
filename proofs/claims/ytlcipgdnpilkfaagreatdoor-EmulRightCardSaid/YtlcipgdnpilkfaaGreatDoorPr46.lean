/-
  Part 46 of what the laws of emul want: EmulFew, EmulRefMem, EmulRefOps.
-/
import Derived.Laws.Rows
import Derived.Laws.Tables
import Derived.Test.YtlcipgdnpilkfaaGreatDoorPr14
import Derived.Test.YtlcipgdnpilkfaaGreatDoorPr17
import Derived.Test.YtlcipgdnpilkfaaGreatDoorPr34
import Derived.Test.YtlcipgdnpilkfaaGreatDoorPr36
import Derived.Test.YtlcipgdnpilkfaaGreatDoorPr38
import Derived.Test.YtlcipgdnpilkfaaGreatDoorPr45
namespace Go.Proofs.YtlcipgdnpilkfaaGreatDoor
open Go.RowKit
theorem Sane.resize {t:Tm} (h:Sane t) (c r:Nat):Sane (t.resize c r):=⟨h.lk.resize c r,h.tx⟩
theorem resize_lw {w0 w:World} {g:Nat} {x:CT} {t:Tm} (hT:Tabs w0) (h:Lw w0 w g x t) (c r:Int):Calls Tryz.prog 14 #[.pointer (some ⟨g,0,none⟩),.int .i64 c,.int .i64 r] w fun e w'=>∃ v y t',e=.returned (.int .i64 v)∧Lw w0 w' g y t':=by
 have hx:=h.tm
 have hss:=h.sane
 rw [← hx] at hss
 refine (resizeT_any (h.tabs hT) h.cz c r).mono ?_
 rintro e w' (⟨_,rfl,y,hy⟩ | ⟨_,rfl,hb⟩)
 · exact ⟨0,y,_,rfl,h.step hy (hss.resize _ _)⟩
 · exact ⟨1,x,t,rfl,h.below hb⟩
structure Stx (w:World) (ad:Addr) (x:StR):Prop where
 c0:w.cell? ad=some (.bool x.sz)
 c1:w.cell? ⟨ad.block,ad.off+1,none⟩=some (.int .i64 x.c)
 c2:w.cell? ⟨ad.block,ad.off+2,none⟩=some (.int .i64 x.r)
 c3:w.cell? ⟨ad.block,ad.off+3,none⟩=some (.slice x.T x.n x.k)
theorem Vs.stx {w:World} {ad:Addr} {n:Nat} {L:List StR} (h:Vs stpV w (some ad) n L) {k:Nat} {x:StR} (hk:L[k]?=some x):Stx w (ad.add (k*4)) x:=by
 have h1:=h.get stpV_len hk
 exact ⟨by simpa [addZeroP] using h1 0 _ rfl,by simpa [addStepP] using h1 1 _ rfl,by simpa [addStepP] using h1 2 _ rfl,by simpa [addStepP] using h1 3 _ rfl⟩
theorem stb_new (w:World) (x:StR) (t:TypeId):Below w.heap.size w (w.alloc (.cells (stpA x) t))∧(w.alloc (.cells (stpA x) t)).cell? ⟨w.heap.size,0,none⟩=some (.bool x.sz)∧(w.alloc (.cells (stpA x) t)).cell? ⟨w.heap.size,1,none⟩=some (.int .i64 x.c)∧(w.alloc (.cells (stpA x) t)).cell? ⟨w.heap.size,2,none⟩=some (.int .i64 x.r)∧(w.alloc (.cells (stpA x) t)).cell? ⟨w.heap.size,3,none⟩=some (.slice x.T x.n x.k):=by
 have hb:=heap_alloc_new w (.cells (stpA x) t)
 refine ⟨(Below.refl _ _).alloc (Nat.le_refl _) _,?_,?_,?_,?_⟩<;>rw [cell_of_row _ _ _ _ _ _ hb]<;>rfl
def FewP (R:List StR) (A:Option Addr) (n c:Nat) (w:World) (e:Ending) (w':World):Prop:=∃ k,k≤n∧k≤500∧(∀ j y,j<k→R[j]?=some y→y.n≤500)∧e=.returned (.slice A k c)∧Below w.heap.size w w'
set_option maxHeartbeats 6400000 in
set_option maxRecDepth 100000 in
theorem fewT_any {A:Option Addr} {n c:Nat} {R:List StR} {w:World} (hV:Vs stpV w A n R) (hR:∀ y∈R,StIn w y) (hc:n≤c∧c≤maxLen):Calls Tryz.prog 12 #[.slice A n c] w (FewP R A n c w):=by
 have H:=Lib.hid (And.intro hV hR)
 have HC:=Lib.hid hc
 clear hV hR
 go_enter Tryz.func12,Tryz.ntmps12
 go_wp2_with fail
 go_loopw [3,8] (fun v i wr=>∃ (k a:Nat),k≤n∧i=.int .i64 k∧v=.int .i64 a∧k≤a∧a≤500∧(∀ j y,j<k→R[j]?=some y→y.n≤500)∧Below w.heap.size w wr) (fun _ i _=>n-(intOf i).toNat)
 case atStart=>exact ⟨0,0,Nat.zero_le _,rfl,rfl,Nat.le_refl _,by omega,(fun j y h=>absurd h (Nat.not_lt_zero _)),Below.refl _ _⟩
 case round =>
  obtain ⟨k,a,hk,rfl,rfl,hka,ha,hF,hb⟩:=hrel
  have X:=Lib.hid (And.intro hF hb)
  clear hF hb
  by_cases hlt:k<n
  · obtain ⟨y,hy⟩:∃ y,R[k]?=some y:=⟨_,List.getElem?_eq_getElem (by rw [H.out.1.len];exact hlt)⟩
    have hv:=H.out.1.below X.out.2
    obtain ⟨ad,hA⟩:∃ ad,A=some ad:=hv.addr (by omega)
    subst hA
    obtain ⟨x0,x1,x2,x3⟩:=hv.stx hy
    have hyn:y.n≤140737488351232:=(H.out.2 y (List.mem_of_getElem? hy)).sm
    have HY:=Lib.hid hy
    obtain ⟨w3,hw3⟩:∃ w3,w3=wr.alloc (.cells (stpA y) 47):=⟨_,rfl⟩
    obtain ⟨b3,hb3⟩:∃ b3,b3=wr.heap.size:=⟨_,rfl⟩
    have H3:=Lib.hid (show Below wr.heap.size wr w3∧w3.cell? ⟨b3,0,none⟩=some (.bool y.sz)∧w3.cell? ⟨b3,1,none⟩=some (.int .i64 y.c)∧w3.cell? ⟨b3,2,none⟩=some (.int .i64 y.r)∧w3.cell? ⟨b3,3,none⟩=some (.slice y.T y.n y.k) from by rw [hw3,hb3];exact stb_new wr y _)
    have HB:=Lib.hid (X.out.2.trans (H3.out.1.mono X.out.2.size))
    unfold stpA at hw3
    clear hv hy
    go_upto_region 5 with fail
    rw [← hw3,← hb3]
    clear hw3 hb3 x0 x1 x2 x3
    obtain ⟨_,p0,p1,p2,p3⟩:=H3.out
    obtain ⟨D,hD⟩:∃ D:Nat,D=1+y.n:=⟨_,rfl⟩
    obtain ⟨E,hE⟩:∃ E:Nat,E=a+D:=⟨_,rfl⟩
    have HE:=Lib.hid (And.intro hD hE)
    have e1:wrap64 (D:Int)=(D:Int):=by unfold wrap64;omega
    have e2:wrap64 (E:Int)=(E:Int):=by clear e1;unfold wrap64;omega
    have e3:1+(y.n:Int)=(D:Int):=by clear e1 e2;omega
    have e4:(a:Int)+(D:Int)=(E:Int):=by clear e1 e2 e3;omega
    clear hD hE hyn
    by_cases hE5:E≤500
    · go_wp2_with fail
      go_roundw
      case rel=>exact ⟨k+1,E,by omega,by go_num,rfl,by have:=HE.out;omega,hE5,(fun j z hj hz=>by
       by_cases hjk:j<k
       · exact X.out.1 j z hjk hz
       · obtain rfl:j=k:=by omega
         rw [HY.out] at hz
         injection hz with hz
         rw [← hz]
         have:=HE.out
         omega),HB.out⟩
      case measure=>simp [intOf];omega
    · have hkc:k≤c:=by omega
      go_wp2_with fail
      go_ret
      exact ⟨k,by omega,by omega,X.out.1,rfl,HB.out⟩
  · obtain rfl:k=n:=by omega
    go_wp2_with fail
    go_ret
    exact ⟨k,Nat.le_refl _,by omega,X.out.1,rfl,X.out.2⟩
open Go.RowKit
structure RT where
 t:Tm
 mA:Option Addr
 mN:Nat
 mK:Nat
 oA:Option Addr
 oN:Nat
 oK:Nat
 ttl:ByteArray
 bA:Option Addr
 bN:Nat
 bK:Nat
 sn:Int
 sA:Option Addr
 sN:Nat
 sK:Nat
 dA:Option Addr
 dN:Nat
 dK:Nat
def sptV (s:Spt):List Value:=[.int .i64 s.x,.int .i64 s.y,.int .u32 s.pen.fg,.int .u32 s.pen.bg,.int .u8 s.pen.st,.int .u16 s.pen.lk,.bool s.org]
def rtV (x:RT):List Value :=
 .int .i64 x.t.c :: .int .i64 x.t.r :: .int .i64 x.t.c :: .int .i64 x.t.r :: .slice x.mA x.mN x.mK :: .int .i64 x.t.c :: .int .i64 x.t.r :: .slice x.oA x.oN x.oK :: .bool x.t.isO ::
  (sptV x.t.now ++ (sptV x.t.sav ++ (.bool x.t.full :: .int .i64 x.t.top :: .int .i64 x.t.bot :: .bool x.t.nowrap :: .bool x.t.ins :: .bool x.t.hid :: .int .i64 x.t.mouse ::
   (x.t.tabs.map Value.bool ++ [.string x.ttl,.slice x.bA x.bN x.bK,.int .i32 x.t.last,.int .i64 x.sn,.slice x.sA x.sN x.sK,.slice x.dA x.dN x.dK]))))
theorem rtV_len {x:RT} (h:x.t.tabs.length=80):(rtV x).length=116:=by simp [rtV,sptV,h]
theorem one_rt (x:RT):∀ v∈rtV x,v.oneCell'=true:=by
 intro v hv
 simp only [rtV,sptV,List.mem_cons,List.mem_append,List.mem_map,List.not_mem_nil,or_false] at hv
 rcases hv with rfl | rfl | rfl | rfl | rfl | rfl | rfl | rfl | rfl | (rfl | rfl | rfl | rfl | rfl | rfl | rfl) | (rfl | rfl | rfl | rfl | rfl | rfl | rfl) | rfl | rfl | rfl | rfl | rfl | rfl | rfl | ⟨_,_,rfl⟩ | rfl | rfl | rfl | rfl | rfl | rfl<;>rfl
def RtB (w:World) (b:Nat) (x:RT):Prop:=w.heap[b]?=some (.cells (rtV x).toArray 42 (0,0))
section
variable {w w':World} {b:Nat} {x y:RT}
theorem RtB.lt (h:RtB w b x):b<w.heap.size:=(Array.getElem?_eq_some_iff.1 h).1
theorem RtB.below (h:RtB w b x) (hb:Below w.heap.size w w'):RtB w' b x:=(hb.block b h.lt).trans h
theorem RtB.free (h:RtB w b x) (k:Nat):w.frozen? ⟨b,k,none⟩=false:=frozen_of_row _ _ k _ _ h
end
def rt0:RT:=⟨⟨0,0,[],[],false,spt0,spt0,false,0,0,false,false,false,0,List.replicate 80 false,[],[],0,pa0⟩,none,0,0,none,0,0,⟨#[]⟩,none,0,0,0,none,0,0,none,0,0⟩
theorem infoRT1:(Tryz.prog.info? 42).map (·.size)=some 116:=by kernel_rfl
open Go.RowKit
theorem zeroRT:Tryz.zeroCells42=(rtV rt0).toArray:=by kernel_rfl
theorem rt_one (x:RT):(rtV x).toArray.all (·.oneCell')=true:=by
 rw [List.all_toArray,List.all_eq_true]
 exact one_rt x
end Go.Proofs.YtlcipgdnpilkfaaGreatDoor
