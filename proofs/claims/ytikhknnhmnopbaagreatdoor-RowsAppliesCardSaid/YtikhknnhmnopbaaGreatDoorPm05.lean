/-
  Part 5 of what the laws of emul want: CellRowMay, CellCut, CellFill, RecsIn, CellIn, CellRefRow, CellKeep, GridSpec.
-/
import Derived.Deep.RegionHeld3
import Derived.Deep.Fields
import Derived.Deep.Slices
import Derived.OpenShut
import Derived.LoopTactic
import Derived.StillTailTactics
import Derived.Maps.RangeWalk
import Derived.Test.YtikhknnhmnopbaaGreatDoorPm01
import Derived.Test.YtikhknnhmnopbaaGreatDoorPm02
import Derived.Test.YtikhknnhmnopbaaGreatDoorPm04
namespace Go.Proofs.YtikhknnhmnopbaaGreatDoor
open Go.RowKit
theorem six_new (w:World) (c:Ce) (t:TypeId):Six (w.alloc (.cells (ceA c) t)) ⟨w.heap.size,0,none⟩ c :=
 ⟨cell_of_row _ _ 0 _ _ _ (heap_alloc_new w _),cell_of_row _ _ 1 _ _ _ (heap_alloc_new w _),cell_of_row _ _ 2 _ _ _ (heap_alloc_new w _),cell_of_row _ _ 3 _ _ _ (heap_alloc_new w _),cell_of_row _ _ 4 _ _ _ (heap_alloc_new w _),cell_of_row _ _ 5 _ _ _ (heap_alloc_new w _)⟩
theorem Six.below {w w':World} {ad:Addr} {c:Ce} (h:Six w ad c) {B:Nat} (hb:Below B w w') (hB:ad.block<B):Six w' ad c :=
 ⟨(hb.cell hB).trans h.c0,(hb.cell (by exact hB)).trans h.c1,(hb.cell (by exact hB)).trans h.c2,(hb.cell (by exact hB)).trans h.c3,(hb.cell (by exact hB)).trans h.c4,(hb.cell (by exact hB)).trans h.c5⟩
theorem Six.blk {w:World} {b:Nat} {c:Ce} (h:Six w ⟨b,0,none⟩ c):w.cell? ⟨b,0,none⟩=some (.int .i32 c.r)∧w.cell? ⟨b,1,none⟩=some (.int .u8 c.wd)∧w.cell? ⟨b,2,none⟩=some (.int .u32 c.p.fg) ∧
  w.cell? ⟨b,3,none⟩=some (.int .u32 c.p.bg)∧w.cell? ⟨b,4,none⟩=some (.int .u8 c.p.st)∧w.cell? ⟨b,5,none⟩=some (.int .u16 c.p.lk):=⟨h.c0,h.c1,h.c2,h.c3,h.c4,h.c5⟩
theorem belowN {B:Nat} {a w:World} (h:Below B a w) (n:Nat):Below B a (w.drewN n):=⟨h.os,h.tape,h.output,h.size,h.block⟩
theorem okAt_not {L:List Ce} {k:Nat} (hk:k<L.length) (h:¬ OkAt L k):rowMay L=false:=(rowMay_not L).2 fun e=>h (e.at_ k hk)
theorem below_sz {B:Nat} {a b:World} (h:Below B a b):a.heap.size≤b.heap.size:=h.size
theorem okAt_succ {L:List Ce} {k:Nat} (h:∀ j,j<k→OkAt L j) (h2:OkAt L k):∀ j,j<k+1→OkAt L j:=fun j hj=>by
 by_cases e:j=k
 · rw [e];exact h2
 · exact h j (by omega)
theorem retF {a:Bool} (h:a=false):Ending.returned (.bool false)=.returned (.bool a):=by rw [h]
theorem retT {a:Bool} (h:a=true):Ending.returned (.bool true)=.returned (.bool a):=by rw [h]
set_option maxHeartbeats 3200000 in
set_option maxRecDepth 100000 in
theorem rowMay_any {w:World} {A:Option Addr} {n c:Nat} {L:List Ce} (h:Vs ceV w A n L) (hT:Tabs w) (hn:n≤1000000) :
  Calls Tryz.prog 82 #[.slice A n c] w fun e w'=>e=.returned (.bool (rowMay L))∧Below w.heap.size w w':=by
 by_cases h1:n<1
 · have hd:rowMay L=false:=(rowMay_not L).2 fun e=>by have:=e.pos;have:=h.len;omega
   rw [hd]
   clear h hT hd
   go_enter Tryz.func82,Tryz.ntmps82
   go_wp2_with fail
   go_ret
   exact ⟨rfl,Below.refl _ _⟩
 by_cases h2:80<n
 · have hd:rowMay L=false:=(rowMay_not L).2 fun e=>by have:=e.le;have:=h.len;omega
   rw [hd]
   clear h hT hd
   go_enter Tryz.func82,Tryz.ntmps82
   go_wp2_with fail
   go_ret
   exact ⟨rfl,Below.refl _ _⟩
 have hn80:n≤80:=by omega
 have H:=Lib.hid (And.intro h hT)
 clear h hT
 go_enter Tryz.func82,Tryz.ntmps82
 go_wp2_with fail
 go_loopw [15] (fun i wr=>∃ k:Nat,k≤n∧i=.int .i64 k∧(∀ j,j<k→OkAt L j)∧Below w.heap.size w wr) (fun i _=>n-(intOf i).toNat)
 case atStart=>exact ⟨0,Nat.zero_le _,rfl,fun j hj=>absurd hj (by omega),Below.refl _ _⟩
 case round =>
  obtain ⟨k,hk,rfl,hok,hbw⟩:=hrel
  have HJ:=Lib.hid hok
  have X:=Lib.hid (show (∀ j,j<k→OkAt L j)∧Below w.heap.size w wr∧Vs ceV wr A n L from ⟨hok,hbw,H.out.1.below hbw⟩)
  clear hok hbw
  by_cases hlt:k<n
  · have hkl:(k:Int)<(n:Int):=by omega
    obtain ⟨ad,rfl⟩:=H.out.1.addr (by omega)
    have hadl:=X.out.2.2.lt (by omega)
    have HKL:=Lib.hid (show k<L.length from by rw [H.out.1.len];exact hlt)
    obtain ⟨x,hx⟩:∃ x,x=cAt L k:=⟨_,rfl⟩
    have hsx:=X.out.2.2.six hlt
    rw [← hx] at hsx
    obtain ⟨a0,a1,a2,a3,a4,a5⟩:=hsx
    have HX:=Lib.hid hx
    clear hx
    go_wp2_with fail
    refine (ceMay_any x (H.out.2.below (X.out.2.1.alloc X.out.2.1.size _) (Nat.le_refl _))).mono ?_
    rintro e w2 ⟨rfl,hb⟩
    have hs2:=(six_new wr x 43).below hb (by simp)
    have hv2:=(X.out.2.2.alloc (.cells (ceA x) 43)).below hb
    obtain ⟨bx,hbx⟩:∃ bx,bx=wr.heap.size:=⟨_,rfl⟩
    have hbel:=(X.out.2.1.alloc X.out.2.1.size (.cells (ceA x) 43)).trans (hb.mono (by simp;have:=X.out.2.1.size;omega))
    have hblt:bx<w2.heap.size:=by have:=hb.size;simp at this;omega
    rw [← hbx] at hs2 ⊢
    have Y:=Lib.hid (show Below w.heap.size w w2∧Vs ceV w2 (some ad) n L∧Six w2 ⟨bx,0,none⟩ x∧bx<w2.heap.size from ⟨hbel,hv2,hs2,hblt⟩)
    obtain ⟨d0,d1,d2,d3,d4,d5⟩:=hs2.blk
    clear a0 a1 a2 a3 a4 a5 hb hadl hv2 hbel hblt hbx hs2 X
    have hadl:=Y.out.2.1.lt (by omega)
    obtain ⟨M,hM⟩:∃ M,cellMay x=M:=⟨_,rfl⟩
    rw [hM]
    have HM:=Lib.hid hM
    clear hM
    cases M
    · have HD:=Lib.hid (okAt_not HKL.out (fun e=>by have:=e.1;rw [← HX.out,HM.out] at this;cases this))
      clear d0 d1 d2 d3 d4 d5 hadl
      go_wp2_with fail
      go_ret
      exact ⟨retF HD.out,Y.out.1⟩
    · by_cases hw1:x.wd=1
      · rw [hw1] at d1
        by_cases hlast:k+1=n
        · have hl1:((k:Int)+1 == (n:Int))=true:=by simp;omega
          have HD:=Lib.hid (okAt_not HKL.out (fun e=>by have:=(e.2.1 (by rw [← HX.out];exact hw1)).1;have:=H.out.1.len;omega))
          clear hw1 hlast d0 d2 d3 d4 d5 hadl
          go_wp2_with fail
          go_quiet (fail)
          go_wp2_with fail
          go_ret
          exact ⟨retF HD.out,belowN Y.out.1 _⟩
        · have hl1:((k:Int)+1 == (n:Int))=false:=by simp;omega
          have hl2:(k:Int)+1<(n:Int):=by omega
          have hl3:k+1<n:=by omega
          obtain ⟨y,hy⟩:∃ y,y=cAt L (k+1):=⟨_,rfl⟩
          have HY:=Lib.hid hy
          clear hy hlast
          have SX:=Lib.hid (show ∀ w',Below w2.heap.size w2 w'→(Below w2.heap.size w2 w'∧(w'.cell? ⟨bx,0,none⟩=some (.int .i32 x.r)∧w'.cell? ⟨bx,1,none⟩=some (.int .u8 1)∧w'.cell? ⟨bx,2,none⟩=some (.int .u32 x.p.fg)∧w'.cell? ⟨bx,3,none⟩=some (.int .u32 x.p.bg)∧w'.cell? ⟨bx,4,none⟩=some (.int .u8 x.p.st)∧w'.cell? ⟨bx,5,none⟩=some (.int .u16 x.p.lk)) ∧
            (w'.cell? (ad.add ((k+1)*6))=some (.int .i32 y.r)∧w'.cell? ⟨(ad.add ((k+1)*6)).block,(ad.add ((k+1)*6)).off+1,none⟩=some (.int .u8 y.wd)∧w'.cell? ⟨(ad.add ((k+1)*6)).block,(ad.add ((k+1)*6)).off+2,none⟩=some (.int .u32 y.p.fg) ∧
             w'.cell? ⟨(ad.add ((k+1)*6)).block,(ad.add ((k+1)*6)).off+3,none⟩=some (.int .u32 y.p.bg)∧w'.cell? ⟨(ad.add ((k+1)*6)).block,(ad.add ((k+1)*6)).off+4,none⟩=some (.int .u8 y.p.st)∧w'.cell? ⟨(ad.add ((k+1)*6)).block,(ad.add ((k+1)*6)).off+5,none⟩=some (.int .u16 y.p.lk))) from fun w' hb=>by
           have e1:=Y.out.2.2.1.below hb Y.out.2.2.2
           have e2:=(Y.out.2.1.below hb).six hl3
           rw [← HY.out] at e2
           exact ⟨hb,⟨e1.c0,by rw [← hw1];exact e1.c1,e1.c2,e1.c3,e1.c4,e1.c5⟩,e2.c0,e2.c1,e2.c2,e2.c3,e2.c4,e2.c5⟩)
          have hl4:(0:Int)≤(k:Int)+1:=by omega
          have hwr:IntKind.i64.wrap ((k:Int)+1)=(k:Int)+1:=by rw [IntKind.wrap_i64];omega
          have hl5:((k:Int)+1).toNat=k+1:=by omega
          have hgd:=guardCe
          obtain ⟨RV,hRV⟩:∃ RV,RV=ceA (rightS ⟨x.r,1,x.p⟩):=⟨_,rfl⟩
          have hcall:=fun w=>rightOf_any ⟨x.r,1,x.p⟩ w
          have hne:=fun w=>ce_neq y (rightS ⟨x.r,1,x.p⟩) w
          rw [← hRV] at hcall hne
          unfold ceA at hcall hne
          have HC:=Lib.hid hcall
          obtain ⟨B,hB⟩:∃ B,decide (y=rightS ⟨x.r,1,x.p⟩)=B:=⟨_,rfl⟩
          rw [hB] at hne
          have HB:=Lib.hid hB
          clear hB hRV hcall
          have hb0:Below w2.heap.size w2 w2:=Below.refl _ _
          have HW:=Lib.hid hw1
          clear hw1 d0 d1 d2 d3 d4 d5 hadl hl3
          cases B
          · have HD:=Lib.hid (okAt_not HKL.out (fun e=>(of_decide_eq_false HB.out) (by rw [HY.out];exact (e.2.1 (by rw [← HX.out];exact HW.out)).2.trans (by rw [← HX.out];rfl))))
            go_wp2_with fail
            go_region_held3 (fun w'=>Below w2.heap.size w2 w'∧(w'.cell? ⟨bx,0,none⟩=some (.int .i32 x.r)∧w'.cell? ⟨bx,1,none⟩=some (.int .u8 1)∧w'.cell? ⟨bx,2,none⟩=some (.int .u32 x.p.fg)∧w'.cell? ⟨bx,3,none⟩=some (.int .u32 x.p.bg)∧w'.cell? ⟨bx,4,none⟩=some (.int .u8 x.p.st)∧w'.cell? ⟨bx,5,none⟩=some (.int .u16 x.p.lk)) ∧
             (w'.cell? (ad.add ((k+1)*6))=some (.int .i32 y.r)∧w'.cell? ⟨(ad.add ((k+1)*6)).block,(ad.add ((k+1)*6)).off+1,none⟩=some (.int .u8 y.wd)∧w'.cell? ⟨(ad.add ((k+1)*6)).block,(ad.add ((k+1)*6)).off+2,none⟩=some (.int .u32 y.p.fg) ∧
              w'.cell? ⟨(ad.add ((k+1)*6)).block,(ad.add ((k+1)*6)).off+3,none⟩=some (.int .u32 y.p.bg)∧w'.cell? ⟨(ad.add ((k+1)*6)).block,(ad.add ((k+1)*6)).off+4,none⟩=some (.int .u8 y.p.st)∧w'.cell? ⟨(ad.add ((k+1)*6)).block,(ad.add ((k+1)*6)).off+5,none⟩=some (.int .u16 y.p.lk)))
             ((refine SX.out _ ?_;(try go_split_ands);first | assumption | exact belowN (by assumption) 1))
             ((first | (go_at_call 100;refine (HC.out _).mono ?_;rintro e w4 ⟨rfl,hb4⟩;(try go_split_ands);have hb5:=Below.trans (B:=w2.heap.size) (by assumption) (hb4.mono (below_sz (a:=w2) (B:=w2.heap.size) (by assumption))))))
            go_wp2_with fail
            go_ret
            exact ⟨retF HD.out,Y.out.1.trans (hb5.mono Y.out.1.size)⟩
          · have HOK:=Lib.hid (show OkAt L k from ⟨by rw [← HX.out];exact HM.out,fun _=>⟨by rw [H.out.1.len];omega,by rw [← HY.out,of_decide_eq_true HB.out,← HX.out];rfl⟩,fun e=>by rw [← HX.out,HW.out] at e;cases e⟩)
            go_wp2_with fail
            go_region_held3 (fun w'=>Below w2.heap.size w2 w'∧(w'.cell? ⟨bx,0,none⟩=some (.int .i32 x.r)∧w'.cell? ⟨bx,1,none⟩=some (.int .u8 1)∧w'.cell? ⟨bx,2,none⟩=some (.int .u32 x.p.fg)∧w'.cell? ⟨bx,3,none⟩=some (.int .u32 x.p.bg)∧w'.cell? ⟨bx,4,none⟩=some (.int .u8 x.p.st)∧w'.cell? ⟨bx,5,none⟩=some (.int .u16 x.p.lk)) ∧
             (w'.cell? (ad.add ((k+1)*6))=some (.int .i32 y.r)∧w'.cell? ⟨(ad.add ((k+1)*6)).block,(ad.add ((k+1)*6)).off+1,none⟩=some (.int .u8 y.wd)∧w'.cell? ⟨(ad.add ((k+1)*6)).block,(ad.add ((k+1)*6)).off+2,none⟩=some (.int .u32 y.p.fg) ∧
              w'.cell? ⟨(ad.add ((k+1)*6)).block,(ad.add ((k+1)*6)).off+3,none⟩=some (.int .u32 y.p.bg)∧w'.cell? ⟨(ad.add ((k+1)*6)).block,(ad.add ((k+1)*6)).off+4,none⟩=some (.int .u8 y.p.st)∧w'.cell? ⟨(ad.add ((k+1)*6)).block,(ad.add ((k+1)*6)).off+5,none⟩=some (.int .u16 y.p.lk)))
             ((refine SX.out _ ?_;(try go_split_ands);first | assumption | exact belowN (by assumption) 1))
             ((first | (go_at_call 100;refine (HC.out _).mono ?_;rintro e w4 ⟨rfl,hb4⟩;(try go_split_ands);have hb5:=Below.trans (B:=w2.heap.size) (by assumption) (hb4.mono (below_sz (a:=w2) (B:=w2.heap.size) (by assumption))))))
            go_wp2_with fail
            go_roundw
            case rel=>exact ⟨k+1,by omega,by go_num,okAt_succ HJ.out HOK.out,Y.out.1.trans (hb5.mono Y.out.1.size)⟩
            case measure=>simp [intOf];omega
      · have t1:(x.wd == 1)=false:=by simpa using hw1
        clear d0 d2 d3 d4 d5
        by_cases hw2:x.wd=2
        · rw [hw2] at d1 t1
          by_cases h0:k=0
          · have HD:=Lib.hid (okAt_not HKL.out (fun e=>by have:=(e.2.2 (by rw [← HX.out];exact hw2)).1;omega))
            subst h0
            go_wp2_with fail
            go_quiet (fail)
            go_wp2_with fail
            go_ret
            exact ⟨retF HD.out,belowN Y.out.1 _⟩
          · have hk0:((k:Int) == 0)=false:=by simp;omega
            have hk1:0≤(k:Int)-1:=by omega
            have hk2:((k:Int)-1).toNat=k-1:=by omega
            obtain ⟨y,hy⟩:∃ y,y=cAt L (k-1):=⟨_,rfl⟩
            have hsy:=Y.out.2.1.six (k:=k-1) (by omega)
            rw [← hy] at hsy
            obtain ⟨b0,b1,b2,b3,b4,b5⟩:=hsy
            have HY:=Lib.hid hy
            clear hy b0 b2 b3 b4 b5
            by_cases hy1:y.wd=1
            · rw [hy1] at b1
              have HOK:=Lib.hid (show OkAt L k from ⟨by rw [← HX.out];exact HM.out,fun e=>absurd (by rw [HX.out];exact e) hw1,fun _=>⟨by omega,by rw [← HY.out];exact hy1⟩⟩)
              clear hy1 hw1 hw2
              go_wp2_with fail
              go_quiet (fail)
              go_wp2_with fail
              go_roundw
              case rel=>exact ⟨k+1,by omega,by go_num,okAt_succ HJ.out HOK.out,belowN Y.out.1 _⟩
              case measure=>simp [intOf];omega
            · have hy2:(y.wd != 1)=true:=by simpa using hy1
              have HD:=Lib.hid (okAt_not HKL.out (fun e=>hy1 (by rw [HY.out];exact (e.2.2 (by rw [← HX.out];exact hw2)).2)))
              go_wp2_with fail
              go_quiet (fail)
              go_wp2_with fail
              go_ret
              exact ⟨retF HD.out,belowN Y.out.1 _⟩
        · have t2:(x.wd == 2)=false:=by simpa using hw2
          have HOK:=Lib.hid (show OkAt L k from ⟨by rw [← HX.out];exact HM.out,fun e=>absurd (by rw [HX.out];exact e) hw1,fun e=>absurd (by rw [HX.out];exact e) hw2⟩)
          go_wp2_with fail
          go_quiet (fail)
          go_wp2_with fail
          go_roundw
          case rel=>exact ⟨k+1,by omega,by go_num,okAt_succ HJ.out HOK.out,belowN Y.out.1 _⟩
          case measure=>simp [intOf];omega
  · obtain rfl:k=n:=by omega
    have HD:=Lib.hid ((rowMay_iff L).2 ⟨by have:=H.out.1.len;omega,by have:=H.out.1.len;omega,fun i hi=>X.out.1 i (by have:=H.out.1.len;omega)⟩)
    go_wp2_with fail
    go_ret
    exact ⟨retT HD.out,X.out.2.1⟩
open Go.RowKit
structure Pen4 (w:World) (b:Nat) (p:Pn):Prop where
 c0:w.cell? ⟨b,0,none⟩=some (.int .u32 p.fg)
 c1:w.cell? ⟨b,1,none⟩=some (.int .u32 p.bg)
 c2:w.cell? ⟨b,2,none⟩=some (.int .u8 p.st)
 c3:w.cell? ⟨b,3,none⟩=some (.int .u16 p.lk)
 lt:b<w.heap.size
theorem pen4_new (w:World) (p:Pn) (t:TypeId):Pen4 (w.alloc (.cells (pnA p) t)) w.heap.size p :=
 ⟨cell_of_row _ _ 0 _ _ _ (heap_alloc_new w _),cell_of_row _ _ 1 _ _ _ (heap_alloc_new w _),cell_of_row _ _ 2 _ _ _ (heap_alloc_new w _),cell_of_row _ _ 3 _ _ _ (heap_alloc_new w _),by simp⟩
theorem Pen4.kept {w w':World} {b:Nat} {p:Pn} (h:Pen4 w b p) (hb:w'.heap[b]?=w.heap[b]?) (hs:w.heap.size≤w'.heap.size):Pen4 w' b p :=
 ⟨(World.cell?_of_block hb).trans h.c0,(World.cell?_of_block hb).trans h.c1,(World.cell?_of_block hb).trans h.c2,(World.cell?_of_block hb).trans h.c3,Nat.lt_of_lt_of_le h.lt hs⟩
theorem Pen4.below {w w':World} {b:Nat} {p:Pn} (h:Pen4 w b p) (hb:Below w.heap.size w w'):Pen4 w' b p:=h.kept (hb.block _ h.lt) hb.size
theorem Pen4.grown {w w':World} {b:Nat} {p:Pn} (h:Pen4 w b p) {row:Option Nat} (hg:w.grownBy w' row) (hne:row≠some b):Pen4 w' b p:=h.kept (hg.block _ h.lt fun e=>hne e.symm) hg.size
open Go.RowKit
theorem over_next {L:List Ce} {o i m:Nat} {b:Ce} (h:o+m≤L.length) (hi:i<m):(overS L o (List.replicate i b)).set (o+i) b=overS L o (List.replicate (i+1) b):=by
 have h1:o+(List.replicate i b).length≤L.length:=by rw [List.length_replicate];omega
 have h2:o+(List.replicate (i+1) b).length≤L.length:=by rw [List.length_replicate];omega
 refine row_ext (by rw [List.length_set,overS_length h1,overS_length h2]) fun j hj=>?_
 rw [List.length_set,overS_length h1] at hj
 rw [cAt_set,overS_length h1,cAt_overS h1,cAt_overS h2,List.length_replicate,List.length_replicate,cAt_replicate,cAt_replicate]
 by_cases e:j=o+i
 · subst e
   rw [if_pos ⟨rfl,hj⟩,if_pos (by omega),if_pos (by omega)]
 · rw [if_neg (fun e2=>e e2.1)]
   by_cases e2:o≤j∧j<o+i
   · rw [if_pos e2,if_pos (by omega),if_pos (by omega),if_pos (by omega)]
   · rw [if_neg e2,if_neg (by omega)]
theorem over_none (L:List Ce) (o:Nat) (b:Ce):overS L o (List.replicate 0 b)=L:=by simp [overS]
def FillPost (L:List Ce) (o m g:Nat) (p:Pn) (w:World) (e:Ending) (w':World):Prop:=e=.returned (.tuple #[])∧Rw ceV 43 w' g (overS L o (List.replicate m (blankS p)))∧w.grownBy w' (some g)
open Go.ChangeShapes Go.WideShapes Go.ChangeAt Go.RowKit Go.Deep
theorem vs_of {α:Type} {f:α→List Value} {d:Nat} (hf:∀ a,(f a).length=d) {w:World} {ad:Addr} {Q:α→Prop}:∀ (n:Nat),(∀ k,k<n→∃ a,Q a∧∀ j v,(f a)[j]?=some v→w.cell? (ad.add (k*d+j))=some v) →
  ∃ L:List α,L.length=n∧(∀ a∈L,Q a)∧∀ j v,(rowV f L)[j]?=some v→w.cell? (ad.add j)=some v:=by
 intro n
 induction n with
 | zero=>intro _;exact ⟨[],rfl,(fun a h=>by cases h),fun j v hj=>by simp [rowV] at hj⟩
 | succ n ih =>
  intro h
  obtain ⟨L,h1,h2,h3⟩:=ih fun k hk=>h k (by omega)
  obtain ⟨a,hq,ha⟩:=h n (by omega)
  refine ⟨L ++ [a],by simp [h1],fun b hb=>?_,fun j v hj=>?_⟩
  · rcases List.mem_append.1 hb with hb | hb
    · exact h2 b hb
    · rw [List.mem_singleton.1 hb];exact hq
  · rw [rowV_append] at hj
    have hl:=rowV_len hf L
    rw [h1] at hl
    rcases Nat.lt_or_ge j (n*d) with hlt | hge
    · rw [List.getElem?_append_left (by omega)] at hj
      exact h3 j v hj
    · rw [List.getElem?_append_right (by omega),hl] at hj
      have e:rowV f [a]=f a:=by simp [rowV]
      rw [e] at hj
      have:=ha _ _ hj
      rwa [show n*d+(j-n*d)=j by omega] at this
open Go.ChangeShapes Go.WideShapes Go.ChangeAt Go.RowKit Go.Deep
theorem cellsPn:Tryz.prog.cellsOf 41=4:=by kernel_rfl
theorem cellsCe:Tryz.prog.cellsOf 43=6:=by kernel_rfl
theorem cellsCo:Tryz.prog.cellsOf 38=1:=by kernel_rfl
theorem cells_8:Tryz.prog.cellsOf 5=1:=by kernel_rfl
theorem cells_16:Tryz.prog.cellsOf 39=1:=by kernel_rfl
theorem cells_i32:Tryz.prog.cellsOf 21=1:=by kernel_rfl
theorem cells_i:Tryz.prog.cellsOf 3=1:=by kernel_rfl
section
variable {H:Type} {enc:TypeId × Value→H} {W:World} {base fuel:Nat} {spare:Nat→Bool} {held:Bool} {cs:List Value} {x:DataW H × List MemPlace}
set_option maxRecDepth 100000 in
theorem trod_pen (h:DataW.trod enc Tryz.prog W base spare held fuel 41 cs=some x):∃ p:Pn,cs=[.int .u32 p.fg,.int .u32 p.bg,.int .u8 p.st,.int .u16 p.lk]:=by
 obtain ⟨ys,n1,hn1,hys,hcl,hyl,hf⟩:=DataW.trod_struct Tryz.underlying41 h
 rw [cellsPn] at hcl
 match cs,hcl with
 | [v0,v1,v2,v3],_ =>
  match ys,hyl with
  | [y0,y1,y2,y3],_ =>
   have f0:DataW.trod enc Tryz.prog W base spare held n1 38 [v0]=some y0:=by simpa [cellsCo] using hf 0 _ rfl
   have f1:DataW.trod enc Tryz.prog W base spare held n1 38 [v1]=some y1:=by simpa [cellsCo] using hf 1 _ rfl
   have f2:DataW.trod enc Tryz.prog W base spare held n1 5 [v2]=some y2:=by simpa [cells_8] using hf 2 _ rfl
   have f3:DataW.trod enc Tryz.prog W base spare held n1 39 [v3]=some y3:=by simpa [cells_16] using hf 3 _ rfl
   obtain ⟨a,e0,_,_⟩:=DataW.trod_int Tryz.underlying38 f0
   obtain ⟨b,e1,_,_⟩:=DataW.trod_int Tryz.underlying38 f1
   obtain ⟨c,e2,_,_⟩:=DataW.trod_int Tryz.underlying5 f2
   obtain ⟨d,e3,_,_⟩:=DataW.trod_int Tryz.underlying39 f3
   injection e0 with e0
   injection e1 with e1
   injection e2 with e2
   injection e3 with e3
   subst e0 e1 e2 e3
   exact ⟨⟨a,b,c,d⟩,rfl⟩
set_option maxRecDepth 100000 in
theorem trod_cell (h:DataW.trod enc Tryz.prog W base spare held fuel 43 cs=some x):∃ c:Ce,cs=ceV c:=by
 obtain ⟨ys,n1,hn1,hys,hcl,hyl,hf⟩:=DataW.trod_struct Tryz.underlying43 h
 rw [cellsCe] at hcl
 match cs,hcl with
 | [v0,v1,v2,v3,v4,v5],_ =>
  match ys,hyl with
  | [y0,y1,y2],_ =>
   have f0:DataW.trod enc Tryz.prog W base spare held n1 21 [v0]=some y0:=by simpa [cells_i32] using hf 0 _ rfl
   have f1:DataW.trod enc Tryz.prog W base spare held n1 5 [v1]=some y1:=by simpa [cells_8] using hf 1 _ rfl
   have f2:DataW.trod enc Tryz.prog W base spare held n1 41 [v2,v3,v4,v5]=some y2:=by simpa [cellsPn] using hf 2 _ rfl
   obtain ⟨a,e0,_,_⟩:=DataW.trod_int Tryz.underlying21 f0
   obtain ⟨b,e1,_,_⟩:=DataW.trod_int Tryz.underlying5 f1
   obtain ⟨p,e2⟩:=trod_pen f2
   injection e0 with e0
   injection e1 with e1
   simp only [List.cons.injEq,and_true] at e2
   obtain ⟨e2,e3,e4,e5⟩:=e2
   subst e0 e1 e2 e3 e4 e5
   exact ⟨⟨a,b,p⟩,rfl⟩
end
open Go.RowKit
def OkR (L:List Ce) (i:Nat):Prop :=
 cellMay (cAt L i)=true∧((cAt L i).wd=1→i+1<L.length∧(cAt L (i+1)).wd=2∧(cAt L (i+1)).p=(cAt L i).p)∧((cAt L i).wd=2→0<i∧(cAt L (i-1)).wd=1)
theorem okAt_R {L:List Ce} {i:Nat} (h:OkAt L i):OkR L i:=⟨h.1,fun e=>by
 obtain ⟨h1,h2⟩:=h.2.1 e
 exact ⟨h1,by rw [h2];rfl,by rw [h2];rfl⟩,h.2.2⟩
theorem okR_all {L:List Ce} (h:∀ i,i<L.length→OkR L i):∀ i,i<L.length→OkAt L i:=fun i hi=>⟨(h i hi).1,fun e=>by
 obtain ⟨h1,h2,h3⟩:=(h i hi).2.1 e
 refine ⟨h1,?_⟩
 have h4:=(h (i+1) h1).1
 unfold cellMay at h4
 rw [h2] at h4
 simp at h4
 exact Ce.ext' h4.2 h2 h3,(h i hi).2.2⟩
theorem okR_not {L:List Ce} {k:Nat} (hk:k<L.length) (h:¬ OkR L k):rowMay L=false:=okAt_not hk fun e=>h (okAt_R e)
theorem okR_succ {L:List Ce} {k:Nat} (h:∀ j,j<k→OkR L j) (h2:OkR L k):∀ j,j<k+1→OkR L j:=fun j hj=>by
 by_cases e:j=k
 · rw [e];exact h2
 · exact h j (by omega)
set_option maxHeartbeats 3200000 in
set_option maxRecDepth 100000 in
theorem refRowMay_any {w:World} {A:Option Addr} {n c:Nat} {L:List Ce} (h:Vs ceV w A n L) (hn:n≤9223372036854775807) :
  Calls Tryz.prog 67 #[.slice A n c] w fun e w'=>e=.returned (.bool (rowMay L))∧Below w.heap.size w w':=by
 by_cases h1:n=0
 · have hd:rowMay L=false:=(rowMay_not L).2 fun e=>by have:=e.pos;have:=h.len;omega
   rw [hd]
   clear h hd
   subst h1
   go_enter Tryz.func67,Tryz.ntmps67
   go_wp2_with fail
   go_ret
   exact ⟨rfl,Below.refl _ _⟩
 by_cases h2:80<n
 · have hd:rowMay L=false:=(rowMay_not L).2 fun e=>by have:=e.le;have:=h.len;omega
   rw [hd]
   clear h hd
   have hn0:((n:Int) == 0)=false:=by simp;omega
   go_enter Tryz.func67,Tryz.ntmps67
   go_wp2_with fail
   go_ret
   exact ⟨rfl,Below.refl _ _⟩
 have hn80:n≤80:=by omega
 have hn0:((n:Int) == 0)=false:=by simp;omega
 have H:=Lib.hid h
 clear h
 go_enter Tryz.func67,Tryz.ntmps67
 go_wp2_with fail
 clear hn0
 go_loopw [3] (fun i wr=>∃ k:Nat,k≤n∧i=.int .i64 k∧(∀ j,j<k→OkR L j)∧Below w.heap.size w wr) (fun i _=>n-(intOf i).toNat)
 case atStart=>exact ⟨0,Nat.zero_le _,rfl,fun j hj=>absurd hj (by omega),Below.refl _ _⟩
 case round =>
  obtain ⟨k,hk,rfl,hok,hbw⟩:=hrel
  have HJ:=Lib.hid hok
  have X:=Lib.hid (show Below w.heap.size w wr∧Vs ceV wr A n L from ⟨hbw,H.out.below hbw⟩)
  clear hok hbw
  by_cases hlt:k<n
  · have hkl:(k:Int)<(n:Int):=by omega
    obtain ⟨ad,rfl⟩:=H.out.addr (by omega)
    have HKL:=Lib.hid (show k<L.length from by rw [H.out.len];exact hlt)
    obtain ⟨x,hx⟩:∃ x,x=cAt L k:=⟨_,rfl⟩
    have hsx:=X.out.2.six hlt
    rw [← hx] at hsx
    obtain ⟨a0,a1,a2,a3,a4,a5⟩:=hsx
    have HX:=Lib.hid hx
    clear hx
    go_wp2_with fail
    refine (refCeMay_any x _).mono ?_
    rintro e w2 ⟨rfl,hb⟩
    have Y:=Lib.hid (show Below w.heap.size w w2∧Vs ceV w2 (some ad) n L from ⟨X.out.1.trans (hb.mono X.out.1.size),X.out.2.below hb⟩)
    have hsx:=Y.out.2.six hlt
    rw [← HX.out] at hsx
    clear a0 a1 a2 a3 a4 a5 hb X
    obtain ⟨M,hM⟩:∃ M,cellMay x=M:=⟨_,rfl⟩
    rw [hM]
    have HM:=Lib.hid hM
    clear hM
    cases M
    · have HD:=Lib.hid (okR_not HKL.out (fun e=>by have:=e.1;rw [← HX.out,HM.out] at this;cases this))
      clear hsx
      go_wp2_with fail
      go_ret
      exact ⟨retF HD.out,Y.out.1⟩
    · obtain ⟨d0,d1,d2,d3,d4,d5⟩:=hsx
      clear d0
      by_cases hw1:x.wd=1
      · rw [hw1] at d1
        have HW:=Lib.hid hw1
        clear hw1
        by_cases hlast:k+1=n
        · have hl1:((k:Int) == (n:Int)-1)=true:=by simp;omega
          have HD:=Lib.hid (okR_not HKL.out (fun e=>by have:=(e.2.1 (by rw [← HX.out];exact HW.out)).1;have:=H.out.len;omega))
          clear hlast d2 d3 d4 d5
          go_wp2_with fail
          go_quiet (fail)
          go_wp2_with fail
          go_ret
          exact ⟨retF HD.out,belowN Y.out.1 _⟩
        · have hl1:((k:Int) == (n:Int)-1)=false:=by simp;omega
          have hl3:k+1<n:=by omega
          have hl4:(0:Int)≤(k:Int)+1:=by omega
          have hl2:(k:Int)+1<(n:Int):=by omega
          have hl5:((k:Int)+1).toNat=k+1:=by omega
          obtain ⟨y,hy⟩:∃ y,y=cAt L (k+1):=⟨_,rfl⟩
          have hsy:=Y.out.2.six hl3
          rw [← hy] at hsy
          obtain ⟨b0,b1,b2,b3,b4,b5⟩:=hsy
          have HY:=Lib.hid hy
          clear hy hlast b0 hl3
          by_cases hy2:y.wd=2
          · rw [hy2] at b1
            have HY2:=Lib.hid hy2
            clear hy2
            have hne:=fun w=>pn_neq y.p x.p w
            unfold pnA at hne
            have hgd:=guardPn
            obtain ⟨B,hB⟩:∃ B,decide (y.p=x.p)=B:=⟨_,rfl⟩
            rw [hB] at hne
            have HB:=Lib.hid hB
            clear hB
            cases B
            · have HD:=Lib.hid (okR_not HKL.out (fun e=>of_decide_eq_false HB.out (by rw [HX.out,HY.out];exact (e.2.1 (by rw [← HX.out];exact HW.out)).2.2)))
              go_wp2_with fail
              go_quiet (fail)
              go_wp2_with fail
              go_ret
              exact ⟨retF HD.out,belowN Y.out.1 _⟩
            · have HOK:=Lib.hid (show OkR L k from ⟨by rw [← HX.out];exact HM.out,fun _=>⟨by rw [H.out.len];omega,by rw [← HY.out];exact HY2.out,by rw [← HY.out,← HX.out];exact of_decide_eq_true HB.out⟩,fun e=>by rw [← HX.out,HW.out] at e;cases e⟩)
              go_wp2_with fail
              go_quiet (fail)
              clear b1 b2 b3 b4 b5 d2 d3 d4 d5 hne hgd
              go_wp2_with fail
              go_roundw
              case rel=>exact ⟨k+1,by omega,by go_num,okR_succ HJ.out HOK.out,belowN Y.out.1 _⟩
              case measure=>simp [intOf];omega
          · have hy3:(y.wd != 2)=true:=by simpa using hy2
            have HD:=Lib.hid (okR_not HKL.out (fun e=>hy2 (by rw [HY.out];exact (e.2.1 (by rw [← HX.out];exact HW.out)).2.1)))
            clear hy2 b2 b3 b4 b5 d2 d3 d4 d5
            go_wp2_with fail
            go_quiet (fail)
            go_wp2_with fail
            go_ret
            exact ⟨retF HD.out,belowN Y.out.1 _⟩
      · have t1:(x.wd == 1)=false:=by simpa using hw1
        clear d2 d3 d4 d5
        by_cases hw2:x.wd=2
        · rw [hw2] at d1 t1
          by_cases h0:k=0
          · have HD:=Lib.hid (okR_not HKL.out (fun e=>by have:=(e.2.2 (by rw [← HX.out];exact hw2)).1;omega))
            have hk0:((k:Int) == 0)=true:=by simp;omega
            clear h0
            go_wp2_with fail
            go_quiet (fail)
            go_wp2_with fail
            go_ret
            exact ⟨retF HD.out,belowN Y.out.1 _⟩
          · have hk0:((k:Int) == 0)=false:=by simp;omega
            have hk1:0≤(k:Int)-1:=by omega
            have hk2:((k:Int)-1).toNat=k-1:=by omega
            obtain ⟨y,hy⟩:∃ y,y=cAt L (k-1):=⟨_,rfl⟩
            have hsy:=Y.out.2.six (k:=k-1) (by omega)
            rw [← hy] at hsy
            obtain ⟨b0,b1,b2,b3,b4,b5⟩:=hsy
            have HY:=Lib.hid hy
            clear hy b0 b2 b3 b4 b5
            by_cases hy1:y.wd=1
            · rw [hy1] at b1
              have HOK:=Lib.hid (show OkR L k from ⟨by rw [← HX.out];exact HM.out,fun e=>absurd (by rw [HX.out];exact e) hw1,fun _=>⟨by omega,by rw [← HY.out];exact hy1⟩⟩)
              clear hy1 hw1 hw2
              go_wp2_with fail
              go_quiet (fail)
              go_wp2_with fail
              go_roundw
              case rel=>exact ⟨k+1,by omega,by go_num,okR_succ HJ.out HOK.out,belowN Y.out.1 _⟩
              case measure=>simp [intOf];omega
            · have hy2:(y.wd != 1)=true:=by simpa using hy1
              have HD:=Lib.hid (okR_not HKL.out (fun e=>hy1 (by rw [HY.out];exact (e.2.2 (by rw [← HX.out];exact hw2)).2)))
              go_wp2_with fail
              go_quiet (fail)
              go_wp2_with fail
              go_ret
              exact ⟨retF HD.out,belowN Y.out.1 _⟩
        · have t2:(x.wd == 2)=false:=by simpa using hw2
          have HOK:=Lib.hid (show OkR L k from ⟨by rw [← HX.out];exact HM.out,fun e=>absurd (by rw [HX.out];exact e) hw1,fun e=>absurd (by rw [HX.out];exact e) hw2⟩)
          go_wp2_with fail
          go_quiet (fail)
          go_wp2_with fail
          go_roundw
          case rel=>exact ⟨k+1,by omega,by go_num,okR_succ HJ.out HOK.out,belowN Y.out.1 _⟩
          case measure=>simp [intOf];omega
  · obtain rfl:k=n:=by omega
    have HD:=Lib.hid ((rowMay_iff L).2 ⟨by have:=H.out.len;omega,by have:=H.out.len;omega,okR_all fun i hi=>HJ.out i (by have:=H.out.len;omega)⟩)
    go_wp2_with fail
    go_ret
    exact ⟨retT HD.out,X.out.1⟩
theorem blank_may {p:Pn} (h:penMayS p=true):cellMay (blankS p)=true:=by
 have h2:colMay p.bg=true:=by unfold penMayS at h;simp at h;exact h.2
 have w32:widthS 32=1:=by decide +kernel
 have c0:colMay 0=true:=by decide
 unfold cellMay penMayS blankS
 simp [h2,w32,c0]
abbrev Rws:=List (List Ce)
def lAt (LL:Rws) (y:Nat):List Ce:=LL.getD y []
def rowAt (c:Nat) (L:List Ce) (y:Nat):List Ce:=(L.drop (y*c)).take c
def rowsS (c r:Nat) (L:List Ce):Rws:=(List.range r).map (rowAt c L)
structure Box (c r:Nat) (LL:Rws):Prop where
 len:LL.length=r
 row:∀ y,y<r→(lAt LL y).length=c
structure Gk (c r:Nat) (LL:Rws):Prop where
 box:Box c r LL
 c1:1≤c
 c80:c≤80
 r1:1≤r
 r24:r≤24
 ok:∀ y,y<r→RowOk (lAt LL y)
theorem lAt_lt {LL:Rws} {y:Nat} (h:y<LL.length):lAt LL y=LL[y]:=by simp [lAt,List.getD,List.getElem?_eq_getElem h]
theorem getElem?_lAt {LL:Rws} {k:Nat} (h:k<LL.length):LL[k]?=some (lAt LL k):=by rw [lAt_lt h,List.getElem?_eq_getElem h]
theorem lAt_map (f:Nat→List Ce) (r y:Nat):lAt ((List.range r).map f) y=if y<r then f y else []:=by
 unfold lAt
 simp only [List.getD,List.getElem?_map]
 by_cases h:y<r
 · simp [h]
 · rw [List.getElem?_eq_none (by rw [List.length_range];omega),if_neg h];rfl
theorem lAt_append (L M:Rws) (i:Nat):lAt (L ++ M) i=if i<L.length then lAt L i else lAt M (i-L.length):=by
 unfold lAt
 simp only [List.getD]
 by_cases h:i<L.length
 · rw [List.getElem?_append_left h,if_pos h]
 · rw [List.getElem?_append_right (by omega),if_neg h]
theorem rws_ext {L M:Rws} (hl:L.length=M.length) (h:∀ i,i<L.length→lAt L i=lAt M i):L=M:=by
 apply List.ext_getElem hl
 intro i h1 h2
 rw [← lAt_lt h1,← lAt_lt h2,h i h1]
theorem Box.mem {c r:Nat} {LL:Rws} (h:Box c r LL):∀ x∈LL,x.length=c:=fun x hx=>by
 obtain ⟨i,hi,rfl⟩:=List.getElem_of_mem hx
 rw [← lAt_lt hi]
 exact h.row i (by rw [← h.len];exact hi)
theorem Box.of_map {c r:Nat} {f:Nat→List Ce} (h:∀ y,y<r→(f y).length=c):Box c r ((List.range r).map f) :=
 ⟨by simp,fun y hy=>by rw [lAt_map,if_pos hy];exact h y hy⟩
theorem flat_len {c:Nat}:∀ (LL:Rws) (_:∀ x∈LL,x.length=c),LL.flatten.length=LL.length*c
 | [],_=>by simp
 | a :: LL,h=>by
  rw [List.flatten_cons,List.length_append,flat_len LL (fun x hx=>h x (List.mem_cons_of_mem _ hx)),h a (List.mem_cons_self ..),List.length_cons,Nat.succ_mul]
  omega
theorem flat_drop {c:Nat}:∀ (LL:Rws) (_:∀ x∈LL,x.length=c) (y:Nat),LL.flatten.drop (y*c)=(LL.drop y).flatten
 | [],_,y=>by simp
 | a :: LL,h,0=>by simp
 | a :: LL,h,y+1=>by
  rw [List.flatten_cons,List.drop_append,h a (List.mem_cons_self ..),List.drop_eq_nil_of_le (by rw [h a (List.mem_cons_self ..),Nat.succ_mul];omega),show (y+1)*c-c=y*c by rw [Nat.succ_mul];omega,
   flat_drop LL (fun x hx=>h x (List.mem_cons_of_mem _ hx)) y]
  simp
theorem Box.flen {c r:Nat} {LL:Rws} (h:Box c r LL):LL.flatten.length=r*c:=by rw [flat_len LL h.mem,h.len]
theorem rowAt_flat {c r:Nat} {LL:Rws} (h:Box c r LL) {y:Nat} (hy:y<r):rowAt c LL.flatten y=lAt LL y:=by
 have hl:y<LL.length:=by rw [h.len];exact hy
 have hc:LL[y].length=c:=by rw [← lAt_lt hl];exact h.row y hy
 unfold rowAt
 rw [flat_drop LL h.mem,List.drop_eq_getElem_cons hl,List.flatten_cons,List.take_append_of_le_length (by omega),List.take_of_length_le (by omega),lAt_lt hl]
theorem flat_rows {c:Nat} {L:List Ce}:∀ r:Nat,r*c≤L.length→(rowsS c r L).flatten=L.take (r*c)
 | 0,_=>by simp [rowsS]
 | r+1,h=>by
  rw [Nat.succ_mul] at h
  have h1:=flat_rows (c:=c) (L:=L) r (by omega)
  unfold rowsS at h1 ⊢
  rw [List.range_succ,List.map_append,List.flatten_append,h1,Nat.succ_mul,List.take_add]
  simp [rowAt]
theorem rows_flat {c r:Nat} {L:List Ce} (h:L.length=r*c):(rowsS c r L).flatten=L:=by
 rw [flat_rows r (by omega),List.take_of_length_le (by omega)]
theorem row_fits {c r y:Nat} (h:y<r):y*c+c≤r*c:=by
 have:=Nat.mul_le_mul_right c (show y+1≤r from h)
 rw [Nat.succ_mul] at this
 exact this
theorem rows_box {c r:Nat} {L:List Ce} (h:L.length=r*c):Box c r (rowsS c r L):=Box.of_map fun y hy=>by
 have:=row_fits (c:=c) hy
 unfold rowAt
 rw [List.length_take,List.length_drop]
 omega
theorem rowsS_at {c r:Nat} (L:List Ce) {y:Nat} (hy:y<r):lAt (rowsS c r L) y=rowAt c L y:=by unfold rowsS;rw [lAt_map,if_pos hy]
theorem rows_of_flat {c r:Nat} {LL:Rws} (h:Box c r LL):rowsS c r LL.flatten=LL:=by
 refine rws_ext (by unfold rowsS;rw [List.length_map,List.length_range,h.len]) fun y hy=>?_
 have h1:y<r:=by unfold rowsS at hy;simpa using hy
 rw [rowsS_at _ h1,rowAt_flat h h1]
def sizeOk (c r:Int):Bool:=decide (1≤c∧c≤80∧1≤r∧r≤24)
def GridOk (c r:Int) (L:List Ce):Prop:=sizeOk c r=true∧L.length=r.toNat*c.toNat∧Gk c.toNat r.toNat (rowsS c.toNat r.toNat L)
noncomputable def gridMay (c r:Int) (L:List Ce):Bool:=@decide (GridOk c r L) (Classical.propDecidable _)
theorem gridMay_iff (c r:Int) (L:List Ce):gridMay c r L=true↔GridOk c r L:=by unfold gridMay;exact @decide_eq_true_iff _ (Classical.propDecidable _)
theorem gridMay_not (c r:Int) (L:List Ce):gridMay c r L=false↔¬ GridOk c r L:=by rw [← gridMay_iff];simp
theorem GridOk.parts {c r:Int} {L:List Ce} (h:GridOk c r L):∃ (c' r':Nat) (LL:Rws),c=(c':Int)∧r=(r':Int)∧L=LL.flatten∧rowsS c.toNat r.toNat L=LL∧Gk c' r' LL:=by
 obtain ⟨h1,h2,h3⟩:=h
 unfold sizeOk at h1
 have h4:=of_decide_eq_true h1
 exact ⟨c.toNat,r.toNat,_,by omega,by omega,(rows_flat h2).symm,rfl,h3⟩
theorem Gk.may {c r:Nat} {LL:Rws} (h:Gk c r LL):gridMay (c:Int) (r:Int) LL.flatten=true:=(gridMay_iff _ _ _).2 ⟨by
  unfold sizeOk
  have:=h.c1;have:=h.c80;have:=h.r1;have:=h.r24
  exact decide_eq_true (by omega),h.box.flen,by rw [Int.toNat_natCast,Int.toNat_natCast,rows_of_flat h.box];exact h⟩
theorem Gk.small {c r:Nat} {LL:Rws} (h:Gk c r LL):r*c≤1920:=by
 have:=Nat.mul_le_mul h.r24 h.c80
 omega
def blanksS (c:Nat) (p:Pn):List Ce:=List.replicate c (blankS p)
abbrev GA:=Option (Nat × Nat × Rws)
theorem blanks_len (c:Nat) (p:Pn):(blanksS c p).length=c:=by simp [blanksS]
theorem blanks_ok {c:Nat} {p:Pn} (h1:1≤c) (h2:c≤80) (hp:penMayS p=true):RowOk (blanksS c p):=by
 refine ⟨by rw [blanks_len];exact h1,by rw [blanks_len];exact h2,fun i hi=>?_⟩
 rw [blanks_len] at hi
 have e:cAt (blanksS c p) i=blankS p:=by unfold blanksS;rw [cAt_replicate,if_pos hi]
 exact ⟨by rw [e];exact blank_may hp,fun h=>by rw [e] at h;exact absurd h (by simp [blankS]),fun h=>by rw [e] at h;exact absurd h (by simp [blankS])⟩
theorem pn0_may:penMayS pn0=true:=by decide
end Go.Proofs.YtikhknnhmnopbaaGreatDoor
