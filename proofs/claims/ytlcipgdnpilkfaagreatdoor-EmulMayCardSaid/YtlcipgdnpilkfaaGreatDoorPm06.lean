/-
  Part 6 of what the laws of emul want: CellRowMay.
-/
import Derived.Deep.RegionHeld3
import Derived.Test.YtlcipgdnpilkfaaGreatDoorPm05
namespace Go.Proofs.YtlcipgdnpilkfaaGreatDoor
open Go.RowKit
theorem six_new (w:World) (c:Ce) (t:TypeId):Six (w.alloc (.cells (ceA c) t)) ⟨w.heap.size,0,none⟩ c :=
 ⟨cell_of_row _ _ 0 _ _ _ (heap_alloc_new w _),cell_of_row _ _ 1 _ _ _ (heap_alloc_new w _),cell_of_row _ _ 2 _ _ _ (heap_alloc_new w _),cell_of_row _ _ 3 _ _ _ (heap_alloc_new w _),cell_of_row _ _ 4 _ _ _ (heap_alloc_new w _),cell_of_row _ _ 5 _ _ _ (heap_alloc_new w _)⟩
theorem Six.below {w w':World} {ad:Addr} {c:Ce} (h:Six w ad c) {B:Nat} (hb:Below B w w') (hB:ad.block<B):Six w' ad c :=
 ⟨(hb.cell hB).trans h.c0,(hb.cell (by exact hB)).trans h.c1,(hb.cell (by exact hB)).trans h.c2,(hb.cell (by exact hB)).trans h.c3,(hb.cell (by exact hB)).trans h.c4,(hb.cell (by exact hB)).trans h.c5⟩
theorem Six.blk {w:World} {b:Nat} {c:Ce} (h:Six w ⟨b,0,none⟩ c):w.cell? ⟨b,0,none⟩=some (.int .i32 c.r)∧w.cell? ⟨b,1,none⟩=some (.int .u8 c.wd)∧w.cell? ⟨b,2,none⟩=some (.int .u32 c.p.fg) ∧
  w.cell? ⟨b,3,none⟩=some (.int .u32 c.p.bg)∧w.cell? ⟨b,4,none⟩=some (.int .u8 c.p.st)∧w.cell? ⟨b,5,none⟩=some (.int .u16 c.p.lk):=⟨h.c0,h.c1,h.c2,h.c3,h.c4,h.c5⟩
theorem belowN {B:Nat} {a w:World} (h:Below B a w) (n:Nat):Below B a (w.drewN n):=⟨h.os,h.tape,h.output,h.size,h.block⟩
theorem okAt_not {L:List Ce} {k:Nat} (hk:k<L.length) (h:¬ OkAt L k):rowMay L=false:=(rowMay_not L).2 fun e=>h (e.at_ k hk)
theorem below_sz {B:Nat} {a b:World} (h:Below B a b):a.heap.size≤b.heap.size:=h.size
theorem okAt_succ {L:List Ce} {k:Nat} (h:∀ j,j<k→OkAt L j) (h2:OkAt L k):∀ j,j<k+1→OkAt L j:=fun j hj=>by
 by_cases e:j=k
 · rw [e];exact h2
 · exact h j (by omega)
theorem retF {a:Bool} (h:a=false):Ending.returned (.bool false)=.returned (.bool a):=by rw [h]
theorem retT {a:Bool} (h:a=true):Ending.returned (.bool true)=.returned (.bool a):=by rw [h]
set_option maxHeartbeats 3200000 in
set_option maxRecDepth 100000 in
theorem rowMay_any {w:World} {A:Option Addr} {n c:Nat} {L:List Ce} (h:Vs ceV w A n L) (hT:Tabs w) (hn:n≤1000000) :
  Calls Tryz.prog 134 #[.slice A n c] w fun e w'=>e=.returned (.bool (rowMay L))∧Below w.heap.size w w':=by
 by_cases h1:n<1
 · have hd:rowMay L=false:=(rowMay_not L).2 fun e=>by have:=e.pos;have:=h.len;omega
   rw [hd]
   clear h hT hd
   go_enter Tryz.func134,Tryz.ntmps134
   go_wp2_with fail
   go_ret
   exact ⟨rfl,Below.refl _ _⟩
 by_cases h2:80<n
 · have hd:rowMay L=false:=(rowMay_not L).2 fun e=>by have:=e.le;have:=h.len;omega
   rw [hd]
   clear h hT hd
   go_enter Tryz.func134,Tryz.ntmps134
   go_wp2_with fail
   go_ret
   exact ⟨rfl,Below.refl _ _⟩
 have hn80:n≤80:=by omega
 have H:=Lib.hid (And.intro h hT)
 clear h hT
 go_enter Tryz.func134,Tryz.ntmps134
 go_wp2_with fail
 go_loopw [15] (fun i wr=>∃ k:Nat,k≤n∧i=.int .i64 k∧(∀ j,j<k→OkAt L j)∧Below w.heap.size w wr) (fun i _=>n-(intOf i).toNat)
 case atStart=>exact ⟨0,Nat.zero_le _,rfl,fun j hj=>absurd hj (by omega),Below.refl _ _⟩
 case round =>
  obtain ⟨k,hk,rfl,hok,hbw⟩:=hrel
  have HJ:=Lib.hid hok
  have X:=Lib.hid (show (∀ j,j<k→OkAt L j)∧Below w.heap.size w wr∧Vs ceV wr A n L from ⟨hok,hbw,H.out.1.below hbw⟩)
  clear hok hbw
  by_cases hlt:k<n
  · have hkl:(k:Int)<(n:Int):=by omega
    obtain ⟨ad,rfl⟩:=H.out.1.addr (by omega)
    have hadl:=X.out.2.2.lt (by omega)
    have HKL:=Lib.hid (show k<L.length from by rw [H.out.1.len];exact hlt)
    obtain ⟨x,hx⟩:∃ x,x=cAt L k:=⟨_,rfl⟩
    have hsx:=X.out.2.2.six hlt
    rw [← hx] at hsx
    obtain ⟨a0,a1,a2,a3,a4,a5⟩:=hsx
    have HX:=Lib.hid hx
    clear hx
    go_wp2_with fail
    refine (ceMay_any x (H.out.2.below (X.out.2.1.alloc X.out.2.1.size _) (Nat.le_refl _))).mono ?_
    rintro e w2 ⟨rfl,hb⟩
    have hs2:=(six_new wr x 66).below hb (by simp)
    have hv2:=(X.out.2.2.alloc (.cells (ceA x) 66)).below hb
    obtain ⟨bx,hbx⟩:∃ bx,bx=wr.heap.size:=⟨_,rfl⟩
    have hbel:=(X.out.2.1.alloc X.out.2.1.size (.cells (ceA x) 66)).trans (hb.mono (by simp;have:=X.out.2.1.size;omega))
    have hblt:bx<w2.heap.size:=by have:=hb.size;simp at this;omega
    rw [← hbx] at hs2 ⊢
    have Y:=Lib.hid (show Below w.heap.size w w2∧Vs ceV w2 (some ad) n L∧Six w2 ⟨bx,0,none⟩ x∧bx<w2.heap.size from ⟨hbel,hv2,hs2,hblt⟩)
    obtain ⟨d0,d1,d2,d3,d4,d5⟩:=hs2.blk
    clear a0 a1 a2 a3 a4 a5 hb hadl hv2 hbel hblt hbx hs2 X
    have hadl:=Y.out.2.1.lt (by omega)
    obtain ⟨M,hM⟩:∃ M,cellMay x=M:=⟨_,rfl⟩
    rw [hM]
    have HM:=Lib.hid hM
    clear hM
    cases M
    · have HD:=Lib.hid (okAt_not HKL.out (fun e=>by have:=e.1;rw [← HX.out,HM.out] at this;cases this))
      clear d0 d1 d2 d3 d4 d5 hadl
      go_wp2_with fail
      go_ret
      exact ⟨retF HD.out,Y.out.1⟩
    · by_cases hw1:x.wd=1
      · rw [hw1] at d1
        by_cases hlast:k+1=n
        · have hl1:((k:Int)+1 == (n:Int))=true:=by simp;omega
          have HD:=Lib.hid (okAt_not HKL.out (fun e=>by have:=(e.2.1 (by rw [← HX.out];exact hw1)).1;have:=H.out.1.len;omega))
          clear hw1 hlast d0 d2 d3 d4 d5 hadl
          go_wp2_with fail
          go_quiet (fail)
          go_wp2_with fail
          go_ret
          exact ⟨retF HD.out,belowN Y.out.1 _⟩
        · have hl1:((k:Int)+1 == (n:Int))=false:=by simp;omega
          have hl2:(k:Int)+1<(n:Int):=by omega
          have hl3:k+1<n:=by omega
          obtain ⟨y,hy⟩:∃ y,y=cAt L (k+1):=⟨_,rfl⟩
          have HY:=Lib.hid hy
          clear hy hlast
          have SX:=Lib.hid (show ∀ w',Below w2.heap.size w2 w'→(Below w2.heap.size w2 w'∧(w'.cell? ⟨bx,0,none⟩=some (.int .i32 x.r)∧w'.cell? ⟨bx,1,none⟩=some (.int .u8 1)∧w'.cell? ⟨bx,2,none⟩=some (.int .u32 x.p.fg)∧w'.cell? ⟨bx,3,none⟩=some (.int .u32 x.p.bg)∧w'.cell? ⟨bx,4,none⟩=some (.int .u8 x.p.st)∧w'.cell? ⟨bx,5,none⟩=some (.int .u16 x.p.lk)) ∧
            (w'.cell? (ad.add ((k+1)*6))=some (.int .i32 y.r)∧w'.cell? ⟨(ad.add ((k+1)*6)).block,(ad.add ((k+1)*6)).off+1,none⟩=some (.int .u8 y.wd)∧w'.cell? ⟨(ad.add ((k+1)*6)).block,(ad.add ((k+1)*6)).off+2,none⟩=some (.int .u32 y.p.fg) ∧
             w'.cell? ⟨(ad.add ((k+1)*6)).block,(ad.add ((k+1)*6)).off+3,none⟩=some (.int .u32 y.p.bg)∧w'.cell? ⟨(ad.add ((k+1)*6)).block,(ad.add ((k+1)*6)).off+4,none⟩=some (.int .u8 y.p.st)∧w'.cell? ⟨(ad.add ((k+1)*6)).block,(ad.add ((k+1)*6)).off+5,none⟩=some (.int .u16 y.p.lk))) from fun w' hb=>by
           have e1:=Y.out.2.2.1.below hb Y.out.2.2.2
           have e2:=(Y.out.2.1.below hb).six hl3
           rw [← HY.out] at e2
           exact ⟨hb,⟨e1.c0,by rw [← hw1];exact e1.c1,e1.c2,e1.c3,e1.c4,e1.c5⟩,e2.c0,e2.c1,e2.c2,e2.c3,e2.c4,e2.c5⟩)
          have hl4:(0:Int)≤(k:Int)+1:=by omega
          have hwr:IntKind.i64.wrap ((k:Int)+1)=(k:Int)+1:=by rw [IntKind.wrap_i64];omega
          have hl5:((k:Int)+1).toNat=k+1:=by omega
          have hgd:=guardCe
          obtain ⟨RV,hRV⟩:∃ RV,RV=ceA (rightS ⟨x.r,1,x.p⟩):=⟨_,rfl⟩
          have hcall:=fun w=>rightOf_any ⟨x.r,1,x.p⟩ w
          have hne:=fun w=>ce_neq y (rightS ⟨x.r,1,x.p⟩) w
          rw [← hRV] at hcall hne
          unfold ceA at hcall hne
          have HC:=Lib.hid hcall
          obtain ⟨B,hB⟩:∃ B,decide (y=rightS ⟨x.r,1,x.p⟩)=B:=⟨_,rfl⟩
          rw [hB] at hne
          have HB:=Lib.hid hB
          clear hB hRV hcall
          have hb0:Below w2.heap.size w2 w2:=Below.refl _ _
          have HW:=Lib.hid hw1
          clear hw1 d0 d1 d2 d3 d4 d5 hadl hl3
          cases B
          · have HD:=Lib.hid (okAt_not HKL.out (fun e=>(of_decide_eq_false HB.out) (by rw [HY.out];exact (e.2.1 (by rw [← HX.out];exact HW.out)).2.trans (by rw [← HX.out];rfl))))
            go_wp2_with fail
            go_region_held3 (fun w'=>Below w2.heap.size w2 w'∧(w'.cell? ⟨bx,0,none⟩=some (.int .i32 x.r)∧w'.cell? ⟨bx,1,none⟩=some (.int .u8 1)∧w'.cell? ⟨bx,2,none⟩=some (.int .u32 x.p.fg)∧w'.cell? ⟨bx,3,none⟩=some (.int .u32 x.p.bg)∧w'.cell? ⟨bx,4,none⟩=some (.int .u8 x.p.st)∧w'.cell? ⟨bx,5,none⟩=some (.int .u16 x.p.lk)) ∧
             (w'.cell? (ad.add ((k+1)*6))=some (.int .i32 y.r)∧w'.cell? ⟨(ad.add ((k+1)*6)).block,(ad.add ((k+1)*6)).off+1,none⟩=some (.int .u8 y.wd)∧w'.cell? ⟨(ad.add ((k+1)*6)).block,(ad.add ((k+1)*6)).off+2,none⟩=some (.int .u32 y.p.fg) ∧
              w'.cell? ⟨(ad.add ((k+1)*6)).block,(ad.add ((k+1)*6)).off+3,none⟩=some (.int .u32 y.p.bg)∧w'.cell? ⟨(ad.add ((k+1)*6)).block,(ad.add ((k+1)*6)).off+4,none⟩=some (.int .u8 y.p.st)∧w'.cell? ⟨(ad.add ((k+1)*6)).block,(ad.add ((k+1)*6)).off+5,none⟩=some (.int .u16 y.p.lk)))
             ((refine SX.out _ ?_;(try go_split_ands);first | assumption | exact belowN (by assumption) 1))
             ((first | (go_at_call 204;refine (HC.out _).mono ?_;rintro e w4 ⟨rfl,hb4⟩;(try go_split_ands);have hb5:=Below.trans (B:=w2.heap.size) (by assumption) (hb4.mono (below_sz (a:=w2) (B:=w2.heap.size) (by assumption))))))
            go_wp2_with fail
            go_ret
            exact ⟨retF HD.out,Y.out.1.trans (hb5.mono Y.out.1.size)⟩
          · have HOK:=Lib.hid (show OkAt L k from ⟨by rw [← HX.out];exact HM.out,fun _=>⟨by rw [H.out.1.len];omega,by rw [← HY.out,of_decide_eq_true HB.out,← HX.out];rfl⟩,fun e=>by rw [← HX.out,HW.out] at e;cases e⟩)
            go_wp2_with fail
            go_region_held3 (fun w'=>Below w2.heap.size w2 w'∧(w'.cell? ⟨bx,0,none⟩=some (.int .i32 x.r)∧w'.cell? ⟨bx,1,none⟩=some (.int .u8 1)∧w'.cell? ⟨bx,2,none⟩=some (.int .u32 x.p.fg)∧w'.cell? ⟨bx,3,none⟩=some (.int .u32 x.p.bg)∧w'.cell? ⟨bx,4,none⟩=some (.int .u8 x.p.st)∧w'.cell? ⟨bx,5,none⟩=some (.int .u16 x.p.lk)) ∧
             (w'.cell? (ad.add ((k+1)*6))=some (.int .i32 y.r)∧w'.cell? ⟨(ad.add ((k+1)*6)).block,(ad.add ((k+1)*6)).off+1,none⟩=some (.int .u8 y.wd)∧w'.cell? ⟨(ad.add ((k+1)*6)).block,(ad.add ((k+1)*6)).off+2,none⟩=some (.int .u32 y.p.fg) ∧
              w'.cell? ⟨(ad.add ((k+1)*6)).block,(ad.add ((k+1)*6)).off+3,none⟩=some (.int .u32 y.p.bg)∧w'.cell? ⟨(ad.add ((k+1)*6)).block,(ad.add ((k+1)*6)).off+4,none⟩=some (.int .u8 y.p.st)∧w'.cell? ⟨(ad.add ((k+1)*6)).block,(ad.add ((k+1)*6)).off+5,none⟩=some (.int .u16 y.p.lk)))
             ((refine SX.out _ ?_;(try go_split_ands);first | assumption | exact belowN (by assumption) 1))
             ((first | (go_at_call 204;refine (HC.out _).mono ?_;rintro e w4 ⟨rfl,hb4⟩;(try go_split_ands);have hb5:=Below.trans (B:=w2.heap.size) (by assumption) (hb4.mono (below_sz (a:=w2) (B:=w2.heap.size) (by assumption))))))
            go_wp2_with fail
            go_roundw
            case rel=>exact ⟨k+1,by omega,by go_num,okAt_succ HJ.out HOK.out,Y.out.1.trans (hb5.mono Y.out.1.size)⟩
            case measure=>simp [intOf];omega
      · have t1:(x.wd == 1)=false:=by simpa using hw1
        clear d0 d2 d3 d4 d5
        by_cases hw2:x.wd=2
        · rw [hw2] at d1 t1
          by_cases h0:k=0
          · have HD:=Lib.hid (okAt_not HKL.out (fun e=>by have:=(e.2.2 (by rw [← HX.out];exact hw2)).1;omega))
            subst h0
            go_wp2_with fail
            go_quiet (fail)
            go_wp2_with fail
            go_ret
            exact ⟨retF HD.out,belowN Y.out.1 _⟩
          · have hk0:((k:Int) == 0)=false:=by simp;omega
            have hk1:0≤(k:Int)-1:=by omega
            have hk2:((k:Int)-1).toNat=k-1:=by omega
            obtain ⟨y,hy⟩:∃ y,y=cAt L (k-1):=⟨_,rfl⟩
            have hsy:=Y.out.2.1.six (k:=k-1) (by omega)
            rw [← hy] at hsy
            obtain ⟨b0,b1,b2,b3,b4,b5⟩:=hsy
            have HY:=Lib.hid hy
            clear hy b0 b2 b3 b4 b5
            by_cases hy1:y.wd=1
            · rw [hy1] at b1
              have HOK:=Lib.hid (show OkAt L k from ⟨by rw [← HX.out];exact HM.out,fun e=>absurd (by rw [HX.out];exact e) hw1,fun _=>⟨by omega,by rw [← HY.out];exact hy1⟩⟩)
              clear hy1 hw1 hw2
              go_wp2_with fail
              go_quiet (fail)
              go_wp2_with fail
              go_roundw
              case rel=>exact ⟨k+1,by omega,by go_num,okAt_succ HJ.out HOK.out,belowN Y.out.1 _⟩
              case measure=>simp [intOf];omega
            · have hy2:(y.wd != 1)=true:=by simpa using hy1
              have HD:=Lib.hid (okAt_not HKL.out (fun e=>hy1 (by rw [HY.out];exact (e.2.2 (by rw [← HX.out];exact hw2)).2)))
              go_wp2_with fail
              go_quiet (fail)
              go_wp2_with fail
              go_ret
              exact ⟨retF HD.out,belowN Y.out.1 _⟩
        · have t2:(x.wd == 2)=false:=by simpa using hw2
          have HOK:=Lib.hid (show OkAt L k from ⟨by rw [← HX.out];exact HM.out,fun e=>absurd (by rw [HX.out];exact e) hw1,fun e=>absurd (by rw [HX.out];exact e) hw2⟩)
          go_wp2_with fail
          go_quiet (fail)
          go_wp2_with fail
          go_roundw
          case rel=>exact ⟨k+1,by omega,by go_num,okAt_succ HJ.out HOK.out,belowN Y.out.1 _⟩
          case measure=>simp [intOf];omega
  · obtain rfl:k=n:=by omega
    have HD:=Lib.hid ((rowMay_iff L).2 ⟨by have:=H.out.1.len;omega,by have:=H.out.1.len;omega,fun i hi=>X.out.1 i (by have:=H.out.1.len;omega)⟩)
    go_wp2_with fail
    go_ret
    exact ⟨retT HD.out,X.out.2.1⟩
end Go.Proofs.YtlcipgdnpilkfaaGreatDoor
