/-
  Part 7 of what the laws of emul want: CellInsert, CellDelete, CellRefIns, CellKeep.
-/
import Derived.StillTailTactics
import Derived.LoopTactic
import Derived.Deep.Fields
import Derived.Deep.Slices
import Derived.OpenShut
import Derived.Maps.RangeWalk
import Derived.Test.YtlcipgdnpilkfaaGreatDoorPo01
import Derived.Test.YtlcipgdnpilkfaaGreatDoorPo03
import Derived.Test.YtlcipgdnpilkfaaGreatDoorPo04
import Derived.Test.YtlcipgdnpilkfaaGreatDoorPo05
import Derived.Test.YtlcipgdnpilkfaaGreatDoorPo06
namespace Go.Proofs.YtlcipgdnpilkfaaGreatDoor
open Go.RowKit
theorem rw_vs {w:World} {g:Nat} {L:List Ce} (h:Rw ceV 66 w g L) {k:Nat} (hk:k≤L.length):Vs ceV w (some ⟨g,k*6,none⟩) (L.length-k) (L.drop k):=by
 have h1:=h.vs.cut ceV_len (c:=L.length+1) hk (by omega)
 rw [if_neg (by omega)] at h1
 simpa [addHead] using h1
theorem vs_none {w:World} {A:Option Addr} {L:List Ce} (h:L.length=0):Vs ceV w A L.length L:=⟨rfl,fun hn=>by omega⟩
theorem cut_pos {L:List Ce} {a q:Nat} (h:RowOk L) (h2:(cAt (cutS L a) q).wd=2) (hq:q<L.length):0<q:=by
 rw [cut1 h a hq] at h2
 split at h2
 · rw [blank_wd] at h2;cases h2
 · exact h.prev hq h2
set_option maxHeartbeats 1600000 in
set_option maxRecDepth 100000 in
theorem insert_at {w:World} {A:Option Addr} {n c:Nat} {L R:List Ce} (x y:Int) (p:Pn) (h:Vs ceV w A n L) (hT:Tabs w) (hn:n≤1000000) {ok:Bool} (hok:(rowMay L && penMayS p)=ok) (hres:insertS L x y p=R) :
  Calls Tryz.prog 102 #[.slice A n c,.int .i64 x,.int .i64 y,.agg (pnA p)] w (OpPost R ok w):=by
 have HK:=Lib.hid hok
 have HR:=Lib.hid hres
 obtain ⟨w0,hw0⟩:∃ w0,w0=w.alloc (.cells (pnA p) 31):=⟨_,rfl⟩
 obtain ⟨b,hbe⟩:∃ b,b=w.heap.size:=⟨_,rfl⟩
 have H:=Lib.hid (show Vs ceV w0 A n L∧Tabs w0∧Pen4 w0 b p∧Below w.heap.size w w0∧w.heap.size=b from by
  rw [hw0,hbe]
  exact ⟨h.alloc _,hT.below ((Below.refl _ _).alloc (Nat.le_refl _) _) (Nat.le_refl _),pen4_new w p _,(Below.refl _ _).alloc (Nat.le_refl _) _,rfl⟩)
 have HL:=Lib.hid h.len
 clear h hT hok hres
 obtain ⟨c0,c1,c2,c3,_⟩:=H.out.2.2.1
 unfold pnA at hw0
 go_enter Tryz.func102,Tryz.ntmps102
 unfold pnA
 go_upto_region 1 with fail
 rw [← hw0,← hbe]
 clear hw0 hbe
 go_wp2_with fail
 refine (writable_any p H.out.1 H.out.2.1 hn).mono ?_
 rintro e w1 ⟨hyes,hno⟩
 rw [HK.out] at hyes hno
 clear c0 c1 c2 c3
 cases ok
 · obtain ⟨rfl,hb⟩:=hno rfl
   have X:=Lib.hid (show Below w.heap.size w w1 from H.out.2.2.2.1.trans (hb.mono H.out.2.2.2.1.size))
   clear hyes hno hb
   have HP:Hid (OpPost R false w (.returned (.slice none 0 0)) w1):=⟨fun e=>(by cases e),fun _=>⟨rfl,X.out⟩⟩
   go_wp2_with fail
   refine (hasPlace_any x w1).mono ?_
   rintro e w3 ⟨rfl,rfl⟩
   have hd:decide (0≤x∧x<((0:Nat):Int))=false:=by simp
   rw [hd]
   clear hd
   go_wp2_with fail
   go_ret
   exact HP.out
 · obtain ⟨hb,g,c',rfl,hg,hc1,hc2,hR⟩:=hyes rfl
   have hLl:=HL.out
   rw [hLl] at hc1 ⊢
   have X:=Lib.hid (show Wr w g c' b p L L w1 from ⟨H.out.2.2.2.1.trans (hb.mono H.out.2.2.2.1.size),hR,H.out.2.2.1.below hb,Nat.le_trans H.out.2.2.2.1.size hg,by have:=H.out.2.2.1.lt;omega,rfl,by rw [hLl];exact hc1,hc2⟩)
   have HO:=Lib.hid ((rowMay_iff L).1 (by have:=HK.out;simp at this;exact this.1))
   clear hyes hno hb hR hg H HK hLl
   go_wp2_with fail
   refine (hasPlace_any x w1).mono ?_
   rintro e w3 ⟨rfl,rfl⟩
   by_cases hx:0≤x∧x<(n:Int)
   · obtain ⟨a,rfl⟩:∃ a:Nat,x=(a:Int):=⟨x.toNat,by omega⟩
     rw [decide_eq_true hx]
     have ha:a<n:=by omega
     by_cases hy:y<1
     · have HP:Hid (OpPost R true w (.returned (.slice (some ⟨g,0,none⟩) n c')) w1):=by
        have e:insertS L (a:Int) y p=L:=by unfold insertS;simp only [];rw [if_neg (by omega)]
        rw [← HR.out,e,← HL.out]
        exact ⟨fun _=>X.out.made,fun e=>(by cases e)⟩
       go_wp2_with fail
       go_ret
       exact HP.out
     · obtain ⟨k,hmin⟩:∃ k:Nat,min y ((n:Int)-(a:Int))=(k:Int):=⟨(min y ((n:Int)-(a:Int))).toNat,by omega⟩
       have hk1:1≤k:=by omega
       have hk2:a+k≤n:=by omega
       obtain ⟨q,hq⟩:∃ q:Nat,(n:Int)-(k:Int)=(q:Int):=⟨n-k,by omega⟩
       have hqn:q+k=n:=by omega
       have HE:=Lib.hid (show R=overS (overS (cutS (cutS L a) q) (a+k) (((cutS (cutS L a) q).drop a).take (n-(a+k)))) a (List.replicate k (blankS p)) from by
        rw [← HR.out]
        unfold insertS
        simp only []
        rw [if_pos (by have:=HL.out;omega),Int.toNat_natCast,HL.out,show (min y ((n:Int)-(a:Int))).toNat=k by omega,show n-k=q by omega])
       have hT:=Lib.hid (show (((cutS (cutS L a) q).drop a).take (n-(a+k))).length=n-(a+k) from by rw [List.length_take,List.length_drop,cutS_length,cutS_length,HL.out];omega)
       go_wp2_with fail
       refine (cut_any (c:=c') a X.out.rw_ HL.out (by omega) (fun h1 h2=>HO.out.prev h1 h2)).mono ?_
       rintro e w2 ⟨rfl,hR,hg⟩
       have Y2:=Lib.hid (X.out.grown hR hg (cutS_length _ _))
       clear hR hg X
       go_wp2_with fail
       refine (cut_any (c:=c') q Y2.out.rw_ (by rw [cutS_length];exact HL.out) (by omega) (fun _ h2=>cut_pos HO.out h2 (by have:=HL.out;omega))).mono ?_
       rintro e w3 ⟨rfl,hR,hg⟩
       have Y3:=Lib.hid (Y2.out.grown hR hg (by rw [cutS_length,cutS_length]))
       obtain ⟨c0,c1,c2,c3,_⟩:=Y3.out.pen
       have k1:(a:Int)≤(c':Int):=by omega
       have k2:(a:Int)+(k:Int)≤(n:Int):=by omega
       have k3:¬ (c'=a):=by omega
       have k4:(a:Int)+(k:Int)≤(c':Int):=by omega
       have k5:(0:Int)≤(a:Int)+(k:Int):=by omega
       have k6:((a:Int)+(k:Int)).toNat=a+k:=by omega
       have k7:IntKind.i64.wrap ((a:Int)+(k:Int))=(a:Int)+(k:Int):=by rw [IntKind.wrap_i64];omega
       have k8:(a:Int)≤(n:Int):=by omega
       have k9:(a:Int)≤(a:Int)+(k:Int):=by omega
       have k10:¬ (c'=q):=by omega
       have k11:(q:Int)≤(n:Int):=by omega
       have k12:IntKind.i64.wrap (q:Int)=(q:Int):=by rw [IntKind.wrap_i64];omega
       have k13:a+k≤c':=by omega
       clear hR hg Y2 hmin
       by_cases hcap:c'=a+k
       · subst hcap
         have k14:¬ (k=0):=by omega
         go_wp2_with fail
         go_still_tail 8,(by kernel_rfl)
         change wpList _ _ _ _ _ w3.drew
         have Y4:=Lib.hid (Y3.out.below (Below.refl _ _).drew)
         have V1:=Lib.hid (show Vs ceV w3.drew (some ⟨g,a*6,none⟩) (((cutS (cutS L a) q).drop a).take (n-(a+k))).length (((cutS (cutS L a) q).drop a).take (n-(a+k))) from by rw [hT.out];exact (rw_vs Y4.out.rw_ (k:=a) (by rw [cutS_length,cutS_length,HL.out];omega)).front ceV_len (by rw [cutS_length,cutS_length,HL.out];omega))
         clear c0 c1 c2 c3 Y3
         generalize w3.drew=w4 at Y4 V1 ⊢
         go_wp2_with (refine wpList_copy_V rfl (.tmp 41) (.tmp 44) 24 24 rfl 66 ceV_len one_ce Tryz.underlying24 infoCe g (a+k) _ _ _ _ _ _ rfl rfl 66 (cutS (cutS L a) q) (((cutS (cutS L a) q).drop a).take (n-(a+k))) Y4.out.rw_ (by rw [hT.out];show _=min _ _;omega) V1.out (fun h=>by exfalso;rw [hT.out] at h;omega) (by rw [hT.out,cutS_length,cutS_length,HL.out];omega) ?_;intro w5 hR5 hg5)
         have Y5:=Lib.hid (show Wr w g (a+k) b p L (overS (cutS (cutS L a) q) (a+k) (((cutS (cutS L a) q).drop a).take (n-(a+k)))) w5 from Y4.out.grown hR5 hg5 (show (overS (cutS (cutS L a) q) (a+k) (((cutS (cutS L a) q).drop a).take (n-(a+k)))).length=L.length by rw [overS_length (by rw [hT.out,cutS_length,cutS_length,HL.out];omega),cutS_length,cutS_length]))
         clear hR5 hg5 Y4 V1
         obtain ⟨c0,c1,c2,c3,_⟩:=Y5.out.pen
         go_wp2_with fail
         go_still_tail 7,(by kernel_rfl)
         change wpList _ _ _ _ _ w5.drew
         have Y6:=Lib.hid (Y5.out.below (Below.refl _ _).drew)
         clear c0 c1 c2 c3 Y5
         generalize w5.drew=w6 at Y6 ⊢
         go_wp2_with fail
         refine (fill_any (o:=a) p Y6.out.rw_ (by rw [Y6.out.len];have:=HL.out;omega) (by omega) rfl).mono ?_
         rintro e w7 ⟨rfl,hR,hg⟩
         (try rw [show a+k-a=k by omega] at hR)
         have Y7:=Lib.hid (Y6.out.grown hR hg (by rw [overS_length (by rw [List.length_replicate,Y6.out.len];have:=HL.out;omega),Y6.out.len]))
         clear hR hg Y6
         have HP:Hid (OpPost R true w (.returned (.slice (some ⟨g,0,none⟩) n (a+k))) w7):=by
          have h:=Y7.out.made
          rw [HL.out] at h
          rw [HE.out]
          exact ⟨fun _=>h,fun e=>(by cases e)⟩
         go_wp2_with fail
         go_ret
         exact HP.out
       · have k14:¬ (c'<a+k):=by omega
         go_wp2_with fail
         go_still_tail 8,(by kernel_rfl)
         change wpList _ _ _ _ _ w3.drew
         have Y4:=Lib.hid (Y3.out.below (Below.refl _ _).drew)
         have V1:=Lib.hid (show Vs ceV w3.drew (some ⟨g,a*6,none⟩) (((cutS (cutS L a) q).drop a).take (n-(a+k))).length (((cutS (cutS L a) q).drop a).take (n-(a+k))) from by rw [hT.out];exact (rw_vs Y4.out.rw_ (k:=a) (by rw [cutS_length,cutS_length,HL.out];omega)).front ceV_len (by rw [cutS_length,cutS_length,HL.out];omega))
         clear c0 c1 c2 c3 Y3
         generalize w3.drew=w4 at Y4 V1 ⊢
         go_wp2_with (refine wpList_copy_V rfl (.tmp 41) (.tmp 44) 24 24 rfl 66 ceV_len one_ce Tryz.underlying24 infoCe g (a+k) _ _ _ _ _ _ rfl rfl 66 (cutS (cutS L a) q) (((cutS (cutS L a) q).drop a).take (n-(a+k))) Y4.out.rw_ (by rw [hT.out];show _=min _ _;omega) V1.out (fun _=>rfl) (by rw [hT.out,cutS_length,cutS_length,HL.out];omega) ?_;intro w5 hR5 hg5)
         have Y5:=Lib.hid (show Wr w g c' b p L (overS (cutS (cutS L a) q) (a+k) (((cutS (cutS L a) q).drop a).take (n-(a+k)))) w5 from Y4.out.grown hR5 hg5 (show (overS (cutS (cutS L a) q) (a+k) (((cutS (cutS L a) q).drop a).take (n-(a+k)))).length=L.length by rw [overS_length (by rw [hT.out,cutS_length,cutS_length,HL.out];omega),cutS_length,cutS_length]))
         clear hR5 hg5 Y4 V1
         obtain ⟨c0,c1,c2,c3,_⟩:=Y5.out.pen
         go_wp2_with fail
         go_still_tail 7,(by kernel_rfl)
         change wpList _ _ _ _ _ w5.drew
         have Y6:=Lib.hid (Y5.out.below (Below.refl _ _).drew)
         clear c0 c1 c2 c3 Y5
         generalize w5.drew=w6 at Y6 ⊢
         go_wp2_with fail
         refine (fill_any (o:=a) p Y6.out.rw_ (by rw [Y6.out.len];have:=HL.out;omega) (by omega) rfl).mono ?_
         rintro e w7 ⟨rfl,hR,hg⟩
         (try rw [show a+k-a=k by omega] at hR)
         have Y7:=Lib.hid (Y6.out.grown hR hg (by rw [overS_length (by rw [List.length_replicate,Y6.out.len];have:=HL.out;omega),Y6.out.len]))
         clear hR hg Y6
         have HP:Hid (OpPost R true w (.returned (.slice (some ⟨g,0,none⟩) n c')) w7):=by
          have h:=Y7.out.made
          rw [HL.out] at h
          rw [HE.out]
          exact ⟨fun _=>h,fun e=>(by cases e)⟩
         go_wp2_with fail
         go_ret
         exact HP.out
   · rw [decide_eq_false hx]
     have HP:Hid (OpPost R true w (.returned (.slice (some ⟨g,0,none⟩) n c')) w1):=by
      have e:insertS L x y p=L:=by unfold insertS;simp only [];rw [if_neg (by have:=HL.out;omega)]
      rw [← HR.out,e,← HL.out]
      exact ⟨fun _=>X.out.made,fun e=>(by cases e)⟩
     go_wp2_with fail
     go_ret
     exact HP.out
theorem insert_any {w:World} {A:Option Addr} {n c:Nat} {L:List Ce} (x y:Int) (p:Pn) (h:Vs ceV w A n L) (hT:Tabs w) (hn:n≤1000000) :
  Calls Tryz.prog 102 #[.slice A n c,.int .i64 x,.int .i64 y,.agg (pnA p)] w (OpPost (insertS L x y p) (rowMay L && penMayS p) w):=insert_at x y p h hT hn rfl rfl
open Go.RowKit
set_option maxHeartbeats 1600000 in
set_option maxRecDepth 100000 in
theorem delete_at {w:World} {A:Option Addr} {n c:Nat} {L R:List Ce} (x y:Int) (p:Pn) (h:Vs ceV w A n L) (hT:Tabs w) (hn:n≤1000000) {ok:Bool} (hok:(rowMay L && penMayS p)=ok) (hres:deleteS L x y p=R) :
  Calls Tryz.prog 223 #[.slice A n c,.int .i64 x,.int .i64 y,.agg (pnA p)] w (OpPost R ok w):=by
 have HK:=Lib.hid hok
 have HR:=Lib.hid hres
 obtain ⟨w0,hw0⟩:∃ w0,w0=w.alloc (.cells (pnA p) 31):=⟨_,rfl⟩
 obtain ⟨b,hbe⟩:∃ b,b=w.heap.size:=⟨_,rfl⟩
 have H:=Lib.hid (show Vs ceV w0 A n L∧Tabs w0∧Pen4 w0 b p∧Below w.heap.size w w0∧w.heap.size=b from by
  rw [hw0,hbe]
  exact ⟨h.alloc _,hT.below ((Below.refl _ _).alloc (Nat.le_refl _) _) (Nat.le_refl _),pen4_new w p _,(Below.refl _ _).alloc (Nat.le_refl _) _,rfl⟩)
 have HL:=Lib.hid h.len
 clear h hT hok hres
 obtain ⟨c0,c1,c2,c3,_⟩:=H.out.2.2.1
 unfold pnA at hw0
 go_enter Tryz.func223,Tryz.ntmps223
 unfold pnA
 go_upto_region 1 with fail
 rw [← hw0,← hbe]
 clear hw0 hbe
 go_wp2_with fail
 refine (writable_any p H.out.1 H.out.2.1 hn).mono ?_
 rintro e w1 ⟨hyes,hno⟩
 rw [HK.out] at hyes hno
 clear c0 c1 c2 c3
 cases ok
 · obtain ⟨rfl,hb⟩:=hno rfl
   have X:=Lib.hid (show Below w.heap.size w w1 from H.out.2.2.2.1.trans (hb.mono H.out.2.2.2.1.size))
   clear hyes hno hb
   have HP:Hid (OpPost R false w (.returned (.slice none 0 0)) w1):=⟨fun e=>(by cases e),fun _=>⟨rfl,X.out⟩⟩
   go_wp2_with fail
   refine (hasPlace_any x w1).mono ?_
   rintro e w3 ⟨rfl,rfl⟩
   have hd:decide (0≤x∧x<((0:Nat):Int))=false:=by simp
   rw [hd]
   clear hd
   go_wp2_with fail
   go_ret
   exact HP.out
 · obtain ⟨hb,g,c',rfl,hg,hc1,hc2,hR⟩:=hyes rfl
   have hLl:=HL.out
   rw [hLl] at hc1 ⊢
   have X:=Lib.hid (show Wr w g c' b p L L w1 from ⟨H.out.2.2.2.1.trans (hb.mono H.out.2.2.2.1.size),hR,H.out.2.2.1.below hb,Nat.le_trans H.out.2.2.2.1.size hg,by have:=H.out.2.2.1.lt;omega,rfl,by rw [hLl];exact hc1,hc2⟩)
   have HO:=Lib.hid ((rowMay_iff L).1 (by have:=HK.out;simp at this;exact this.1))
   clear hyes hno hb hR hg H HK hLl
   go_wp2_with fail
   refine (hasPlace_any x w1).mono ?_
   rintro e w3 ⟨rfl,rfl⟩
   by_cases hx:0≤x∧x<(n:Int)
   · obtain ⟨a,rfl⟩:∃ a:Nat,x=(a:Int):=⟨x.toNat,by omega⟩
     rw [decide_eq_true hx]
     have ha:a<n:=by omega
     by_cases hy:y<1
     · have HP:Hid (OpPost R true w (.returned (.slice (some ⟨g,0,none⟩) n c')) w1):=by
        have e:deleteS L (a:Int) y p=L:=by unfold deleteS;simp only [];rw [if_neg (by omega)]
        rw [← HR.out,e,← HL.out]
        exact ⟨fun _=>X.out.made,fun e=>(by cases e)⟩
       go_wp2_with fail
       go_ret
       exact HP.out
     · obtain ⟨k,hmin⟩:∃ k:Nat,min y ((n:Int)-(a:Int))=(k:Int):=⟨(min y ((n:Int)-(a:Int))).toNat,by omega⟩
       have hk1:1≤k:=by omega
       have hk2:a+k≤n:=by omega
       obtain ⟨q,hq⟩:∃ q:Nat,(n:Int)-(k:Int)=(q:Int):=⟨n-k,by omega⟩
       have hqn:q+k=n:=by omega
       have HE:=Lib.hid (show R=overS (overS (cutS (cutS L a) (a+k)) a ((cutS (cutS L a) (a+k)).drop (a+k))) q (List.replicate k (blankS p)) from by
        rw [← HR.out]
        unfold deleteS
        simp only []
        rw [if_pos (by have:=HL.out;omega),Int.toNat_natCast,HL.out,show (min y ((n:Int)-(a:Int))).toNat=k by omega,show n-k=q by omega])
       have hT:=Lib.hid (show ((cutS (cutS L a) (a+k)).drop (a+k)).length=n-(a+k) from by rw [List.length_drop,cutS_length,cutS_length,HL.out])
       go_wp2_with fail
       refine (cut_any (c:=c') a X.out.rw_ HL.out (by omega) (fun h1 h2=>HO.out.prev h1 h2)).mono ?_
       rintro e w2 ⟨rfl,hR,hg⟩
       have Y2:=Lib.hid (X.out.grown hR hg (cutS_length _ _))
       clear hR hg X
       go_wp2_with fail
       refine (cut_any (c:=c') (a+k) Y2.out.rw_ (by rw [cutS_length];exact HL.out) (by omega) (fun _ h2=>by omega)).mono ?_
       rintro e w3 ⟨rfl,hR,hg⟩
       have Y3:=Lib.hid (Y2.out.grown hR hg (by rw [cutS_length,cutS_length]))
       obtain ⟨c0,c1,c2,c3,_⟩:=Y3.out.pen
       have k1:(a:Int)≤(c':Int):=by omega
       have k2:(a:Int)+(k:Int)≤(n:Int):=by omega
       have k3:¬ (c'=a):=by omega
       have k4:(a:Int)+(k:Int)≤(c':Int):=by omega
       have k5:(0:Int)≤(a:Int)+(k:Int):=by omega
       have k6:((a:Int)+(k:Int)).toNat=a+k:=by omega
       have k7:IntKind.i64.wrap ((a:Int)+(k:Int))=(a:Int)+(k:Int):=by rw [IntKind.wrap_i64];omega
       have k8:(a:Int)≤(n:Int):=by omega
       have k9:(a:Int)≤(a:Int)+(k:Int):=by omega
       have k10:¬ (c'=q):=by omega
       have k11:(q:Int)≤(n:Int):=by omega
       have k12:IntKind.i64.wrap (q:Int)=(q:Int):=by rw [IntKind.wrap_i64];omega
       have k13:a+k≤c':=by omega
       clear hR hg Y2 hmin
       by_cases hcap:c'=a+k
       · subst hcap
         have k14:¬ (k=0):=by omega
         go_wp2_with fail
         go_still_tail 8,(by kernel_rfl)
         change wpList _ _ _ _ _ w3.drew
         have Y4:=Lib.hid (Y3.out.below (Below.refl _ _).drew)
         have V1:=Lib.hid (show Vs ceV w3.drew (some ⟨g,(a+k)*6,none⟩) ((cutS (cutS L a) (a+k)).drop (a+k)).length ((cutS (cutS L a) (a+k)).drop (a+k))∧∀ A,((cutS (cutS L a) (a+k)).drop (a+k)).length=0→Vs ceV w3.drew A ((cutS (cutS L a) (a+k)).drop (a+k)).length ((cutS (cutS L a) (a+k)).drop (a+k)) from ⟨by rw [hT.out,← HL.out,← cutS_length L a,← cutS_length (cutS L a) (a+k)];exact rw_vs Y4.out.rw_ (k:=a+k) (by rw [cutS_length,cutS_length,HL.out];omega),fun A h0=>vs_none h0⟩)
         clear c0 c1 c2 c3 Y3
         generalize w3.drew=w4 at Y4 V1 ⊢
         go_wp2_with (refine wpList_copy_V rfl (.tmp 38) (.tmp 43) 24 24 rfl 66 ceV_len one_ce Tryz.underlying24 infoCe g a _ _ _ _ _ _ rfl rfl 66 (cutS (cutS L a) (a+k)) ((cutS (cutS L a) (a+k)).drop (a+k)) Y4.out.rw_ (by rw [hT.out];show _=min _ _;omega) (V1.out.2 _ (by rw [hT.out];omega)) (fun _=>rfl) (by rw [hT.out,cutS_length,cutS_length,HL.out];omega) ?_;intro w5 hR5 hg5)
         have Y5:=Lib.hid (show Wr w g (a+k) b p L (overS (cutS (cutS L a) (a+k)) a ((cutS (cutS L a) (a+k)).drop (a+k))) w5 from Y4.out.grown hR5 hg5 (show (overS (cutS (cutS L a) (a+k)) a ((cutS (cutS L a) (a+k)).drop (a+k))).length=L.length by rw [overS_length (by rw [hT.out,cutS_length,cutS_length,HL.out];omega),cutS_length,cutS_length]))
         clear hR5 hg5 Y4 V1
         obtain ⟨c0,c1,c2,c3,_⟩:=Y5.out.pen
         go_wp2_with fail
         go_still_tail 7,(by kernel_rfl)
         change wpList _ _ _ _ _ w5.drew
         have Y6:=Lib.hid (Y5.out.below (Below.refl _ _).drew)
         clear c0 c1 c2 c3 Y5
         generalize w5.drew=w6 at Y6 ⊢
         go_wp2_with fail
         refine (fill_any (o:=q) p Y6.out.rw_ (by rw [Y6.out.len];have:=HL.out;omega) (by omega) rfl).mono ?_
         rintro e w7 ⟨rfl,hR,hg⟩
         (try rw [show n-q=k by omega] at hR)
         have Y7:=Lib.hid (Y6.out.grown hR hg (by rw [overS_length (by rw [List.length_replicate,Y6.out.len];have:=HL.out;omega),Y6.out.len]))
         clear hR hg Y6
         have HP:Hid (OpPost R true w (.returned (.slice (some ⟨g,0,none⟩) n (a+k))) w7):=by
          have h:=Y7.out.made
          rw [HL.out] at h
          rw [HE.out]
          exact ⟨fun _=>h,fun e=>(by cases e)⟩
         go_wp2_with fail
         go_ret
         exact HP.out
       · have k14:¬ (c'<a+k):=by omega
         go_wp2_with fail
         go_still_tail 8,(by kernel_rfl)
         change wpList _ _ _ _ _ w3.drew
         have Y4:=Lib.hid (Y3.out.below (Below.refl _ _).drew)
         have V1:=Lib.hid (show Vs ceV w3.drew (some ⟨g,(a+k)*6,none⟩) ((cutS (cutS L a) (a+k)).drop (a+k)).length ((cutS (cutS L a) (a+k)).drop (a+k))∧∀ A,((cutS (cutS L a) (a+k)).drop (a+k)).length=0→Vs ceV w3.drew A ((cutS (cutS L a) (a+k)).drop (a+k)).length ((cutS (cutS L a) (a+k)).drop (a+k)) from ⟨by rw [hT.out,← HL.out,← cutS_length L a,← cutS_length (cutS L a) (a+k)];exact rw_vs Y4.out.rw_ (k:=a+k) (by rw [cutS_length,cutS_length,HL.out];omega),fun A h0=>vs_none h0⟩)
         clear c0 c1 c2 c3 Y3
         generalize w3.drew=w4 at Y4 V1 ⊢
         go_wp2_with (refine wpList_copy_V rfl (.tmp 38) (.tmp 43) 24 24 rfl 66 ceV_len one_ce Tryz.underlying24 infoCe g a _ _ _ _ _ _ rfl rfl 66 (cutS (cutS L a) (a+k)) ((cutS (cutS L a) (a+k)).drop (a+k)) Y4.out.rw_ (by rw [hT.out];show _=min _ _;omega) V1.out.1 (fun _=>rfl) (by rw [hT.out,cutS_length,cutS_length,HL.out];omega) ?_;intro w5 hR5 hg5)
         have Y5:=Lib.hid (show Wr w g c' b p L (overS (cutS (cutS L a) (a+k)) a ((cutS (cutS L a) (a+k)).drop (a+k))) w5 from Y4.out.grown hR5 hg5 (show (overS (cutS (cutS L a) (a+k)) a ((cutS (cutS L a) (a+k)).drop (a+k))).length=L.length by rw [overS_length (by rw [hT.out,cutS_length,cutS_length,HL.out];omega),cutS_length,cutS_length]))
         clear hR5 hg5 Y4 V1
         obtain ⟨c0,c1,c2,c3,_⟩:=Y5.out.pen
         go_wp2_with fail
         go_still_tail 7,(by kernel_rfl)
         change wpList _ _ _ _ _ w5.drew
         have Y6:=Lib.hid (Y5.out.below (Below.refl _ _).drew)
         clear c0 c1 c2 c3 Y5
         generalize w5.drew=w6 at Y6 ⊢
         go_wp2_with fail
         refine (fill_any (o:=q) p Y6.out.rw_ (by rw [Y6.out.len];have:=HL.out;omega) (by omega) rfl).mono ?_
         rintro e w7 ⟨rfl,hR,hg⟩
         (try rw [show n-q=k by omega] at hR)
         have Y7:=Lib.hid (Y6.out.grown hR hg (by rw [overS_length (by rw [List.length_replicate,Y6.out.len];have:=HL.out;omega),Y6.out.len]))
         clear hR hg Y6
         have HP:Hid (OpPost R true w (.returned (.slice (some ⟨g,0,none⟩) n c')) w7):=by
          have h:=Y7.out.made
          rw [HL.out] at h
          rw [HE.out]
          exact ⟨fun _=>h,fun e=>(by cases e)⟩
         go_wp2_with fail
         go_ret
         exact HP.out
   · rw [decide_eq_false hx]
     have HP:Hid (OpPost R true w (.returned (.slice (some ⟨g,0,none⟩) n c')) w1):=by
      have e:deleteS L x y p=L:=by unfold deleteS;simp only [];rw [if_neg (by have:=HL.out;omega)]
      rw [← HR.out,e,← HL.out]
      exact ⟨fun _=>X.out.made,fun e=>(by cases e)⟩
     go_wp2_with fail
     go_ret
     exact HP.out
theorem delete_any {w:World} {A:Option Addr} {n c:Nat} {L:List Ce} (x y:Int) (p:Pn) (h:Vs ceV w A n L) (hT:Tabs w) (hn:n≤1000000) :
  Calls Tryz.prog 223 #[.slice A n c,.int .i64 x,.int .i64 y,.agg (pnA p)] w (OpPost (deleteS L x y p) (rowMay L && penMayS p) w):=delete_at x y p h hT hn rfl rfl
open Go.RowKit
theorem insR_len {L:List Ce} {a k:Nat} (p:Pn) (h:a+k≤L.length):(insertR L a k p).length=L.length:=by simp [insertR,piecesS_length];omega
theorem delR_len {L:List Ce} {a k:Nat} (p:Pn) (h:a+k≤L.length):(deleteR L a k p).length=L.length:=by simp [deleteR,piecesS_length];omega
theorem blank_may {p:Pn} (h:penMayS p=true):cellMay (blankS p)=true:=by
 have h2:colMay p.bg=true:=by unfold penMayS at h;simp at h;exact h.2
 have w32:widthS 32=1:=by decide +kernel
 have c0:colMay 0=true:=by decide
 unfold cellMay penMayS blankS
 simp [h2,w32,c0]
theorem may_pen {c:Ce} (h:cellMay c=true):penMayS c.p=true:=by unfold cellMay at h;simp at h;exact h.1
theorem mendC_blank {P:List Pc} {i:Nat} (h:torn P i=true):mendC P i=blankS (pAt P i).1.p:=by unfold mendC;rw [if_pos h]
theorem mendC_same {P:List Pc} {i:Nat} (h:torn P i=false):mendC P i=(pAt P i).1:=by unfold mendC;rw [if_neg (by rw [h];simp)]
structure PcOk (P:List Pc):Prop where
 pos:1≤P.length
 le:P.length≤80
 may:∀ i,i<P.length→cellMay (pAt P i).1=true
 pair:∀ i,i+1<P.length→(pAt P i).1.wd=1→(pAt P (i+1)).1.wd=2→(pAt P (i+1)).2=(pAt P i).2+1→(pAt P (i+1)).1=rightS (pAt P i).1
theorem mend_ok {P:List Pc} (h:PcOk P):RowOk (mendS P):=by
 refine ⟨by rw [mendS_length];exact h.pos,by rw [mendS_length];exact h.le,fun i hi=>?_⟩
 rw [mendS_length] at hi
 have hc:=cAt_mendS hi
 unfold OkAt
 rw [hc,mendS_length]
 cases ht:torn P i
 · rw [mendC_same ht]
   have ht2:=ht
   unfold torn at ht2
   rw [decide_eq_false_iff_not] at ht2
   refine ⟨h.may i hi,fun h1=>?_,fun h2=>?_⟩
   · have h3:i+1<P.length:=by
      rcases Nat.lt_or_ge (i+1) P.length with h0 | h0
      · exact h0
      · exact absurd (.inl ⟨h1,.inl (by omega)⟩) ht2
     have h4:(pAt P (i+1)).1.wd=2:=by
      by_cases e:(pAt P (i+1)).1.wd=2
      · exact e
      · exact absurd (.inl ⟨h1,.inr (.inl e)⟩) ht2
     have h5:(pAt P (i+1)).2=(pAt P i).2+1:=by
      by_cases e:(pAt P (i+1)).2=(pAt P i).2+1
      · exact e
      · exact absurd (.inl ⟨h1,.inr (.inr e)⟩) ht2
     refine ⟨h3,?_⟩
     have h6:torn P (i+1)=false:=by
      unfold torn
      rw [decide_eq_false_iff_not,Nat.add_sub_cancel]
      rintro (⟨e,_⟩ | ⟨_,e | e | e⟩)
      · omega
      · omega
      · exact e h1
      · omega
     rw [cAt_mendS h3,mendC_same h6]
     exact h.pair i h3 h1 h4 h5
   · have h3:0<i:=by
      rcases Nat.eq_zero_or_pos i with h0 | h0
      · exact absurd (.inr ⟨h2,.inl h0⟩) ht2
      · exact h0
     have h4:(pAt P (i-1)).1.wd=1:=by
      by_cases e:(pAt P (i-1)).1.wd=1
      · exact e
      · exact absurd (.inr ⟨h2,.inr (.inl e)⟩) ht2
     have h5:(pAt P (i-1)).2=(pAt P i).2-1:=by
      by_cases e:(pAt P (i-1)).2=(pAt P i).2-1
      · exact e
      · exact absurd (.inr ⟨h2,.inr (.inr e)⟩) ht2
     refine ⟨h3,?_⟩
     have h6:torn P (i-1)=false:=by
      unfold torn
      rw [decide_eq_false_iff_not,show i-1+1=i by omega]
      rintro (⟨_,e | e | e⟩ | ⟨e,_⟩)
      · omega
      · exact e h2
      · omega
      · omega
     rw [cAt_mendS (by omega),mendC_same h6]
     exact h4
 · rw [mendC_blank ht]
   refine ⟨blank_may (may_pen (h.may i hi)),fun e=>?_,fun e=>?_⟩
   · rw [blank_wd] at e;cases e
   · rw [blank_wd] at e;cases e
theorem pcOk_of {L:List Ce} {P:List Pc} {p:Pn} (h:RowOk L) (hp:penMayS p=true) (hl:P.length=L.length)
  (hP:∀ i,i<P.length→pAt P i=(blankS p,-10)∨∃ j,j<L.length∧pAt P i=(cAt L j,(j:Int))):PcOk P:=by
 refine ⟨by rw [hl];exact h.pos,by rw [hl];exact h.le,fun i hi=>?_,fun i hi h1 h2 h3=>?_⟩
 · rcases hP i hi with e | ⟨j,hj,e⟩
   · rw [e];exact blank_may hp
   · rw [e];exact (h.at_ j hj).1
 · rcases hP i (by omega) with e | ⟨j,hj,e⟩
   · rw [e] at h1;rw [blank_wd] at h1;cases h1
   · rcases hP (i+1) hi with e2 | ⟨j2,hj2,e2⟩
     · rw [e2] at h2;rw [blank_wd] at h2;cases h2
     · rw [e,e2] at h3 ⊢
       rw [e] at h1
       have:j2=j+1:=by simp at h3;omega
       subst this
       exact (h.next hj h1).2
theorem put_ok {L:List Ce} (h:RowOk L) (x r:Int) {p:Pn} (hp:penMayS p=true):RowOk (putS L x r p):=by
 rw [put_eq h]
 unfold putR
 have hold:PcOk (piecesS L):=pcOk_of h hp (piecesS_length L) fun i hi=>.inr ⟨i,by rw [piecesS_length] at hi;exact hi,pAt_piecesS (by rw [piecesS_length] at hi;exact hi)⟩
 split
 · rename_i hx
   refine mend_ok ⟨by rw [List.length_set];exact hold.pos,by rw [List.length_set];exact hold.le,fun i hi=>?_,fun i hi h1 h2 h3=>?_⟩
   · rw [List.length_set] at hi
     rw [pAt_set]
     split
     · unfold cellMay;simp [hp,hx.2.2]
     · exact hold.may i hi
   · rw [List.length_set] at hi
     rw [pAt_set] at h1 h3 ⊢
     rw [pAt_set] at h2 h3
     rw [pAt_set]
     split at h1
     · simp at h1
     · rename_i e1
       split at h2
       · simp at h2
       · rename_i e2
         rw [if_neg e1,if_neg e2] at h3 ⊢
         exact hold.pair i hi h1 h2 h3
 · split
   · rename_i hx
     obtain ⟨a,rfl⟩:∃ a:Nat,x=(a:Int):=⟨x.toNat,by omega⟩
     rw [Int.toNat_natCast]
     have hP:∀ k,k<L.length→pAt (((piecesS L).set a (⟨r,1,p⟩,-10)).set (a+1) (⟨0,2,p⟩,-9)) k=if k=a+1 then (⟨0,2,p⟩,-9) else if k=a then (⟨r,1,p⟩,-10) else (cAt L k,(k:Int)):=fun k hk=>by
      rw [pAt_set,pAt_set,List.length_set,piecesS_length]
      by_cases e:k=a+1
      · rw [if_pos ⟨e,hk⟩,if_pos e]
      · rw [if_neg (fun e2=>e e2.1),if_neg e]
        by_cases e2:k=a
        · rw [if_pos ⟨e2,hk⟩,if_pos e2]
        · rw [if_neg (fun e3=>e2 e3.1),if_neg e2,pAt_piecesS hk]
     refine mend_ok ⟨by rw [List.length_set,List.length_set];exact hold.pos,by rw [List.length_set,List.length_set];exact hold.le,fun i hi=>?_,fun i hi h1 h2 h3=>?_⟩
     · rw [List.length_set,List.length_set,piecesS_length] at hi
       rw [hP i hi]
       by_cases e:i=a+1
       · rw [if_pos e];unfold cellMay;simp [hp]
       · rw [if_neg e]
         by_cases e2:i=a
         · rw [if_pos e2];unfold cellMay;simp [hp,hx.2.2]
         · rw [if_neg e2];exact (h.at_ i hi).1
     · rw [List.length_set,List.length_set,piecesS_length] at hi
       have q1:=hP i (by omega)
       have q2:=hP (i+1) hi
       by_cases e:i=a
       · subst e
         rw [if_neg (by omega),if_pos rfl] at q1
         rw [if_pos rfl] at q2
         rw [q1,q2];rfl
       · by_cases e2:i=a+1
         · rw [if_pos e2] at q1
           rw [q1] at h1;simp at h1
         · rw [if_neg e2,if_neg e] at q1
           by_cases e3:i+1=a
           · rw [if_neg (by omega),if_pos e3] at q2
             rw [q2] at h2;simp at h2
           · rw [if_neg (by omega),if_neg e3] at q2
             rw [q1] at h1 ⊢
             rw [q2]
             exact (h.next (by omega) h1).2
   · exact mend_ok hold
theorem erase_ok {L:List Ce} (h:RowOk L) (a b:Int) {p:Pn} (hp:penMayS p=true):RowOk (eraseS L a b p):=by
 rw [erase_eq h]
 refine mend_ok (pcOk_of h hp (eraseR_length L a b p) fun i hi=>?_)
 rw [eraseR_length] at hi
 rw [pAt_eraseR hi]
 split
 · exact .inl rfl
 · exact .inr ⟨i,hi,rfl⟩
theorem ins_ok {L:List Ce} (h:RowOk L) (x n:Int) {p:Pn} (hp:penMayS p=true):RowOk (insertS L x n p):=by
 by_cases hc:0≤x∧x<L.length∧1≤n
 · rw [insert_eq h p hc.1 hc.2.1 hc.2.2]
   obtain ⟨a,rfl⟩:∃ a:Nat,x=(a:Int):=⟨x.toNat,by omega⟩
   obtain ⟨k,hk⟩:∃ k,k=(min n ((L.length:Int)-(a:Int))).toNat:=⟨_,rfl⟩
   rw [← hk,Int.toNat_natCast]
   refine mend_ok (pcOk_of h hp (insR_len p (by omega)) fun i hi=>?_)
   rw [insR_len p (by omega)] at hi
   unfold insertR
   rw [pAt_append,pAt_append,List.length_take,piecesS_length,Nat.min_eq_left (by omega),List.length_replicate,pAt_take,pAt_take,pAt_drop,pAt_replicate]
   by_cases e1:i<a
   · simp only [e1,if_true]
     exact .inr ⟨i,hi,pAt_piecesS hi⟩
   · rw [if_neg e1]
     by_cases e2:i<a+k
     · rw [if_pos (by omega),if_pos (by omega)];exact .inl rfl
     · rw [if_neg (by omega),if_pos (by omega)]
       exact .inr ⟨a+(i-a-k),by omega,pAt_piecesS (by omega)⟩
 · unfold insertS
   simp only []
   rw [if_neg hc]
   exact h
theorem del_ok {L:List Ce} (h:RowOk L) (x n:Int) {p:Pn} (hp:penMayS p=true):RowOk (deleteS L x n p):=by
 by_cases hc:0≤x∧x<L.length∧1≤n
 · rw [delete_eq h p hc.1 hc.2.1 hc.2.2]
   obtain ⟨a,rfl⟩:∃ a:Nat,x=(a:Int):=⟨x.toNat,by omega⟩
   obtain ⟨k,hk⟩:∃ k,k=(min n ((L.length:Int)-(a:Int))).toNat:=⟨_,rfl⟩
   rw [← hk,Int.toNat_natCast]
   refine mend_ok (pcOk_of h hp (delR_len p (by omega)) fun i hi=>?_)
   rw [delR_len p (by omega)] at hi
   unfold deleteR
   rw [pAt_append,pAt_append,List.length_take,List.length_drop,piecesS_length,Nat.min_eq_left (by omega),pAt_take,pAt_drop,pAt_replicate]
   by_cases e1:i<a
   · simp only [e1,if_true]
     exact .inr ⟨i,hi,pAt_piecesS hi⟩
   · rw [if_neg e1]
     by_cases e2:i<L.length-k
     · rw [if_pos (by omega)];exact .inr ⟨a+k+(i-a),by omega,pAt_piecesS (by omega)⟩
     · rw [if_neg (by omega),if_pos (by omega)];exact .inl rfl
 · unfold deleteS
   simp only []
   rw [if_neg hc]
   exact h
end Go.Proofs.YtlcipgdnpilkfaaGreatDoor
