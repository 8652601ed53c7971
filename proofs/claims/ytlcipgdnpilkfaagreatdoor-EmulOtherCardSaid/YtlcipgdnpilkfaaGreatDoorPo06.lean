/-
  Part 6 of what the laws of emul want: CellsOf, CellPut, CellFill, CellErase.
-/
import Derived.Deep.RegionHeld3
import Derived.StillTailTactics
import Derived.Test.YtlcipgdnpilkfaaGreatDoorPo05
namespace Go.Proofs.YtlcipgdnpilkfaaGreatDoor
open Go.RowKit
def LetPost (L:List Ce) (w:World) (e:Ending) (w':World):Prop:=Below w.heap.size w w'∧∃ A c,e=.returned (.slice A L.length c)∧L.length≤c∧c≤maxLen∧Vs ceV w' A L.length L∧∀ ad,A=some ad→w.heap.size≤ad.block
theorem one_vs (w:World) (c:Ce) (t:TypeId):Vs ceV (w.alloc (.cells (ceA c) t)) (some ⟨w.heap.size,0,none⟩) 1 [c]:=by
 have h:=(made_rw (f:=ceV) w t [c]).vs
 have e:rowV ceV [c]=(ceA c).toList:=by simp [rowV,ceV,ceA]
 rw [e] at h
 simpa using h
theorem cellsOf_any {w:World} (r:Int) (p:Pn) (hT:Tabs w):Calls Tryz.prog 158 #[.int .i32 r,.agg (pnA p)] w (LetPost (lettS r p) w):=by
 have H:=Lib.hid (show Tabs (w.alloc (.cells (pnA p) 31))∧Pen4 (w.alloc (.cells (pnA p) 31)) w.heap.size p from ⟨hT.below ((Below.refl _ _).alloc (Nat.le_refl _) _) (Nat.le_refl _),pen4_new w p _⟩)
 clear hT
 go_enter Tryz.func158,Tryz.ntmps158
 unfold pnA
 go_wp2_with fail
 refine (width_any r H.out.1).mono ?_
 rintro e w1 ⟨rfl,hb⟩
 obtain ⟨c0,c1,c2,c3,_⟩:=H.out.2.below hb
 have X:=Lib.hid (show Below w.heap.size w w1 from ((Below.refl _ _).alloc (Nat.le_refl _) _).trans (hb.mono (by simp)))
 clear hb
 by_cases h1:widthS r=1
 · have HP:=Lib.hid (show LetPost (lettS r p) w (.returned (.slice (some ⟨w1.heap.size,0,none⟩) 1 1)) (w1.alloc (.cells (ceA ⟨r,0,p⟩) 66)) from by rw [lett_one h1];exact ⟨X.out.alloc X.out.size _,_,1,rfl,Nat.le_refl _,by unfold maxLen;omega,one_vs w1 ⟨r,0,p⟩ _,fun ad e=>by cases e;exact X.out.size⟩)
   rw [h1]
   clear h1
   go_wp2_with fail
   go_ret
   exact HP.out
 · have t1:decide (widthS r=1)=false:=by simpa using h1
   by_cases h2:widthS r=2
   · have HL:=Lib.hid (lett_two (p:=p) h2)
     rw [h2]
     clear h1 h2 t1
     go_upto_region 6 with fail
     obtain ⟨w2,hw2⟩:∃ w2,w2=w1.alloc (.cells (ceA ⟨r,1,p⟩) 66):=⟨_,rfl⟩
     have X2:=Lib.hid (show Below w.heap.size w w2∧Six w2 ⟨w1.heap.size,0,none⟩ ⟨r,1,p⟩∧w1.heap.size<w2.heap.size from by rw [hw2];exact ⟨X.out.alloc X.out.size _,six_new w1 _ _,by simp⟩)
     unfold ceA at hw2
     dsimp only at hw2
     rw [← hw2]
     obtain ⟨b,hb⟩:∃ b,b=w1.heap.size:=⟨_,rfl⟩
     rw [← hb] at X2 ⊢
     clear hw2 hb c0 c1 c2 c3 X H
     have SX:=Lib.hid (show ∀ w',Below w2.heap.size w2 w'→(Below w2.heap.size w2 w'∧(w'.cell? ⟨b,0,none⟩=some (.int .i32 r)∧w'.cell? ⟨b,1,none⟩=some (.int .u8 1)∧w'.cell? ⟨b,2,none⟩=some (.int .u32 p.fg)∧w'.cell? ⟨b,3,none⟩=some (.int .u32 p.bg)∧w'.cell? ⟨b,4,none⟩=some (.int .u8 p.st)∧w'.cell? ⟨b,5,none⟩=some (.int .u16 p.lk))) from fun w' hb=>⟨hb,(X2.out.2.1.below hb X2.out.2.2).blk⟩)
     have hcall:=fun w=>rightOf_any ⟨r,1,p⟩ w
     unfold ceA at hcall
     have HC:=Lib.hid hcall
     clear hcall
     have hb0:Below w2.heap.size w2 w2:=Below.refl _ _
     go_region_held3 (fun w'=>Below w2.heap.size w2 w'∧(w'.cell? ⟨b,0,none⟩=some (.int .i32 r)∧w'.cell? ⟨b,1,none⟩=some (.int .u8 1)∧w'.cell? ⟨b,2,none⟩=some (.int .u32 p.fg)∧w'.cell? ⟨b,3,none⟩=some (.int .u32 p.bg)∧w'.cell? ⟨b,4,none⟩=some (.int .u8 p.st)∧w'.cell? ⟨b,5,none⟩=some (.int .u16 p.lk)))
      ((refine SX.out _ ?_;(try go_split_ands);first | assumption | exact belowN (by assumption) 1 | exact Below.alloc (by assumption) (Below.size (by assumption)) _))
      ((first | (go_at_call 204;refine (HC.out _).mono ?_;rintro e w4 ⟨rfl,hb4⟩;(try go_split_ands);have hb5:=Below.trans (B:=w2.heap.size) (by assumption) (hb4.mono (below_sz (a:=w2) (B:=w2.heap.size) (by assumption))))))
     have HP:=Lib.hid (show LetPost (lettS r p) w (.returned (.slice (some ⟨w4.heap.size,0,none⟩) 2 2)) (w4.alloc (.cells (rowV ceV [⟨r,1,p⟩,rightS ⟨r,1,p⟩]).toArray 66)) from by
      rw [HL.out]
      exact ⟨(X2.out.1.trans (hb5.mono X2.out.1.size)).alloc (X2.out.1.trans (hb5.mono X2.out.1.size)).size _,_,2,rfl,Nat.le_refl _,by unfold maxLen;omega,(made_rw w4 _ _).vs,fun ad e=>by cases e;exact (X2.out.1.trans (hb5.mono X2.out.1.size)).size⟩)
     go_wp2_with fail
     go_ret
     exact HP.out
   · have t2:decide (widthS r=2)=false:=by simpa using h2
     have HP:=Lib.hid (show LetPost (lettS r p) w (.returned (.slice none 0 0)) w1 from by rw [lett_none h1 h2];exact ⟨X.out,none,0,rfl,Nat.le_refl _,by unfold maxLen;omega,Vs.nil _ _,fun ad e=>by cases e⟩)
     generalize widthS r=V at h1 h2 t1 t2 ⊢
     go_wp2_with fail
     go_ret
     exact HP.out
open Go.RowKit
def OpPost (M:List Ce) (ok:Bool) (w:World) (e:Ending) (w':World):Prop:=(ok=true→MadeC M w e w')∧(ok=false→e=.returned (.slice none 0 0)∧Below w.heap.size w w')
structure Wr (w:World) (g c b:Nat) (p:Pn) (L M:List Ce) (wx:World):Prop where
 bel:Below w.heap.size w wx
 rw_:Rw ceV 66 wx g M
 pen:Pen4 wx b p
 ge:w.heap.size≤g
 ne:b≠g
 len:M.length=L.length
 le:L.length≤c
 mx:c≤maxLen
theorem Wr.below {w wx w':World} {g c b:Nat} {p:Pn} {L M:List Ce} (h:Wr w g c b p L M wx) (hb:Below wx.heap.size wx w'):Wr w g c b p L M w' :=
 ⟨h.bel.trans (hb.mono h.bel.size),h.rw_.below hb,h.pen.below hb,h.ge,h.ne,h.len,h.le,h.mx⟩
theorem Wr.grown {w wx w':World} {g c b:Nat} {p:Pn} {L M M':List Ce} (h:Wr w g c b p L M wx) (hR:Rw ceV 66 w' g M') (hg:wx.grownBy w' (some g)) (hl:M'.length=L.length):Wr w g c b p L M' w' :=
 ⟨h.bel.grown hg h.bel.size (fun k hk=>by injection hk with hk;have:=h.ge;omega),hR,h.pen.grown hg (by intro e;injection e with e;exact h.ne e.symm),h.ge,h.ne,hl,h.le,h.mx⟩
theorem Wr.made {w wx:World} {g c b:Nat} {p:Pn} {L M:List Ce} (h:Wr w g c b p L M wx):MadeC M w (.returned (.slice (some ⟨g,0,none⟩) L.length c)) wx :=
 ⟨h.bel,g,c,by rw [h.len],h.ge,by rw [h.len];exact h.le,h.mx,h.rw_⟩
set_option maxHeartbeats 1600000 in
theorem put_at {w:World} {A:Option Addr} {n c:Nat} {L R:List Ce} (x r:Int) (p:Pn) (h:Vs ceV w A n L) (hT:Tabs w) (hn:n≤1000000) {ok:Bool} (hok:(rowMay L && penMayS p)=ok) (hres:putS L x r p=R) :
  Calls Tryz.prog 103 #[.slice A n c,.int .i64 x,.int .i32 r,.agg (pnA p)] w (OpPost R ok w):=by
 have HK:=Lib.hid hok
 have HR:=Lib.hid hres
 obtain ⟨w0,hw0⟩:∃ w0,w0=w.alloc (.cells (pnA p) 31):=⟨_,rfl⟩
 obtain ⟨b,hbe⟩:∃ b,b=w.heap.size:=⟨_,rfl⟩
 have H:=Lib.hid (show Vs ceV w0 A n L∧Tabs w0∧Pen4 w0 b p∧Below w.heap.size w w0∧w.heap.size=b from by
  rw [hw0,hbe]
  exact ⟨h.alloc _,hT.below ((Below.refl _ _).alloc (Nat.le_refl _) _) (Nat.le_refl _),pen4_new w p _,(Below.refl _ _).alloc (Nat.le_refl _) _,rfl⟩)
 have HL:=Lib.hid h.len
 clear h hT hok hres
 obtain ⟨c0,c1,c2,c3,_⟩:=H.out.2.2.1
 unfold pnA at hw0
 go_enter Tryz.func103,Tryz.ntmps103
 unfold pnA
 go_upto_region 1 with fail
 rw [← hw0,← hbe]
 clear hw0 hbe
 go_wp2_with fail
 refine (writable_any p H.out.1 H.out.2.1 hn).mono ?_
 rintro e w1 ⟨hyes,hno⟩
 rw [HK.out] at hyes hno
 clear c0 c1 c2 c3
 cases ok
 · obtain ⟨rfl,hb⟩:=hno rfl
   obtain ⟨c0,c1,c2,c3,_⟩:=H.out.2.2.1.below hb
   have X:=Lib.hid (show Below w.heap.size w w1∧Tabs w1 from ⟨H.out.2.2.2.1.trans (hb.mono H.out.2.2.2.1.size),H.out.2.1.below hb (Nat.le_refl _)⟩)
   clear hyes hno hb
   go_wp2_with fail
   refine (cellsOf_any r p X.out.2).mono ?_
   rintro e w2 ⟨hb,A2,k2,rfl,_,_,_,_⟩
   have X2:=Lib.hid (X.out.1.trans (hb.mono X.out.1.size))
   clear hb c0 c1 c2 c3
   go_wp2_with fail
   refine (hasPlace_any x w2).mono ?_
   rintro e w3 ⟨rfl,rfl⟩
   have hd:decide (0≤x∧x<((0:Nat):Int))=false:=by simp
   rw [hd]
   clear hd
   have HP:Hid (OpPost R false w (.returned (.slice none 0 0)) w2):=⟨fun e=>(by cases e),fun _=>⟨rfl,X2.out⟩⟩
   go_wp2_with fail
   go_ret
   exact HP.out
 · obtain ⟨hb,g,c',rfl,hg,hc1,hc2,hR⟩:=hyes rfl
   have hLl:=HL.out
   rw [hLl] at hc1 ⊢
   have X:=Lib.hid (show Wr w g c' b p L L w1∧Tabs w1∧g<w1.heap.size from ⟨⟨H.out.2.2.2.1.trans (hb.mono H.out.2.2.2.1.size),hR,H.out.2.2.1.below hb,Nat.le_trans H.out.2.2.2.1.size hg,by have:=H.out.2.2.1.lt;omega,rfl,by rw [hLl];exact hc1,hc2⟩,H.out.2.1.below hb (Nat.le_refl _),hR.lt⟩)
   have HO:=Lib.hid ((rowMay_iff L).1 (by have:=HK.out;simp at this;exact this.1))
   obtain ⟨c0,c1,c2,c3,_⟩:=X.out.1.pen
   clear hyes hno hb hR hg H HK hLl
   go_wp2_with fail
   refine (cellsOf_any r p X.out.2.1).mono ?_
   rintro e w2 ⟨hb,A2,k2,rfl,hk1,hk2,hv,hnew⟩
   have Y:=Lib.hid (show Wr w g c' b p L L w2∧Vs ceV w2 A2 (lettS r p).length (lettS r p)∧(∀ ad,A2=some ad→some g≠some ad.block) from ⟨X.out.1.below hb,hv,fun ad e e2=>by injection e2 with e2;have:=hnew ad e;have:=X.out.2.2;omega⟩)
   obtain ⟨m,hm⟩:∃ m,m=(lettS r p).length:=⟨_,rfl⟩
   rw [← hm] at hk1 ⊢
   have HM:=Lib.hid hm
   have hm2:m≤2:=by rw [hm];unfold lettS;(repeat' split)<;>simp
   clear hb hv hnew hm c0 c1 c2 c3 X
   go_wp2_with fail
   refine (hasPlace_any x w2).mono ?_
   rintro e w3 ⟨rfl,rfl⟩
   by_cases hx:0≤x∧x<(n:Int)
   · obtain ⟨a,rfl⟩:∃ a:Nat,x=(a:Int):=⟨x.toNat,by omega⟩
     rw [decide_eq_true hx]
     have ha:a<n:=by omega
     by_cases hm0:m=0
     · subst hm0
       have HP:Hid (OpPost R true w (.returned (.slice (some ⟨g,0,none⟩) n c')) w2):=by
        have e:putS L (a:Int) r p=L:=by unfold putS;simp only [];rw [if_neg (by have:=HM.out;omega)]
        rw [← HR.out,e,← HL.out]
        exact ⟨fun _=>Y.out.1.made,fun e=>(by cases e)⟩
       go_wp2_with fail
       go_ret
       exact HP.out
     · have hm1:((m:Int) == 0)=false:=by simp;omega
       by_cases hfit:(m:Int)≤(n:Int)-(a:Int)
       · have he:putS L (a:Int) r p=overS (cutS (cutS L a) (a+m)) a (lettS r p):=by
          unfold putS;simp only [];rw [if_pos (by have:=HM.out;have:=HL.out;omega),← HM.out];rfl
         have HE:=Lib.hid (HR.out.symm.trans he)
         clear he
         go_wp2_with fail
         refine (cut_any (c:=c') a Y.out.1.rw_ HL.out (by omega) (fun h1 h2=>HO.out.prev h1 h2)).mono ?_
         rintro e w3 ⟨rfl,hR,hg⟩
         have Y2:=Lib.hid (show Wr w g c' b p L (cutS L a) w3∧Vs ceV w3 A2 m (lettS r p) from ⟨Y.out.1.grown hR hg (cutS_length _ _),by rw [HM.out];exact Y.out.2.1.grown hg (fun ad e _=>Y.out.2.2 ad e)⟩)
         clear hR hg
         go_wp2_with fail
         refine (cut_any (c:=c') (a+m) Y2.out.1.rw_ (by rw [cutS_length];exact HL.out) (by omega) (fun _ _=>by omega)).mono ?_
         rintro e w4 ⟨rfl,hR,hg⟩
         have Y3:=Lib.hid (show Wr w g c' b p L (cutS (cutS L a) (a+m)) w4∧Vs ceV w4 A2 m (lettS r p) from ⟨Y2.out.1.grown hR hg (by rw [cutS_length,cutS_length]),Y2.out.2.grown hg (fun ad e _=>Y.out.2.2 ad e)⟩)
         have HF:=Lib.hid (show a+(lettS r p).length≤(cutS (cutS L a) (a+m)).length∧(lettS r p).length=Nat.min m (n-a) from by
          rw [← HM.out,cutS_length,cutS_length,HL.out]
          exact ⟨by omega,(Nat.min_eq_left (by omega)).symm⟩)
         clear hR hg Y2
         go_wp2_with (refine wpList_copy_V rfl (.tmp 47) (.tmp 48) 24 24 rfl 66 ceV_len one_ce Tryz.underlying24 infoCe g a (n-a) (c'-a) (some ⟨g,a*6,none⟩) A2 m k2 rfl rfl 66 _ (lettS r p) Y3.out.1.rw_ HF.out.2 (by rw [← HM.out];exact Y3.out.2) (fun _=>rfl) HF.out.1 ?_;intro w5 hR5 hg5)
         have Y5:=Lib.hid (Y3.out.1.grown hR5 hg5 (show (overS (cutS (cutS L a) (a+m)) a (lettS r p)).length=L.length by rw [overS_length HF.out.1,cutS_length,cutS_length]))
         clear hR5 hg5
         have HP:Hid (OpPost R true w (.returned (.slice (some ⟨g,0,none⟩) n c')) w5):=by
          rw [HE.out,← HL.out]
          exact ⟨fun _=>Y5.out.made,fun e=>(by cases e)⟩
         go_wp2_with fail
         go_ret
         exact HP.out
       · have hm3:(n:Int)-(a:Int)<(m:Int):=by omega
         have HP:Hid (OpPost R true w (.returned (.slice (some ⟨g,0,none⟩) n c')) w2):=by
          have e:putS L (a:Int) r p=L:=by unfold putS;simp only [];rw [if_neg (by have:=HM.out;have:=HL.out;omega)]
          rw [← HR.out,e,← HL.out]
          exact ⟨fun _=>Y.out.1.made,fun e=>(by cases e)⟩
         go_wp2_with fail
         go_ret
         exact HP.out
   · rw [decide_eq_false hx]
     have HP:Hid (OpPost R true w (.returned (.slice (some ⟨g,0,none⟩) n c')) w2):=by
      have e:putS L x r p=L:=by unfold putS;simp only [];rw [if_neg (by have:=HL.out;omega)]
      rw [← HR.out,e,← HL.out]
      exact ⟨fun _=>Y.out.1.made,fun e=>(by cases e)⟩
     go_wp2_with fail
     go_ret
     exact HP.out
theorem put_any {w:World} {A:Option Addr} {n c:Nat} {L:List Ce} (x r:Int) (p:Pn) (h:Vs ceV w A n L) (hT:Tabs w) (hn:n≤1000000) :
  Calls Tryz.prog 103 #[.slice A n c,.int .i64 x,.int .i32 r,.agg (pnA p)] w (OpPost (putS L x r p) (rowMay L && penMayS p) w):=put_at x r p h hT hn rfl rfl
open Go.RowKit
theorem over_next {L:List Ce} {o i m:Nat} {b:Ce} (h:o+m≤L.length) (hi:i<m):(overS L o (List.replicate i b)).set (o+i) b=overS L o (List.replicate (i+1) b):=by
 have h1:o+(List.replicate i b).length≤L.length:=by rw [List.length_replicate];omega
 have h2:o+(List.replicate (i+1) b).length≤L.length:=by rw [List.length_replicate];omega
 refine row_ext (by rw [List.length_set,overS_length h1,overS_length h2]) fun j hj=>?_
 rw [List.length_set,overS_length h1] at hj
 rw [cAt_set,overS_length h1,cAt_overS h1,cAt_overS h2,List.length_replicate,List.length_replicate,cAt_replicate,cAt_replicate]
 by_cases e:j=o+i
 · subst e
   rw [if_pos ⟨rfl,hj⟩,if_pos (by omega),if_pos (by omega)]
 · rw [if_neg (fun e2=>e e2.1)]
   by_cases e2:o≤j∧j<o+i
   · rw [if_pos e2,if_pos (by omega),if_pos (by omega),if_pos (by omega)]
   · rw [if_neg e2,if_neg (by omega)]
theorem over_none (L:List Ce) (o:Nat) (b:Ce):overS L o (List.replicate 0 b)=L:=by simp [overS]
def FillPost (L:List Ce) (o m g:Nat) (p:Pn) (w:World) (e:Ending) (w':World):Prop:=e=.returned (.tuple #[])∧Rw ceV 66 w' g (overS L o (List.replicate m (blankS p)))∧w.grownBy w' (some g)
set_option maxHeartbeats 800000 in
theorem fill_any {w:World} {g o off m c:Nat} {L:List Ce} (p:Pn) (h:Rw ceV 66 w g L) (hl:o+m≤L.length) (hn:m≤1000000) (ho:off=o*6) :
  Calls Tryz.prog 146 #[.slice (some ⟨g,off,none⟩) m c,.agg (pnA p)] w (FillPost L o m g p w):=by
 obtain ⟨w0,hw0⟩:∃ w0,w0=w.alloc (.cells (pnA p) 31):=⟨_,rfl⟩
 have H:=Lib.hid (show Pen4 w0 w.heap.size p∧Rw ceV 66 w0 g L∧w.grownBy w0 (some g)∧g≠w.heap.size∧o+m≤L.length∧off=o*6 from by
  have hlt:=h.lt
  rw [hw0]
  exact ⟨pen4_new w p _,h.below ((Below.refl _ _).alloc (Nat.le_refl _) _),World.grownBy_alloc w _ _,by omega,hl,ho⟩)
 unfold pnA at hw0
 clear h hl ho
 go_enter Tryz.func146,Tryz.ntmps146
 unfold pnA
 go_wp2_with fail
 rw [← hw0]
 go_loopw [7] (fun i wr=>∃ k:Nat,k≤m∧i=.int .i64 k∧Rw ceV 66 wr g (overS L o (List.replicate k (blankS p)))∧w0.grownBy wr (some g)) (fun i _=>m-(intOf i).toNat)
 case atStart=>exact ⟨0,Nat.zero_le _,rfl,by rw [over_none];exact H.out.2.1,World.grownBy.refl _ _⟩
 case round =>
  obtain ⟨k,hk,rfl,hR,hg⟩:=hrel
  have X:=Lib.hid (And.intro hR hg)
  clear hR hg
  by_cases hlt:k<m
  · have hkl:(k:Int)<(m:Int):=by omega
    obtain ⟨c0,c1,c2,c3,_⟩:=H.out.1.grown X.out.2 (by have:=H.out.2.2.2.1;simp;exact this)
    go_wp2_with fail
    refine (blank_any p wr).mono ?_
    rintro e w1 ⟨rfl,hb⟩
    have hR:=X.out.1.below hb
    have Y:=Lib.hid (show w0.grownBy w1 (some g) from X.out.2.trans (grownBy_below hb))
    clear hb c0 c1 c2 c3
    go_wp2_with (refine wpList_store_V rfl 66 (.tmp 14) (.tmp 13) rfl ceV_len one_ce infoCe g _ (o+k) (blankS p) _ rfl (by have:=H.out.2.2.2.2.2;omega) rfl rfl 66 _ hR (by rw [overS_length (by rw [List.length_replicate];have:=H.out.2.2.2.2.1;omega)];have:=H.out.2.2.2.2.1;omega) ?_;intro w2 hR2 hg2;rw [over_next H.out.2.2.2.2.1 hlt] at hR2)
    have Y2:=Lib.hid (And.intro hR2 (Y.out.trans hg2))
    clear hR hR2 hg2 Y X
    go_wp2_with fail
    go_roundw
    case rel=>exact ⟨k+1,by omega,by go_num,Y2.out⟩
    case measure=>simp [intOf];omega
  · obtain rfl:k=m:=by omega
    go_wp2_with fail
    go_end0
    exact ⟨rfl,X.out.1,H.out.2.2.1.trans X.out.2⟩
open Go.RowKit
set_option maxHeartbeats 1600000 in
set_option maxRecDepth 100000 in
theorem erase_at {w:World} {A:Option Addr} {n c:Nat} {L R:List Ce} (x y:Int) (p:Pn) (h:Vs ceV w A n L) (hT:Tabs w) (hn:n≤1000000) {ok:Bool} (hok:(rowMay L && penMayS p)=ok) (hres:eraseS L x y p=R) :
  Calls Tryz.prog 81 #[.slice A n c,.int .i64 x,.int .i64 y,.agg (pnA p)] w (OpPost R ok w):=by
 have HK:=Lib.hid hok
 have HR:=Lib.hid hres
 obtain ⟨w0,hw0⟩:∃ w0,w0=w.alloc (.cells (pnA p) 31):=⟨_,rfl⟩
 obtain ⟨b,hbe⟩:∃ b,b=w.heap.size:=⟨_,rfl⟩
 have H:=Lib.hid (show Vs ceV w0 A n L∧Tabs w0∧Pen4 w0 b p∧Below w.heap.size w w0∧w.heap.size=b from by
  rw [hw0,hbe]
  exact ⟨h.alloc _,hT.below ((Below.refl _ _).alloc (Nat.le_refl _) _) (Nat.le_refl _),pen4_new w p _,(Below.refl _ _).alloc (Nat.le_refl _) _,rfl⟩)
 have HL:=Lib.hid h.len
 clear h hT hok hres
 obtain ⟨c0,c1,c2,c3,_⟩:=H.out.2.2.1
 unfold pnA at hw0
 go_enter Tryz.func81,Tryz.ntmps81
 unfold pnA
 go_upto_region 1 with fail
 rw [← hw0,← hbe]
 clear hw0 hbe
 go_wp2_with fail
 refine (writable_any p H.out.1 H.out.2.1 hn).mono ?_
 rintro e w1 ⟨hyes,hno⟩
 rw [HK.out] at hyes hno
 clear c0 c1 c2 c3
 cases ok
 · obtain ⟨rfl,hb⟩:=hno rfl
   have X:=Lib.hid (show Below w.heap.size w w1 from H.out.2.2.2.1.trans (hb.mono H.out.2.2.2.1.size))
   clear hyes hno hb
   have HP:Hid (OpPost R false w (.returned (.slice none 0 0)) w1):=⟨fun e=>(by cases e),fun _=>⟨rfl,X.out⟩⟩
   have hf:min y 0≤max x 0:=by omega
   go_wp2_with fail
   go_ret
   exact HP.out
 · obtain ⟨hb,g,c',rfl,hg,hc1,hc2,hR⟩:=hyes rfl
   have hLl:=HL.out
   rw [hLl] at hc1 ⊢
   have X:=Lib.hid (show Wr w g c' b p L L w1 from ⟨H.out.2.2.2.1.trans (hb.mono H.out.2.2.2.1.size),hR,H.out.2.2.1.below hb,Nat.le_trans H.out.2.2.2.1.size hg,by have:=H.out.2.2.1.lt;omega,rfl,by rw [hLl];exact hc1,hc2⟩)
   have HO:=Lib.hid ((rowMay_iff L).1 (by have:=HK.out;simp at this;exact this.1))
   clear hyes hno hb hR hg H HK hLl
   obtain ⟨f,hmax⟩:∃ f:Nat,max x 0=(f:Int):=⟨(max x 0).toNat,by omega⟩
   obtain ⟨t,hmin⟩:∃ t:Int,min y (n:Int)=t:=⟨_,rfl⟩
   have HF:=Lib.hid (And.intro hmax hmin)
   by_cases hft:t≤(f:Int)
   · have HP:Hid (OpPost R true w (.returned (.slice (some ⟨g,0,none⟩) n c')) w1):=by
      have e:eraseS L x y p=L:=by unfold eraseS;simp only [];rw [if_neg (by have:=HF.out;have:=HL.out;omega)]
      rw [← HR.out,e,← HL.out]
      exact ⟨fun _=>X.out.made,fun e=>(by cases e)⟩
     go_wp2_with fail
     go_ret
     exact HP.out
   · obtain ⟨u,rfl⟩:∃ u:Nat,t=(u:Int):=⟨t.toNat,by omega⟩
     have hu1:f<u:=by omega
     have hu2:u≤n:=by omega
     have HE:=Lib.hid (show R=overS (cutS (cutS L f) u) f (List.replicate (u-f) (blankS p)) from by
      rw [← HR.out]
      unfold eraseS
      simp only []
      rw [show (max x 0).toNat=f by have:=HF.out;omega,show (min y (L.length:Int)).toNat=u by have:=HF.out;have:=HL.out;omega,if_pos hu1])
     go_wp2_with fail
     refine (cut_any (c:=c') f X.out.rw_ HL.out (by omega) (fun h1 h2=>HO.out.prev h1 h2)).mono ?_
     rintro e w2 ⟨rfl,hR,hg⟩
     have Y2:=Lib.hid (X.out.grown hR hg (cutS_length _ _))
     clear hR hg X
     go_wp2_with fail
     refine (cut_any (c:=c') u Y2.out.rw_ (by rw [cutS_length];exact HL.out) (by omega) (fun _ _=>by omega)).mono ?_
     rintro e w3 ⟨rfl,hR,hg⟩
     have Y3:=Lib.hid (Y2.out.grown hR hg (by rw [cutS_length,cutS_length]))
     obtain ⟨c0,c1,c2,c3,_⟩:=Y3.out.pen
     have k1:(f:Int)≤(u:Int):=by omega
     have k2:(u:Int)≤(c':Int):=by omega
     have k3:¬ (c'=f):=by omega
     have k4:u≤c':=by omega
     clear hR hg Y2 hmax hmin
     go_wp2_with fail
     go_still_tail 5,(by kernel_rfl)
     change wpList _ _ _ _ _ w3.drew
     have Y4:=Lib.hid (Y3.out.below (Below.refl _ _).drew)
     clear c0 c1 c2 c3 Y3
     generalize w3.drew=w4 at Y4 ⊢
     go_wp2_with fail
     refine (fill_any (o:=f) p Y4.out.rw_ (by rw [cutS_length,cutS_length];have:=HL.out;omega) (by omega) rfl).mono ?_
     rintro e w5 ⟨rfl,hR,hg⟩
     have Y5:=Lib.hid (Y4.out.grown hR hg (by rw [overS_length (by rw [List.length_replicate,cutS_length,cutS_length];have:=HL.out;omega),cutS_length,cutS_length]))
     clear hR hg Y4
     have HP:Hid (OpPost R true w (.returned (.slice (some ⟨g,0,none⟩) n c')) w5):=by
      rw [HE.out,← HL.out]
      exact ⟨fun _=>Y5.out.made,fun e=>(by cases e)⟩
     go_wp2_with fail
     go_ret
     exact HP.out
theorem erase_any {w:World} {A:Option Addr} {n c:Nat} {L:List Ce} (x y:Int) (p:Pn) (h:Vs ceV w A n L) (hT:Tabs w) (hn:n≤1000000) :
  Calls Tryz.prog 81 #[.slice A n c,.int .i64 x,.int .i64 y,.agg (pnA p)] w (OpPost (eraseS L x y p) (rowMay L && penMayS p) w):=erase_at x y p h hT hn rfl rfl
end Go.Proofs.YtlcipgdnpilkfaaGreatDoor
