/-
  Part 28 of what the laws of emul want: EmulEra, EmulTake, EmulAct.
-/
import Derived.Lib.SliceRun
import Derived.Test.YtlcipgdnpilkfaaGreatDoorPo01
import Derived.Test.YtlcipgdnpilkfaaGreatDoorPo16
import Derived.Test.YtlcipgdnpilkfaaGreatDoorPo17
import Derived.Test.YtlcipgdnpilkfaaGreatDoorPo26
import Derived.Test.YtlcipgdnpilkfaaGreatDoorPo27
namespace Go.Proofs.YtlcipgdnpilkfaaGreatDoor
open Go.RowKit
section
variable {B:Nat} {w:World} {g:Nat} {x:CT} {A:Option Addr} {n c:Nat} {ps:List Int}
def stS (p a e:Int):Int × Int:=if p=0 then (a,e) else if p=1 then (0,a+1) else if p=2 then (0,e) else (0,0)
theorem num_get (l:List Int) (i:Nat):numP l i 0=l.getD i 0:=by unfold numP;split<;>simp_all
theorem stretch_any (p a e:Int) (ha:0≤a∧a≤100000) (w:World):Calls Tryz.prog 224 #[.int .i64 p,.int .i64 a,.int .i64 e] w fun r w'=>r=.returned (.tuple #[.int .i64 (stS p a e).1,.int .i64 (stS p a e).2])∧w'=w:=by
 have k0:wrap64 (a+1)=a+1:=by unfold wrap64;omega
 by_cases h0:p=0
 · subst h0
   go_enter Tryz.func224,Tryz.ntmps224
   go_wp2_with fail
   go_ret2
   exact ⟨rfl,rfl⟩
 by_cases h1:p=1
 · subst h1
   go_enter Tryz.func224,Tryz.ntmps224
   go_wp2_with fail
   go_ret2
   exact ⟨rfl,rfl⟩
 by_cases h2:p=2
 · subst h2
   go_enter Tryz.func224,Tryz.ntmps224
   go_wp2_with fail
   go_ret2
   exact ⟨rfl,rfl⟩
 have eS:stS p a e=(0,0):=by unfold stS;rw [if_neg h0,if_neg h1,if_neg h2]
 rw [eS]
 clear eS
 go_enter Tryz.func224,Tryz.ntmps224
 go_wp2_with fail
 go_ret2
 exact ⟨rfl,rfl⟩
theorem st_small {p a e:Int} (ha:0≤a∧a≤100000) (he:0≤e∧e≤100000):(0≤(stS p a e).1∧(stS p a e).1≤100001)∧(0≤(stS p a e).2∧(stS p a e).2≤100001):=by
 unfold stS
 split
 · show (0≤a∧a≤100001)∧(0≤e∧e≤100001);omega
 · split
   · show (0≤(0:Int)∧(0:Int)≤100001)∧(0≤a+1∧a+1≤100001);omega
   · split
     · show (0≤(0:Int)∧(0:Int)≤100001)∧(0≤e∧e≤100001);omega
     · show (0≤(0:Int)∧(0:Int)≤100001)∧(0≤(0:Int)∧(0:Int)≤100001);omega
theorem erase_row_st (ps:List Int) (t:Tm):Dd.eraseRow.run ps t=t.put (inRowS (fun l=>eraseS l (stS (ps.getD 0 0) t.now.x t.c).1 (stS (ps.getD 0 0) t.now.x t.c).2 t.now.pen) t.now.y t.shown):=by
 rw [← num_get]
 show (if numP ps 0 0=0 then _ else if numP ps 0 0=1 then _ else if numP ps 0 0=2 then _ else _)=_
 unfold stS
 split
 · rfl
 · split
   · rfl
   · split<;>rfl
theorem erase_screen_st (ps:List Int) (t:Tm):Dd.eraseScreen.run ps t=t.erased (stS (ps.getD 0 0) (t.now.y*t.c+t.now.x) (t.r*t.c:Nat)).1 (stS (ps.getD 0 0) (t.now.y*t.c+t.now.x) (t.r*t.c:Nat)).2:=by
 rw [← num_get]
 show (if numP ps 0 0=0 then _ else if numP ps 0 0=1 then _ else if numP ps 0 0=2 then _ else _)=_
 unfold stS
 split
 · rfl
 · split
   · rfl
   · split<;>rfl
set_option maxRecDepth 100000 in
set_option maxHeartbeats 1600000 in
theorem eraseRow_any (hT:Tabs w) (h:Cz B w g x) (hN:Nm w (CB g x) A n c ps):Calls Tryz.prog 176 #[.pointer (some ⟨g,0,none⟩),.slice A n c] w (CzP B g x (Dd.eraseRow.run ps x.t) w):=by
 have HZ:=Lib.hid h
 have HT:=Lib.hid hT
 have zx0:=h.ok.x0
 have zx1:=h.ok.x1
 have zc:=h.ok.c1
 have HR:=Lib.hid (row_any h)
 have HM:=Lib.hid hN
 have HA:=Lib.hid (show ∀ w',Below w.heap.size w w'→Calls Tryz.prog 220 #[.slice A n c,.int .i64 0] w' fun e w''=>e=.returned (.int .i64 (ps.getD 0 0))∧w''=w' from fun w' hb=>at_any (HM.out.below hb) 0 (by omega))
 rw [erase_row_st]
 generalize ps.getD 0 0=N at HA ⊢
 have HS:=Lib.hid (show ∀ w',Calls Tryz.prog 224 #[.int .i64 N,.int .i64 x.t.now.x,.int .i64 x.t.c] w' fun r w''=>r=.returned (.tuple #[.int .i64 (stS N x.t.now.x x.t.c).1,.int .i64 (stS N x.t.now.x x.t.c).2])∧w''=w' from fun w'=>stretch_any N x.t.now.x x.t.c (by have:=HZ.out.ok.gm.c80;omega) w')
 have HB0:=Lib.hid (show _ from st_small (p:=N) (a:=x.t.now.x) (e:=x.t.c) (by have:=HZ.out.ok.gm.c80;omega) (by have:=HZ.out.ok.gm.c80;omega))
 generalize (stS N x.t.now.x x.t.c).1=a at HS HB0 ⊢
 generalize (stS N x.t.now.x x.t.c).2=z at HS HB0 ⊢
 have HL:=Lib.hid (h.rowV)
 obtain ⟨F,hF⟩:∃ F:List Ce→List Ce,F=(fun l=>eraseS l a z x.t.now.pen):=⟨_,rfl⟩
 have HF:=Lib.hid (show (∀ l,(F l).length=l.length)∧(∀ l,RowOk l→RowOk (F l)) from by rw [hF];exact ⟨(fun _=>eraseS_length _ _ _ _),(fun _ hl=>erase_ok hl _ _ HZ.out.ok.pen.may)⟩)
 have HI:=Lib.hid (show ∀ w',Below w.heap.size w w'→Calls Tryz.prog 81 #[.slice (some ⟨x.sb,x.ro*6,none⟩) x.t.c x.t.c,.int .i64 a,.int .i64 z,.agg #[.int .u32 x.t.now.pen.fg,.int .u32 x.t.now.pen.bg,.int .u8 x.t.now.pen.st,.int .u16 x.t.now.pen.lk]] w' (OpPost (F (lAt x.t.shown x.t.now.y.toNat)) true w') from fun w' hb=>by
  have h1:=erase_any (c:=x.t.c) a z x.t.now.pen (HL.out.1.below hb) (HT.out.below hb (Nat.le_refl _)) (by omega)
  rw [(rowMay_iff _).2 HL.out.2.1,HZ.out.ok.pen.may] at h1
  rw [hF]
  exact h1)
 rw [← hF]
 clear hF h hT hN
 have HM2:=Lib.hid (show (F (lAt x.t.shown x.t.now.y.toNat)).length=x.t.c from by rw [HF.out.1];exact HL.out.2.2)
 have SX:=Lib.hid (show ∀ w1 w',Below w.heap.size w w1→Below w1.heap.size w1 w'→(Below B w w'∧(w'.cell? ⟨g,1,none⟩=some (.int .i64 x.t.now.x)∧w'.cell? ⟨g,3,none⟩=some (.int .u32 x.t.now.pen.fg)∧w'.cell? ⟨g,4,none⟩=some (.int .u32 x.t.now.pen.bg)∧w'.cell? ⟨g,5,none⟩=some (.int .u8 x.t.now.pen.st)∧w'.cell? ⟨g,6,none⟩=some (.int .u16 x.t.now.pen.lk))) from fun w1 w' hb hb'=>⟨(hb.trans (hb'.mono hb.size)).mono HZ.out.bB,(HZ.out.below (hb.trans (hb'.mono hb.size))).cell rfl,(HZ.out.below (hb.trans (hb'.mono hb.size))).pens⟩)
 have SY:=Lib.hid (show ∀ w1 w' w'',Below w.heap.size w w1→Below w1.heap.size w1 w'→w'.grownBy w'' (some x.sb)→(Below B w w''∧(w''.cell? ⟨g,1,none⟩=some (.int .i64 x.t.now.x)∧w''.cell? ⟨g,3,none⟩=some (.int .u32 x.t.now.pen.fg)∧w''.cell? ⟨g,4,none⟩=some (.int .u32 x.t.now.pen.bg)∧w''.cell? ⟨g,5,none⟩=some (.int .u8 x.t.now.pen.st)∧w''.cell? ⟨g,6,none⟩=some (.int .u16 x.t.now.pen.lk))) from fun w1 w' w'' hb hb' hg=>by
  obtain ⟨_,e1,e2,e3,e4,e5⟩:=SX.out w1 w' hb hb'
  have hne:(some g:Option Nat)≠some x.sb:=fun e=>HZ.out.sbB.2.1 (by injection e with e;exact e.symm)
  have hbb:=hb.trans (hb'.mono hb.size)
  exact ⟨(hbb.mono HZ.out.bB).grown hg (Nat.le_trans HZ.out.bB hbb.size) (fun k hk=>by injection hk with hk;rw [← hk];exact HZ.out.lo _ HZ.out.sbB.1),hg.cell e1 hne,hg.cell e2 hne,hg.cell e3 hne,hg.cell e4 hne,hg.cell e5 hne⟩)
 have HW:=Lib.hid (show ∀ w1 w' w'',Below w.heap.size w w1→Below w1.heap.size w1 w'→w'.grownBy w'' (some x.sb)→Rw ceV 66 w'' x.sb (x.t.shown.flatten.take x.ro ++ (F (lAt x.t.shown x.t.now.y.toNat) ++ x.t.shown.flatten.drop (x.ro+(F (lAt x.t.shown x.t.now.y.toNat)).length)))→CzTo B g x (x.t.put (inRowS F x.t.now.y x.t.shown)) w w'' { x with t:=x.t.put (inRowS F x.t.now.y x.t.shown) } from fun w1 w' w'' hb hb' hg hr=>((CzTo.refl HZ.out).below (hb.trans (hb'.mono hb.size))).trans ((HZ.out.below (hb.trans (hb'.mono hb.size))).rowOver HF.out.1 HF.out.2 hr hg))
 have HQ:=Lib.hid (show ∀ w1 w',Below w.heap.size w w1→Below w1.heap.size w1 w'→Rw ceV 66 w' x.sb x.t.shown.flatten from fun w1 w' hb hb'=>(HZ.out.below (hb.trans (hb'.mono hb.size))).srw.1)
 have HFit:=Lib.hid HZ.out.rowFits
 clear zx0 zx1 zc
 go_enter Tryz.func176,Tryz.ntmps176
 go_wp2_with fail
 refine HR.out.mono ?_
 rintro e w0 ⟨rfl,hb0⟩
 obtain ⟨_,e1,e3,e4,e5,e6⟩:=SX.out w0 w0 hb0 (Below.refl _ _)
 have HB0:=Lib.hid hb0
 clear hb0
 go_wp2_with fail
 go_quiet ((first | (go_at_call 220;exact Calls.quiet_of_same (HA.out _ (HB0.out.trans (Below.mono (belowN (Below.refl _ _) _) HB0.out.size)))) | (go_at_call 224;exact Calls.quiet_of_same (HS.out _))))
 generalize hw2:w0.drewN nq=w1
 have HB1:=Lib.hid (show Below w.heap.size w w1 from by rw [← hw2];exact HB0.out.trans (Below.mono (belowN (Below.refl _ _) _) HB0.out.size))
 clear hw2 e1 e3 e4 e5 e6 HB0
 obtain ⟨_,e1,e3,e4,e5,e6⟩:=SX.out w1 w1 HB1.out (Below.refl _ _)
 have hb0:Below w1.heap.size w1 w1.drew:=(Below.refl _ _).drew
 go_wp2_with fail
 refine (HI.out _ HB1.out).mono ?_
 rintro e w3 hP
 obtain ⟨hb3,g3,c3,he,hq3,hk3,hm3,hR3⟩:=hP.1 rfl
 rw [HM2.out] at he
 subst he
 clear hP
 have hb13:Below w1.heap.size w1 w3:=hb3.mono (Nat.le_refl _)
 go_wp2_with (refine wpList_copy_V rfl (.tmp 23) (.tmp 33) 24 24 rfl 66 ceV_len one_ce Tryz.underlying24 infoCe x.sb x.ro x.t.c x.t.c (some ⟨x.sb,x.ro*6,none⟩) (some ⟨g3,0,none⟩) x.t.c c3 rfl rfl 66 x.t.shown.flatten (F (lAt x.t.shown x.t.now.y.toNat)) (HQ.out w1 _ HB1.out hb13) (by rw [HM2.out];exact (Nat.min_self x.t.c).symm) hR3.vs (fun _=>rfl) (by rw [HM2.out];exact HFit.out.2.2.2.2.2) ?_)
 intro w5 hR5 hg5
 have ZZ:=Lib.hid (HW.out w1 _ w5 HB1.out hb13 hg5 hR5)
 clear hR5 hg5
 go_wp2_with fail
 go_end0
 exact ⟨rfl,_,ZZ.out⟩
set_option maxRecDepth 100000 in
set_option maxHeartbeats 1600000 in
theorem eraseScreen_any (hT:Tabs w) (h:Cz B w g x) (hN:Nm w (CB g x) A n c ps):Calls Tryz.prog 175 #[.pointer (some ⟨g,0,none⟩),.slice A n c] w (CzP B g x (Dd.eraseScreen.run ps x.t) w):=by
 have HZ:=Lib.hid h
 have HT:=Lib.hid hT
 have HM:=Lib.hid hN
 have HA:=Lib.hid (show ∀ w',Below w.heap.size w w'→Calls Tryz.prog 220 #[.slice A n c,.int .i64 0] w' fun e w''=>e=.returned (.int .i64 (ps.getD 0 0))∧w''=w' from fun w' hb=>at_any (HM.out.below hb) 0 (by omega))
 have HS0:=Lib.hid (shown_any h)
 obtain ⟨yy,hy,_⟩:=h.ok.rowAt
 have hro:x.t.now.y*(x.t.c:Int)=(x.ro:Int):=by unfold CT.ro;rw [hy,Int.toNat_natCast,Int.natCast_mul]
 have hsn:((x.t.r*x.t.c:Nat):Int)=(x.sN:Int):=by rw [h.srw.2.1]
 obtain ⟨q1,_,q3,_⟩:=h.rowFits
 have zx0:=h.ok.x0
 have zx1:=h.ok.x1
 rw [erase_screen_st,hro,hsn]
 generalize ps.getD 0 0=N at HA ⊢
 have HS:=Lib.hid (show ∀ w',Calls Tryz.prog 224 #[.int .i64 N,.int .i64 ((x.ro:Int)+x.t.now.x),.int .i64 x.sN] w' fun r w''=>r=.returned (.tuple #[.int .i64 (stS N ((x.ro:Int)+x.t.now.x) x.sN).1,.int .i64 (stS N ((x.ro:Int)+x.t.now.x) x.sN).2])∧w''=w' from fun w'=>stretch_any N _ _ (by omega) w')
 generalize (stS N ((x.ro:Int)+x.t.now.x) x.sN).1=a at HS ⊢
 generalize (stS N ((x.ro:Int)+x.t.now.x) x.sN).2=z at HS ⊢
 have v1:wrap64 (x.t.now.y*(x.t.c:Int))=(x.ro:Int):=by rw [hro];clear hro hsn;unfold wrap64;omega
 have w1:IntKind.i64.wrap (x.t.now.y*(x.t.c:Int))=(x.ro:Int):=by rw [hro];clear hro hsn v1;rw [IntKind.wrap_i64];omega
 have v2:wrap64 ((x.ro:Int)+x.t.now.x)=(x.ro:Int)+x.t.now.x:=by clear hro hsn v1 w1;unfold wrap64;omega
 have w2:IntKind.i64.wrap ((x.ro:Int)+x.t.now.x)=(x.ro:Int)+x.t.now.x:=by clear hro hsn v1 w1 v2;rw [IntKind.wrap_i64];omega
 have c1:w.cell? ⟨g,1,none⟩=some (.int .i64 x.t.now.x):=h.cell rfl
 have c2:w.cell? ⟨g,2,none⟩=some (.int .i64 x.t.now.y):=h.cell rfl
 obtain ⟨s0,s1,s2⟩:=h.sh
 clear hro hsn hy q1 q3 zx0 zx1 h hT hN
 go_enter Tryz.func175,Tryz.ntmps175
 go_wp2_with fail
 refine HS0.out.mono ?_
 rintro e wa ⟨rfl,hwa⟩
 obtain rfl:=hwa.symm
 clear hwa
 go_wp2_with fail
 go_quiet ((first | (go_at_call 220;exact Calls.quiet_of_same (HA.out _ (belowN (Below.refl _ _) _))) | (go_at_call 224;exact Calls.quiet_of_same (HS.out _))))
 generalize hw1:w.drewN nq=wo
 have HB1:=Lib.hid (show Below w.heap.size w wo from by rw [← hw1];exact belowN (Below.refl _ _) _)
 clear hw1 c1 c2 s0 s1 s2 v1 v2 w1 w2 HA HS HS0
 have KW:=Lib.hid ((CzTo.refl HZ.out).below HB1.out)
 have HZ:=Lib.hid KW.out.cz
 have HT:=Lib.hid (HT.out.below HB1.out (Nat.le_refl _))
 have HD:=Lib.hid (show Below wo.heap.size wo wo.drew from (Below.refl _ _).drew)
 have HC:=Lib.hid (show Calls Tryz.prog 225 #[.agg (gV x.t.c x.t.r (some ⟨x.sb,0,none⟩) x.sN x.sK),.int .i64 a,.int .i64 z,.agg (pnA x.t.now.pen)] wo.drew (GPost (some (x.t.c,x.t.r,clearS x.t.c x.t.shown a z x.t.now.pen)) wo.drew) from by
  obtain ⟨h1,h2,h3⟩:=(HZ.out.below HD.out).sv
  have h4:=gClear_any (c:=(x.t.c:Int)) (r:=(x.t.r:Int)) a z x.t.now.pen h1 (HT.out.below HD.out (Nat.le_refl _)) h2 (by omega)
  rw [HZ.out.opG] at h4
  exact h4)
 have HG:=Lib.hid (clear_ok HZ.out.ok.shown a z HZ.out.ok.pen.may)
 obtain ⟨s0,s1,s2⟩:=HZ.out.sh
 obtain ⟨c3,c4,c5,c6⟩:=HZ.out.pens
 unfold gV pnA at HC
 go_wp2_with fail
 refine wp_region_noPanic ?_
 refine wp_region_held_drew (S:=fun w'=>Below B wo w'∧w'.cell? ⟨g,3,none⟩=some (.int .u32 x.t.now.pen.fg)∧w'.cell? ⟨g,4,none⟩=some (.int .u32 x.t.now.pen.bg)∧w'.cell? ⟨g,5,none⟩=some (.int .u8 x.t.now.pen.st)∧w'.cell? ⟨g,6,none⟩=some (.int .u16 x.t.now.pen.lk)) (by kernel_rfl) (⟨(Below.refl _ _).drew,c3,c4,c5,c6⟩) (fun hHeld=>?_)
 clear c3 c4 c5 c6
 have s0:wo.drew.cell? ⟨g,x.so,none⟩=some (.int .i64 x.t.c):=s0
 have s1:wo.drew.cell? ⟨g,x.so+1,none⟩=some (.int .i64 x.t.r):=s1
 have s2:wo.drew.cell? ⟨g,x.so+2,none⟩=some (.slice (some ⟨x.sb,0,none⟩) x.sN x.sK):=s2
 generalize wo.drew=w2 at HC HD hHeld s0 s1 s2 ⊢
 refine tkH 0 (.pointer (some ⟨g,x.so,none⟩)) rfl (.inl ⟨by rfl,fun wz hSz=>?_⟩) hHeld ?_
 · go_simp
 simp only [Act.put,List.getElem_toArray,List.getElem_cons_zero,List.setIfInBounds_toArray,List.set_cons_succ,List.set_cons_zero]
 refine tkH 1 (.pointer (some ⟨g,x.so,none⟩)) rfl (.inl ⟨by rfl,fun wz hSz=>?_⟩) hHeld ?_
 · go_simp
 simp only [Act.put,List.getElem_toArray,List.getElem_cons_succ,List.getElem_cons_zero,List.setIfInBounds_toArray,List.set_cons_succ,List.set_cons_zero]
 refine tkH 2 (.pointer (some ⟨g,x.so,none⟩)) rfl (.inl ⟨by rfl,fun wz hSz=>?_⟩) hHeld ?_
 · go_simp
 simp only [Act.put,List.getElem_toArray,List.getElem_cons_succ,List.getElem_cons_zero,List.setIfInBounds_toArray,List.set_cons_succ,List.set_cons_zero]
 refine tkH 4 (.int .i64 a) rfl (.inl ⟨by rfl,fun wz hSz=>?_⟩) hHeld ?_
 · go_simp
 simp only [Act.put,List.getElem_toArray,List.getElem_cons_succ,List.getElem_cons_zero,List.setIfInBounds_toArray,List.set_cons_succ,List.set_cons_zero]
 refine tkH 5 (.int .i64 z) rfl (.inl ⟨by rfl,fun wz hSz=>?_⟩) hHeld ?_
 · go_simp
 simp only [Act.put,List.getElem_toArray,List.getElem_cons_succ,List.getElem_cons_zero,List.setIfInBounds_toArray,List.set_cons_succ,List.set_cons_zero]
 refine tkH 6 (.pointer (some ⟨g,0,none⟩)) rfl (.inl ⟨by rfl,fun wz hSz=>?_⟩) hHeld ?_
 · go_simp
 simp only [Act.put,List.getElem_toArray,List.getElem_cons_succ,List.getElem_cons_zero,List.setIfInBounds_toArray,List.set_cons_succ,List.set_cons_zero]
 refine tkH 7 (.pointer (some ⟨g,0,none⟩)) rfl (.inl ⟨by rfl,fun wz hSz=>?_⟩) hHeld ?_
 · go_simp
 simp only [Act.put,List.getElem_toArray,List.getElem_cons_succ,List.getElem_cons_zero,List.setIfInBounds_toArray,List.set_cons_succ,List.set_cons_zero]
 refine tkH 8 (.pointer (some ⟨g,1,none⟩)) rfl (.inl ⟨by rfl,fun wz hSz=>?_⟩) hHeld ?_
 · go_simp
 simp only [Act.put,List.getElem_toArray,List.getElem_cons_succ,List.getElem_cons_zero,List.setIfInBounds_toArray,List.set_cons_succ,List.set_cons_zero]
 refine tkH 9 (.pointer (some ⟨g,1,none⟩)) rfl (.inl ⟨by rfl,fun wz hSz=>?_⟩) hHeld ?_
 · go_simp
 simp only [Act.put,List.getElem_toArray,List.getElem_cons_succ,List.getElem_cons_zero,List.setIfInBounds_toArray,List.set_cons_succ,List.set_cons_zero]
 refine tkH 10 (.pointer (some ⟨g,3,none⟩)) rfl (.inl ⟨by rfl,fun wz hSz=>?_⟩) hHeld ?_
 · go_simp
 simp only [Act.put,List.getElem_toArray,List.getElem_cons_succ,List.getElem_cons_zero,List.setIfInBounds_toArray,List.set_cons_succ,List.set_cons_zero]
 refine tkH 11 (.agg #[.int .u32 x.t.now.pen.fg,.int .u32 x.t.now.pen.bg,.int .u8 x.t.now.pen.st,.int .u16 x.t.now.pen.lk]) rfl (.inl ⟨by rfl,fun wz hSz=>?_⟩) hHeld ?_
 · obtain ⟨_,d3,d4,d5,d6⟩:=hSz
   go_simp
 simp only [Act.put,List.getElem_toArray,List.getElem_cons_succ,List.getElem_cons_zero,List.setIfInBounds_toArray,List.set_cons_succ,List.set_cons_zero]
 refine wpAnyH_ready (rs:=[3]) (by kernel_rfl) (by simp) (AllReadyH.cons rfl (fun K hK=>?_) AllReadyH.nil)
 rw [if_pos (by rfl)]
 go_simp
 refine hK.out _ _ (hHeld) (fun hHeld=>?_)
 clear hK K
 try simp only [Act.put,List.getElem_toArray,List.getElem_cons_succ,List.getElem_cons_zero]
 try simp only [List.setIfInBounds_toArray]
 try simp only [List.set_cons_succ]
 try simp only [List.set_cons_zero]
 refine wpAnyH_ready (rs:=[12]) (by kernel_rfl) (by simp) (AllReadyH.cons rfl (fun K hK=>?_) AllReadyH.nil)
 rw [if_pos (by rfl)]
 go_simp
 refine HC.out.mono ?_
 rintro e w3 hP
 obtain ⟨hb,q,k,he,hq,hk,hm,hR⟩:=hP.1 _ _ _ rfl
 have hl:(clearS x.t.c x.t.shown a z x.t.now.pen).flatten.length=x.sN:=HG.out.box.flen.trans HZ.out.srw.2.1.symm
 rw [hl] at he hk
 subst he
 have hb3:=HD.out.trans (hb.mono HD.out.size)
 have X:=Lib.hid (HZ.out.newGrid (LL:=clearS x.t.c x.t.shown a z x.t.now.pen) hb3 (Nat.le_trans HD.out.size hq) hR HG.out hl hk hm)
 have Z:=HZ.out.below hb3
 have h3:=Lib.hid (And.intro (hb3.mono HZ.out.bB) Z)
 clear hb hb3 hq hk hm hR hP hl s0 s1 s2
 obtain ⟨s0,s1,s2⟩:=Z.sh
 have f0:=Z.fr x.so
 have f1:=Z.fr (x.so+1)
 have f2:=Z.fr (x.so+2)
 clear Z
 unfold gV
 refine hK.out _ _ (⟨h3.out.1,h3.out.2.cell rfl,h3.out.2.cell rfl,h3.out.2.cell rfl,h3.out.2.cell rfl⟩) (fun hHeld=>?_)
 clear hK K
 try simp only [Act.put,List.getElem_toArray,List.getElem_cons_succ,List.getElem_cons_zero]
 try simp only [List.setIfInBounds_toArray]
 try simp only [List.set_cons_succ]
 try simp only [List.set_cons_zero]
 refine tkH 13 (.pointer (some ⟨g,x.so,none⟩)) rfl (.inl ⟨by rfl,fun wz hSz=>?_⟩) hHeld ?_
 · go_simp
 simp only [Act.put,List.getElem_toArray,List.getElem_cons_succ,List.getElem_cons_zero,List.setIfInBounds_toArray,List.set_cons_succ,List.set_cons_zero]
 refine wpAnyH_ready (rs:=[14]) (by kernel_rfl) (by simp) (AllReadyH.cons rfl (fun K hK=>?_) AllReadyH.nil)
 rw [if_pos (by rfl)]
 go_simp
 refine hK.out _ _ (by have h:=X.out.cz.pens;rw [CT.wit_now] at h;exact ⟨X.out.out.bel,h⟩) (fun hHeld=>?_)
 clear hK K
 try simp only [Act.put,List.getElem_toArray,List.getElem_cons_succ,List.getElem_cons_zero]
 try simp only [List.setIfInBounds_toArray]
 try simp only [List.set_cons_succ]
 try simp only [List.set_cons_zero]
 refine wpAnyH_done (by kernel_rfl) ?_ _
 refine NoPanic.normal ?_
 go_end0
 exact ⟨rfl,_,KW.out.trans X.out⟩
end
open Go.RowKit
section
variable {B:Nat} {w:World} {g:Nat} {x:CT} {A:Option Addr} {n c:Nat} {ps:List Int}
theorem ctV_tabs0 (x:CT) (h:x.t.tabs.length=80):(ctV x).take 29 ++ (List.replicate 80 (Value.bool false) ++ (ctV x).drop (29+80))=ctV { x with t:={ x.t with tabs:=List.replicate 80 false } }:=by
 have hH:(ctH x).length=29:=rfl
 have e1:(ctV x).take 29=ctH x:=by rw [ctV_is,← hH];exact List.take_left
 have hm:(x.t.tabs.map Value.bool).length=80:=by rw [List.length_map];exact h
 have e2:(ctV x).drop (29+80)=ctT x:=by
  rw [ctV_is,← hH,← List.drop_drop,List.drop_left,← hm]
  exact List.drop_left
 rw [e1,e2,ctV_is,← List.map_replicate]
 rfl
theorem Cz.tabs0 (h:Cz B w g x):CzTo B g x { x.t with tabs:=List.replicate 80 false } w (w.setCells g 29 (List.replicate 80 (.bool false))) { x with t:={ x.t with tabs:=List.replicate 80 false } }:=by
 have h80:=h.ok.tabs
 have R:=h.raw.sets 29 (List.replicate 80 (.bool false)) (by rw [List.length_replicate,ctV_len h80];omega)
 rw [List.length_replicate,ctV_tabs0 x h80] at R
 exact R.fin h (y:={ x with t:={ x.t with tabs:=List.replicate 80 false } }) rfl ⟨rfl,rfl,rfl,rfl,rfl,rfl,rfl,rfl,rfl,rfl,rfl,rfl,rfl,rfl,rfl,rfl,rfl,h.tl⟩ { h.ok with tabs:=by simp }
theorem Cz.clears (h:Cz B w g x) (ty:TypeId):(Builtin.clear_ #[206] ty #[.slice (some ⟨g,29,none⟩) 80 80]).run Tryz.prog w=.ok (.tuple #[]) (w.setCells g 29 (List.replicate 80 (.bool false))):=by
 have h80:=h.ok.tabs
 refine Lib.run_clear_slice w _ 4 ty (.bool false) Tryz.underlying206 (fun _=>by kernel_rfl) rfl rfl g 29 80 80 (by omega) (fun j hj=>?_) (fun j _=>h.fr _)
 rw [h.cell (ctV_tab (by rw [h80];exact hj))]
 rfl
set_option maxRecDepth 100000 in
set_option maxHeartbeats 1600000 in
theorem takeTabs_any (h:Cz B w g x) (hN:Nm w (CB g x) A n c ps):Calls Tryz.prog 170 #[.pointer (some ⟨g,0,none⟩),.slice A n c] w (CzP B g x (Dd.takeTabs.run ps x.t) w):=by
 have HA:=Lib.hid (at_any hN 0 (by omega))
 have HZ:=Lib.hid h
 have e0:=num_get ps 0
 show Calls _ _ _ _ (CzP B g x (if numP ps 0 0=0 then { x.t with tabs:=x.t.tabs.set x.t.now.x.toNat false } else if numP ps 0 0=3 then { x.t with tabs:=List.replicate 80 false } else x.t) w)
 rw [e0]
 clear e0
 generalize ps.getD 0 0=N at HA ⊢
 by_cases hN0:N=0
 · subst hN0
   rw [if_pos rfl]
   obtain ⟨i,hi⟩:∃ i:Nat,x.t.now.x=(i:Int):=⟨x.t.now.x.toNat,by have:=h.ok.x0;omega⟩
   have hl:i<x.t.tabs.length:=by have:=h.ok.tabs;have:=h.ok.x1;have:=h.ok.c1;omega
   have hl80:i<80:=by rw [← h.ok.tabs];exact hl
   have HD:=Lib.hid (show Below w.heap.size w w.drew from (Below.refl _ _).drew)
   have X:=Lib.hid (show CzTo B g x { x.t with tabs:=x.t.tabs.set i false } w (w.drew.setCell ⟨g,29+i,none⟩ (.bool false)) { x with t:={ x.t with tabs:=x.t.tabs.set i false } } from ((h.raw.below HD.out).set (29+i) (.bool false)).fin h (y:={ x with t:={ x.t with tabs:=x.t.tabs.set i false } }) (ctV_setTab x false hl) ⟨rfl,rfl,rfl,rfl,rfl,rfl,rfl,rfl,rfl,rfl,rfl,rfl,rfl,rfl,rfl,rfl,rfl,h.tl⟩ { h.ok with tabs:=by rw [List.length_set];exact h.ok.tabs })
   have c1:w.cell? ⟨g,1,none⟩=some (.int .i64 x.t.now.x):=h.cell rfl
   rw [hi] at c1
   have et:=h.cell (ctV_tab hl)
   have e1:w.drew.cell? ⟨g,29+i,none⟩=some (.bool (x.t.tabs.getD i false)):=et
   have f1:w.drew.frozen? ⟨g,29+i,none⟩=false:=h.fr (29+i)
   have i0:(0:Int)≤(i:Int):=by omega
   have i1:(i:Int)<80:=by omega
   rw [show x.t.now.x.toNat=i by rw [hi];rfl]
   generalize x.t.tabs.getD i false=bt at e1 et
   clear h hi hl hl80 et hN
   go_enter Tryz.func170,Tryz.ntmps170
   go_wp2_with fail
   refine HA.out.mono ?_
   rintro e wa ⟨rfl,hwa⟩
   obtain rfl:=hwa.symm
   clear hwa
   go_wp2_with fail
   go_still_tail 11,(by kernel_rfl)
   change wpList _ _ _ _ _ w.drew
   generalize w.drew=w2 at X e1 f1 ⊢
   go_wp2_with fail
   go_end0
   exact ⟨rfl,_,X.out⟩
 rw [if_neg hN0]
 by_cases h3:N=3
 · subst h3
   rw [if_pos rfl]
   have X:=Lib.hid h.tabs0
   have hcl:=h.clears
   clear h hN
   go_enter Tryz.func170,Tryz.ntmps170
   go_wp2_with fail
   refine HA.out.mono ?_
   rintro e wa ⟨rfl,hwa⟩
   obtain rfl:=hwa.symm
   clear hwa
   go_wp2_with fail
   go_end0
   exact ⟨rfl,_,X.out⟩
 · rw [if_neg h3]
   clear h hN
   go_enter Tryz.func170,Tryz.ntmps170
   go_wp2_with fail
   refine HA.out.mono ?_
   rintro e wa ⟨rfl,hwa⟩
   obtain rfl:=hwa.symm
   clear hwa
   go_wp2_with fail
   go_end0
   exact ⟨rfl,_,CzTo.refl HZ.out⟩
end
open Go.RowKit
section
variable {B:Nat} {w:World} {g:Nat} {x:CT} {A:Option Addr} {n c:Nat} {ps:List Int}
theorem newCell (w:World) (cs:Array Value) (t:TypeId) (k:Nat) {v:Value} (h:cs[k]?=some v):(w.alloc (.cells cs t)).cell? ⟨w.heap.size,k,none⟩=some v:=by
 have hb:(w.alloc (.cells cs t)).heap[w.heap.size]?=some (.cells cs t):=heap_alloc_new w _
 rw [cell_of_row _ _ k _ _ _ hb]
 exact h
def endsS (a:AcS):Bool:=if a.k=2 then true else if a.k=3 then true else if a.k=4 then decide (a.m≠0∨(a.fin≠109∧a.fin≠98)) else false
set_option maxRecDepth 100000 in
theorem endsFull_any (y:AcR) (w:World):Calls Tryz.prog 49 #[.agg (acA y)] w fun e w'=>e=.returned (.bool (endsS y.a))∧Below w.heap.size w w':=by
 obtain ⟨a,P,np,cp,T,nt,ct⟩:=y
 obtain ⟨k,r,m,f,ps,tx⟩:=a
 have HB:=Lib.hid (show Below w.heap.size w (w.alloc (.cells (acA ⟨⟨k,r,m,f,ps,tx⟩,P,np,cp,T,nt,ct⟩) 62)) from (Below.refl _ _).alloc (Nat.le_refl _) _)
 unfold acA at HB ⊢
 unfold endsS
 simp only at HB ⊢
 by_cases h2:k=2
 · subst h2
   go_enter Tryz.func49,Tryz.ntmps49
   go_wp2_with fail
   go_ret
   exact ⟨rfl,HB.out⟩
 by_cases h3:k=3
 · subst h3
   go_enter Tryz.func49,Tryz.ntmps49
   go_wp2_with fail
   go_ret
   exact ⟨rfl,HB.out⟩
 rw [if_neg h2,if_neg h3]
 by_cases h4:k=4
 · subst h4
   rw [if_pos rfl]
   by_cases hm:m=0
   · subst hm
     by_cases h109:f=109
     · subst h109
       go_enter Tryz.func49,Tryz.ntmps49
       go_wp2_with fail
       go_ret
       exact ⟨rfl,HB.out⟩
     by_cases h98:f=98
     · subst h98
       go_enter Tryz.func49,Tryz.ntmps49
       go_wp2_with fail
       go_ret
       exact ⟨rfl,HB.out⟩
     rw [show decide ((0:Int)≠0∨(f≠109∧f≠98))=true from decide_eq_true (.inr ⟨h109,h98⟩)]
     have g1:(f != 109)=true:=bne_iff_ne.2 h109
     have g2:(f != 98)=true:=bne_iff_ne.2 h98
     go_enter Tryz.func49,Tryz.ntmps49
     go_wp2_with fail
     go_ret
     exact ⟨rfl,HB.out⟩
   · rw [show decide (m≠0∨(f≠109∧f≠98))=true from decide_eq_true (.inl hm)]
     have g1:(m != 0)=true:=bne_iff_ne.2 hm
     go_enter Tryz.func49,Tryz.ntmps49
     go_wp2_with fail
     go_ret
     exact ⟨rfl,HB.out⟩
 rw [if_neg h4]
 go_enter Tryz.func49,Tryz.ntmps49
 go_wp2_with fail
 go_ret
 exact ⟨rfl,HB.out⟩
set_option maxRecDepth 100000 in
theorem mayActs_any (y:AcR) (hI:Ik .i64 w y.P y.np y.a.ps) (ht:y.a.tx.length=y.nt) (hnp:y.np≤4611686018427387904):Calls Tryz.prog 48 #[.agg (acA y)] w fun e w'=>e=.returned (.bool (mayAct y.a))∧Below w.heap.size w w':=by
 obtain ⟨a,P,np,cp,T,nt,ct⟩:=y
 obtain ⟨kk,r,m,f,ps,tx⟩:=a
 obtain ⟨W,hW⟩:∃ W,W=w.alloc (.cells (acA ⟨⟨kk,r,m,f,ps,tx⟩,P,np,cp,T,nt,ct⟩) 62):=⟨_,rfl⟩
 have HB:=Lib.hid (show Below w.heap.size w W from by rw [hW];exact (Below.refl _ _).alloc (Nat.le_refl _) _)
 have HI:=Lib.hid (show Ik .i64 W P np ps from hI.below HB.out)
 have hlen:=hI.len
 have a4:W.cell? ⟨w.heap.size,4,none⟩=some (.slice P np cp):=by rw [hW];exact newCell w _ _ 4 rfl
 have a5:W.cell? ⟨w.heap.size,5,none⟩=some (.slice T nt ct):=by rw [hW];exact newCell w _ _ 5 rfl
 unfold acA at hW ⊢
 simp only at hW ⊢
 clear hI
 have ht:tx.length=nt:=ht
 have hnp:np≤4611686018427387904:=hnp
 go_enter Tryz.func48,Tryz.ntmps48
 go_wp2_with fail
 rw [← hW]
 clear hW
 go_loopw [8] (fun i wr=>wr=W∧∃ k:Nat,k≤np∧i=.int .i64 k∧∀ j,j<k→0≤ps.getD j 0∧ps.getD j 0≤9999) (fun i _=>np-(intOf i).toNat)
 case atStart=>exact ⟨rfl,0,Nat.zero_le _,rfl,fun j hj=>absurd hj (by omega)⟩
 case round =>
  obtain ⟨rfl,k,hk,rfl,hall⟩:=hrel
  have HALL:=Lib.hid hall
  clear hall
  by_cases hlt:k<np
  · obtain ⟨ad,rfl,_,hcl⟩:=HI.out.at_ (by omega)
    have hcell:=hcl k hlt
    clear hcl
    have k1:(k:Int)<(np:Int):=by omega
    obtain ⟨z,hz⟩:∃ z,ps.getD k 0=z:=⟨_,rfl⟩
    rw [hz] at hcell
    by_cases hr:0≤z∧z≤9999
    · obtain ⟨hr0,hr1⟩:=hr
      have g0:¬ z<0:=by omega
      have g1:¬ 9999<z:=by omega
      go_wp2_with fail
      go_roundw
      case rel=>exact ⟨trivial,k+1,by omega,by go_num,fun j hj=>by
       by_cases e:j=k
       · rw [e,hz];exact ⟨hr0,hr1⟩
       · exact HALL.out j (by omega)⟩
      case measure=>simp [intOf];omega
    · have HN:=Lib.hid (show mayAct ⟨kk,r,m,f,ps,tx⟩=false from by
       unfold mayAct
       have:ps.all (fun z=>decide (0≤z) && decide (z≤9999))=false:=by
        rw [List.all_eq_false]
        refine ⟨z,?_,by simp;omega⟩
        rw [← hz,getD_lt (by rw [hlen];exact hlt)]
        exact List.getElem_mem _
       show (decide (ps.length≤16) && decide (tx.length≤256) && ps.all (fun z=>decide (0≤z) && decide (z≤9999)))=false
       rw [this,Bool.and_false])
      clear hz
      by_cases g0:z<0
      · go_wp2_with fail
        go_ret
        exact ⟨by rw [HN.out];rfl,HB.out⟩
      · have g1:9999<z:=by omega
        go_wp2_with fail
        go_ret
        exact ⟨by rw [HN.out];rfl,HB.out⟩
  · obtain rfl:k=np:=by omega
    have HE:=Lib.hid (show mayAct ⟨kk,r,m,f,ps,tx⟩=(decide ((k:Int)≤16) && decide ((nt:Int)≤256)) from by
     show (decide (ps.length≤16) && decide (tx.length≤256) && ps.all (fun z=>decide (0≤z) && decide (z≤9999)))=_
     have h1:ps.all (fun z=>decide (0≤z) && decide (z≤9999))=true:=by
      rw [List.all_eq_true]
      intro z hz
      obtain ⟨j,hj,e⟩:=List.getElem_of_mem hz
      have:=HALL.out j (by omega)
      rw [getD_lt hj,e] at this
      simp;exact this
     rw [h1,Bool.and_true,hlen,ht]
     congr 1<;>(apply decide_eq_decide.2;omega))
    clear HALL
    by_cases g1:(k:Int)≤16
    · by_cases g2:(nt:Int)≤256
      · rw [decide_eq_true g1,decide_eq_true g2] at HE
        go_wp2_with fail
        go_ret
        exact ⟨by rw [HE.out];rfl,HB.out⟩
      · rw [decide_eq_true g1,decide_eq_false g2] at HE
        go_wp2_with fail
        go_ret
        exact ⟨by rw [HE.out];rfl,HB.out⟩
    · rw [decide_eq_false g1] at HE
      go_wp2_with fail
      go_ret
      exact ⟨by rw [HE.out];rfl,HB.out⟩
end
end Go.Proofs.YtlcipgdnpilkfaaGreatDoor
