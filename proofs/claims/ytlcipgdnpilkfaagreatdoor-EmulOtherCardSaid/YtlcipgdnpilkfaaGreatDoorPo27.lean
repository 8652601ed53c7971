/-
  Part 27 of what the laws of emul want: EmulRow.
-/
import Derived.Test.YtlcipgdnpilkfaaGreatDoorPo06
import Derived.Test.YtlcipgdnpilkfaaGreatDoorPo07
import Derived.Test.YtlcipgdnpilkfaaGreatDoorPo22
namespace Go.Proofs.YtlcipgdnpilkfaaGreatDoor
open Go.RowKit
section
variable {B:Nat} {w:World} {g:Nat} {x:CT} {A:Option Addr} {n c:Nat} {ps:List Int}
def CT.ro (x:CT):Nat:=x.t.now.y.toNat*x.t.c
theorem Cz.rowFits (h:Cz B w g x):x.ro+x.t.c≤x.sN∧x.sN≤x.sK∧x.sN≤1920∧1≤x.t.c∧x.t.c≤80∧x.ro+x.t.c≤x.t.shown.flatten.length:=by
 obtain ⟨y,hy,hl⟩:=h.ok.rowAt
 obtain ⟨_,h2,h3,_,h5⟩:=h.srw
 have h6:=h.ok.shown.small
 have h7:=h.ok.gm.c1
 have h8:=h.ok.gm.c80
 have h9:=row_fits (c:=x.t.c) hl
 unfold CT.ro
 rw [hy,Int.toNat_natCast]
 omega
set_option maxRecDepth 100000 in
set_option maxHeartbeats 1600000 in
theorem row_any (h:Cz B w g x):Calls Tryz.prog 101 #[.pointer (some ⟨g,0,none⟩)] w fun e w'=>e=.returned (.slice (some ⟨x.sb,x.ro*6,none⟩) x.t.c x.t.c)∧Below w.heap.size w w':=by
 have HS:=Lib.hid (shown_any h)
 obtain ⟨y,hy,hl⟩:=h.ok.rowAt
 obtain ⟨q1,q2,q3,q4,q5,_⟩:=h.rowFits
 obtain ⟨a,ha⟩:∃ a:Nat,x.ro=a:=⟨_,rfl⟩
 rw [ha] at q1 ⊢
 have ha2:y*x.t.c=a:=by rw [← ha];unfold CT.ro;rw [hy,Int.toNat_natCast]
 have k1:(a:Int)≤((a+x.t.c:Nat):Int):=by omega
 have k2:((a+x.t.c:Nat):Int)≤(x.sK:Int):=by omega
 have k3:¬ (x.sK=a):=by omega
 have k4:a+x.t.c≤x.sK:=by omega
 have y24:(y:Int)<24:=by have:=h.ok.gm.r24;omega
 have b2:(a:Int)+(x.t.c:Int)≤1920:=by omega
 have h1:(y:Int)*(x.t.c:Int)=(a:Int):=by rw [← Int.natCast_mul,ha2]
 have h2:((y:Int)+1)*(x.t.c:Int)=((a+x.t.c:Nat):Int):=by rw [Int.add_mul,h1];omega
 have w1:IntKind.i64.wrap ((y:Int)*(x.t.c:Int))=(a:Int):=by rw [h1];clear h1 h2;rw [IntKind.wrap_i64];omega
 have v1:wrap64 ((y:Int)*(x.t.c:Int))=(a:Int):=by rw [h1];clear h1 h2 w1;unfold wrap64;omega
 have w3:IntKind.i64.wrap (((y:Int)+1)*(x.t.c:Int))=((a+x.t.c:Nat):Int):=by rw [h2];clear h1 h2 w1 v1;rw [IntKind.wrap_i64];omega
 have v3:wrap64 (((y:Int)+1)*(x.t.c:Int))=((a+x.t.c:Nat):Int):=by rw [h2];clear h1 h2 w1 v1 w3;unfold wrap64;omega
 have w2:IntKind.i64.wrap ((y:Int)+1)=(y:Int)+1:=by clear h1 h2 w1 v1 w3 v3;rw [IntKind.wrap_i64];omega
 have v2:wrap64 ((y:Int)+1)=(y:Int)+1:=by clear h1 h2 w1 v1 w3 v3 w2;unfold wrap64;omega
 obtain ⟨s0,s1,s2⟩:=h.sh
 have c2:w.cell? ⟨g,2,none⟩=some (.int .i64 x.t.now.y):=h.cell rfl
 rw [hy] at c2
 have HZ:=Lib.hid h
 clear h hy hl ha ha2 q1 q2 q3 h1 h2 y24 b2
 go_enter Tryz.func101,Tryz.ntmps101
 go_wp2_with fail
 refine HS.out.mono ?_
 rintro e w1 ⟨rfl,hw1⟩
 obtain rfl:=hw1.symm
 clear hw1
 go_wp2_with fail
 go_quiet (fail)
 go_wp2_with fail
 generalize hw2:w.drewN nq=w2
 have hb2:Below w.heap.size w w2:=by rw [← hw2];exact belowN (Below.refl _ _) _
 clear hw2 s0 s1 s2 c2
 obtain ⟨s0,s1,s2⟩:=(HZ.out.below hb2).sh
 have HB:=Lib.hid hb2
 clear hb2
 go_wp2_with fail
 go_ret
 exact ⟨(by show Ending.returned (.slice _ (a+x.t.c-a) (a+x.t.c-a))=_;rw [Nat.add_sub_cancel_left]),HB.out⟩
theorem Cz.rowV (h:Cz B w g x):Vs ceV w (some ⟨x.sb,x.ro*6,none⟩) x.t.c (lAt x.t.shown x.t.now.y.toNat)∧RowOk (lAt x.t.shown x.t.now.y.toNat)∧(lAt x.t.shown x.t.now.y.toNat).length=x.t.c:=by
 obtain ⟨y,hy,hl⟩:=h.ok.rowAt
 obtain ⟨q1,_⟩:=h.rowFits
 have hg:=h.ok.shown
 have h1:=h.sv.1.seg (a:=x.ro) (c:=x.t.c) q1
 have e:(⟨x.sb,0,none⟩:Addr).add (x.ro*6)=⟨x.sb,x.ro*6,none⟩:=addH _ _
 rw [e] at h1
 rw [hy,Int.toNat_natCast]
 have e2:(x.t.shown.flatten.drop x.ro).take x.t.c=lAt x.t.shown y:=by
  unfold CT.ro
  rw [hy,Int.toNat_natCast]
  exact rowAt_flat hg.box hl
 rw [e2] at h1
 exact ⟨h1,hg.ok y hl,hg.box.row y hl⟩
theorem Cz.rowOver (h:Cz B w g x) {F:List Ce→List Ce} (hF:∀ l,(F l).length=l.length) (ho:∀ l,RowOk l→RowOk (F l)) {w':World} (hr:Rw ceV 66 w' x.sb (x.t.shown.flatten.take x.ro ++ (F (lAt x.t.shown x.t.now.y.toNat) ++ x.t.shown.flatten.drop (x.ro+(F (lAt x.t.shown x.t.now.y.toNat)).length)))) (hg:w.grownBy w' (some x.sb)) :
  CzTo B g x (x.t.put (inRowS F x.t.now.y x.t.shown)) w w' { x with t:=x.t.put (inRowS F x.t.now.y x.t.shown) }:=by
 obtain ⟨y,hy,hl⟩:=h.ok.rowAt
 have hk:=h.ok.shown
 have hlen:=h.rowV.2.2
 refine h.written hg ?_ (inRow_ok hk hF ho _)
 have e:(inRowS F x.t.now.y x.t.shown).flatten=x.t.shown.flatten.take x.ro ++ (F (lAt x.t.shown x.t.now.y.toNat) ++ x.t.shown.flatten.drop (x.ro+(F (lAt x.t.shown x.t.now.y.toNat)).length)):=by
  unfold CT.ro
  rw [hy] at hlen ⊢
  rw [Int.toNat_natCast] at hlen ⊢
  rw [inRow_yes (by rw [hk.box.len];exact hl),← over_flat hk.box hl (by rw [hF];exact hlen)]
  rfl
 rw [e]
 exact hr
set_option maxRecDepth 100000 in
set_option maxHeartbeats 1600000 in
theorem insertT_any (hT:Tabs w) (h:Cz B w g x) (hN:Nm w (CB g x) A n c ps):Calls Tryz.prog 172 #[.pointer (some ⟨g,0,none⟩),.slice A n c] w (CzP B g x (Dd.insert.run ps x.t) w):=by
 have HZ:=Lib.hid h
 have HT:=Lib.hid hT
 have HM:=Lib.hid hN
 have n1:=hN.one 0
 have zx0:=h.ok.x0
 have zx1:=h.ok.x1
 have zc:=h.ok.c1
 have HR:=Lib.hid (row_any h)
 have HC:=Lib.hid (show ∀ w',Below w.heap.size w w'→Calls Tryz.prog 159 #[.slice A n c,.int .i64 0] w' fun e w''=>e=.returned (.int .i64 (numP ps 0 1))∧w''=w' from fun w' hb=>count_any (HM.out.below hb) 0 (by omega))
 show Calls _ _ _ _ (CzP B g x (x.t.put (inRowS (fun l=>insertS l x.t.now.x (numP ps 0 1) x.t.now.pen) x.t.now.y x.t.shown)) w)
 generalize numP ps 0 1=N at HC n1 ⊢
 have HL:=Lib.hid (h.rowV)
 obtain ⟨F,hF⟩:∃ F:List Ce→List Ce,F=(fun l=>insertS l x.t.now.x N x.t.now.pen):=⟨_,rfl⟩
 have HF:=Lib.hid (show (∀ l,(F l).length=l.length)∧(∀ l,RowOk l→RowOk (F l)) from by rw [hF];exact ⟨(fun _=>insertS_length _ _ _ _),(fun _ hl=>ins_ok hl _ _ HZ.out.ok.pen.may)⟩)
 have HI:=Lib.hid (show ∀ w',Below w.heap.size w w'→Calls Tryz.prog 102 #[.slice (some ⟨x.sb,x.ro*6,none⟩) x.t.c x.t.c,.int .i64 x.t.now.x,.int .i64 N,.agg #[.int .u32 x.t.now.pen.fg,.int .u32 x.t.now.pen.bg,.int .u8 x.t.now.pen.st,.int .u16 x.t.now.pen.lk]] w' (OpPost (F (lAt x.t.shown x.t.now.y.toNat)) true w') from fun w' hb=>by
  have h1:=insert_any (c:=x.t.c) (x.t.now.x) (N) x.t.now.pen (HL.out.1.below hb) (HT.out.below hb (Nat.le_refl _)) (by omega)
  rw [(rowMay_iff _).2 HL.out.2.1,HZ.out.ok.pen.may] at h1
  rw [hF]
  exact h1)
 rw [← hF]
 clear hF h hT hN
 have HM2:=Lib.hid (show (F (lAt x.t.shown x.t.now.y.toNat)).length=x.t.c from by rw [HF.out.1];exact HL.out.2.2)
 have SX:=Lib.hid (show ∀ w1 w',Below w.heap.size w w1→Below w1.heap.size w1 w'→(Below B w w'∧(w'.cell? ⟨g,1,none⟩=some (.int .i64 x.t.now.x)∧w'.cell? ⟨g,3,none⟩=some (.int .u32 x.t.now.pen.fg)∧w'.cell? ⟨g,4,none⟩=some (.int .u32 x.t.now.pen.bg)∧w'.cell? ⟨g,5,none⟩=some (.int .u8 x.t.now.pen.st)∧w'.cell? ⟨g,6,none⟩=some (.int .u16 x.t.now.pen.lk))) from fun w1 w' hb hb'=>⟨(hb.trans (hb'.mono hb.size)).mono HZ.out.bB,(HZ.out.below (hb.trans (hb'.mono hb.size))).cell rfl,(HZ.out.below (hb.trans (hb'.mono hb.size))).pens⟩)
 have SY:=Lib.hid (show ∀ w1 w' w'',Below w.heap.size w w1→Below w1.heap.size w1 w'→w'.grownBy w'' (some x.sb)→(Below B w w''∧(w''.cell? ⟨g,1,none⟩=some (.int .i64 x.t.now.x)∧w''.cell? ⟨g,3,none⟩=some (.int .u32 x.t.now.pen.fg)∧w''.cell? ⟨g,4,none⟩=some (.int .u32 x.t.now.pen.bg)∧w''.cell? ⟨g,5,none⟩=some (.int .u8 x.t.now.pen.st)∧w''.cell? ⟨g,6,none⟩=some (.int .u16 x.t.now.pen.lk))) from fun w1 w' w'' hb hb' hg=>by
  obtain ⟨_,e1,e2,e3,e4,e5⟩:=SX.out w1 w' hb hb'
  have hne:(some g:Option Nat)≠some x.sb:=fun e=>HZ.out.sbB.2.1 (by injection e with e;exact e.symm)
  have hbb:=hb.trans (hb'.mono hb.size)
  exact ⟨(hbb.mono HZ.out.bB).grown hg (Nat.le_trans HZ.out.bB hbb.size) (fun k hk=>by injection hk with hk;rw [← hk];exact HZ.out.lo _ HZ.out.sbB.1),hg.cell e1 hne,hg.cell e2 hne,hg.cell e3 hne,hg.cell e4 hne,hg.cell e5 hne⟩)
 have HW:=Lib.hid (show ∀ w1 w' w'',Below w.heap.size w w1→Below w1.heap.size w1 w'→w'.grownBy w'' (some x.sb)→Rw ceV 66 w'' x.sb (x.t.shown.flatten.take x.ro ++ (F (lAt x.t.shown x.t.now.y.toNat) ++ x.t.shown.flatten.drop (x.ro+(F (lAt x.t.shown x.t.now.y.toNat)).length)))→CzTo B g x (x.t.put (inRowS F x.t.now.y x.t.shown)) w w'' { x with t:=x.t.put (inRowS F x.t.now.y x.t.shown) } from fun w1 w' w'' hb hb' hg hr=>((CzTo.refl HZ.out).below (hb.trans (hb'.mono hb.size))).trans ((HZ.out.below (hb.trans (hb'.mono hb.size))).rowOver HF.out.1 HF.out.2 hr hg))
 have HQ:=Lib.hid (show ∀ w1 w',Below w.heap.size w w1→Below w1.heap.size w1 w'→Rw ceV 66 w' x.sb x.t.shown.flatten from fun w1 w' hb hb'=>(HZ.out.below (hb.trans (hb'.mono hb.size))).srw.1)
 have HFit:=Lib.hid HZ.out.rowFits
 clear n1 zx0 zx1 zc
 go_enter Tryz.func172,Tryz.ntmps172
 go_wp2_with fail
 refine HR.out.mono ?_
 rintro e w1 ⟨rfl,hb1⟩
 obtain ⟨_,e1,e3,e4,e5,e6⟩:=SX.out w1 w1 hb1 (Below.refl _ _)
 have HB1:=Lib.hid hb1
 have hb0:Below w1.heap.size w1 w1.drew:=(Below.refl _ _).drew
 clear hb1
 go_wp2_with fail
 go_region_held3 (fun w'=>Below B w w'∧(w'.cell? ⟨g,1,none⟩=some (.int .i64 x.t.now.x)∧w'.cell? ⟨g,3,none⟩=some (.int .u32 x.t.now.pen.fg)∧w'.cell? ⟨g,4,none⟩=some (.int .u32 x.t.now.pen.bg)∧w'.cell? ⟨g,5,none⟩=some (.int .u8 x.t.now.pen.st)∧w'.cell? ⟨g,6,none⟩=some (.int .u16 x.t.now.pen.lk)))
  ((first | (refine SX.out w1 _ HB1.out ?_;assumption) | (refine SY.out w1 _ _ HB1.out ?_ hg5;assumption)))
  ((first
   | (go_at_call 159;refine (HC.out _ (HB1.out.trans (Below.mono (B:=w1.heap.size) (by assumption) HB1.out.size))).mono ?_;rintro e w2 ⟨rfl,hw2⟩;obtain rfl:=hw2.symm;clear hw2)
   | (go_at_call 102;refine (HI.out _ (HB1.out.trans (Below.mono (B:=w1.heap.size) (by assumption) HB1.out.size))).mono ?_;rintro e w3 hP;obtain ⟨hb3,g3,c3,he,hq3,hk3,hm3,hR3⟩:=hP.1 rfl;rw [HM2.out] at he;subst he;have hb13:=Below.trans (B:=w1.heap.size) (by assumption) (hb3.mono (below_szp (a:=w1) (B:=w1.heap.size) (by assumption)));clear hP)
   | (rw [if_pos (by rfl)];refine oper_copy_V (.tmp 7) (.tmp 23) 24 24 rfl 66 ceV_len one_ce Tryz.underlying24 infoCe x.sb x.ro x.t.c x.t.c (some ⟨x.sb,x.ro*6,none⟩) (some ⟨g3,0,none⟩) x.t.c c3 rfl rfl 66 x.t.shown.flatten (F (lAt x.t.shown x.t.now.y.toNat)) (HQ.out w1 _ HB1.out hb13) (by rw [HM2.out];exact (Nat.min_self x.t.c).symm) hR3.vs (fun _=>rfl) (by rw [HM2.out];exact HFit.out.2.2.2.2.2) ?_;intro w5 hR5 hg5;have ZZ:=Lib.hid (HW.out w1 _ w5 HB1.out hb13 hg5 hR5))))
 clear hR5 hg5
 go_wp2_with fail
 go_end0
 exact ⟨rfl,_,ZZ.out⟩
set_option maxRecDepth 100000 in
set_option maxHeartbeats 1600000 in
theorem takeOutT_any (hT:Tabs w) (h:Cz B w g x) (hN:Nm w (CB g x) A n c ps):Calls Tryz.prog 173 #[.pointer (some ⟨g,0,none⟩),.slice A n c] w (CzP B g x (Dd.takeOut.run ps x.t) w):=by
 have HZ:=Lib.hid h
 have HT:=Lib.hid hT
 have HM:=Lib.hid hN
 have n1:=hN.one 0
 have zx0:=h.ok.x0
 have zx1:=h.ok.x1
 have zc:=h.ok.c1
 have HR:=Lib.hid (row_any h)
 have HC:=Lib.hid (show ∀ w',Below w.heap.size w w'→Calls Tryz.prog 159 #[.slice A n c,.int .i64 0] w' fun e w''=>e=.returned (.int .i64 (numP ps 0 1))∧w''=w' from fun w' hb=>count_any (HM.out.below hb) 0 (by omega))
 show Calls _ _ _ _ (CzP B g x (x.t.put (inRowS (fun l=>deleteS l x.t.now.x (numP ps 0 1) x.t.now.pen) x.t.now.y x.t.shown)) w)
 generalize numP ps 0 1=N at HC n1 ⊢
 have HL:=Lib.hid (h.rowV)
 obtain ⟨F,hF⟩:∃ F:List Ce→List Ce,F=(fun l=>deleteS l x.t.now.x N x.t.now.pen):=⟨_,rfl⟩
 have HF:=Lib.hid (show (∀ l,(F l).length=l.length)∧(∀ l,RowOk l→RowOk (F l)) from by rw [hF];exact ⟨(fun _=>deleteS_length _ _ _ _),(fun _ hl=>del_ok hl _ _ HZ.out.ok.pen.may)⟩)
 have HI:=Lib.hid (show ∀ w',Below w.heap.size w w'→Calls Tryz.prog 223 #[.slice (some ⟨x.sb,x.ro*6,none⟩) x.t.c x.t.c,.int .i64 x.t.now.x,.int .i64 N,.agg #[.int .u32 x.t.now.pen.fg,.int .u32 x.t.now.pen.bg,.int .u8 x.t.now.pen.st,.int .u16 x.t.now.pen.lk]] w' (OpPost (F (lAt x.t.shown x.t.now.y.toNat)) true w') from fun w' hb=>by
  have h1:=delete_any (c:=x.t.c) (x.t.now.x) (N) x.t.now.pen (HL.out.1.below hb) (HT.out.below hb (Nat.le_refl _)) (by omega)
  rw [(rowMay_iff _).2 HL.out.2.1,HZ.out.ok.pen.may] at h1
  rw [hF]
  exact h1)
 rw [← hF]
 clear hF h hT hN
 have HM2:=Lib.hid (show (F (lAt x.t.shown x.t.now.y.toNat)).length=x.t.c from by rw [HF.out.1];exact HL.out.2.2)
 have SX:=Lib.hid (show ∀ w1 w',Below w.heap.size w w1→Below w1.heap.size w1 w'→(Below B w w'∧(w'.cell? ⟨g,1,none⟩=some (.int .i64 x.t.now.x)∧w'.cell? ⟨g,3,none⟩=some (.int .u32 x.t.now.pen.fg)∧w'.cell? ⟨g,4,none⟩=some (.int .u32 x.t.now.pen.bg)∧w'.cell? ⟨g,5,none⟩=some (.int .u8 x.t.now.pen.st)∧w'.cell? ⟨g,6,none⟩=some (.int .u16 x.t.now.pen.lk))) from fun w1 w' hb hb'=>⟨(hb.trans (hb'.mono hb.size)).mono HZ.out.bB,(HZ.out.below (hb.trans (hb'.mono hb.size))).cell rfl,(HZ.out.below (hb.trans (hb'.mono hb.size))).pens⟩)
 have SY:=Lib.hid (show ∀ w1 w' w'',Below w.heap.size w w1→Below w1.heap.size w1 w'→w'.grownBy w'' (some x.sb)→(Below B w w''∧(w''.cell? ⟨g,1,none⟩=some (.int .i64 x.t.now.x)∧w''.cell? ⟨g,3,none⟩=some (.int .u32 x.t.now.pen.fg)∧w''.cell? ⟨g,4,none⟩=some (.int .u32 x.t.now.pen.bg)∧w''.cell? ⟨g,5,none⟩=some (.int .u8 x.t.now.pen.st)∧w''.cell? ⟨g,6,none⟩=some (.int .u16 x.t.now.pen.lk))) from fun w1 w' w'' hb hb' hg=>by
  obtain ⟨_,e1,e2,e3,e4,e5⟩:=SX.out w1 w' hb hb'
  have hne:(some g:Option Nat)≠some x.sb:=fun e=>HZ.out.sbB.2.1 (by injection e with e;exact e.symm)
  have hbb:=hb.trans (hb'.mono hb.size)
  exact ⟨(hbb.mono HZ.out.bB).grown hg (Nat.le_trans HZ.out.bB hbb.size) (fun k hk=>by injection hk with hk;rw [← hk];exact HZ.out.lo _ HZ.out.sbB.1),hg.cell e1 hne,hg.cell e2 hne,hg.cell e3 hne,hg.cell e4 hne,hg.cell e5 hne⟩)
 have HW:=Lib.hid (show ∀ w1 w' w'',Below w.heap.size w w1→Below w1.heap.size w1 w'→w'.grownBy w'' (some x.sb)→Rw ceV 66 w'' x.sb (x.t.shown.flatten.take x.ro ++ (F (lAt x.t.shown x.t.now.y.toNat) ++ x.t.shown.flatten.drop (x.ro+(F (lAt x.t.shown x.t.now.y.toNat)).length)))→CzTo B g x (x.t.put (inRowS F x.t.now.y x.t.shown)) w w'' { x with t:=x.t.put (inRowS F x.t.now.y x.t.shown) } from fun w1 w' w'' hb hb' hg hr=>((CzTo.refl HZ.out).below (hb.trans (hb'.mono hb.size))).trans ((HZ.out.below (hb.trans (hb'.mono hb.size))).rowOver HF.out.1 HF.out.2 hr hg))
 have HQ:=Lib.hid (show ∀ w1 w',Below w.heap.size w w1→Below w1.heap.size w1 w'→Rw ceV 66 w' x.sb x.t.shown.flatten from fun w1 w' hb hb'=>(HZ.out.below (hb.trans (hb'.mono hb.size))).srw.1)
 have HFit:=Lib.hid HZ.out.rowFits
 clear n1 zx0 zx1 zc
 go_enter Tryz.func173,Tryz.ntmps173
 go_wp2_with fail
 refine HR.out.mono ?_
 rintro e w1 ⟨rfl,hb1⟩
 obtain ⟨_,e1,e3,e4,e5,e6⟩:=SX.out w1 w1 hb1 (Below.refl _ _)
 have HB1:=Lib.hid hb1
 have hb0:Below w1.heap.size w1 w1.drew:=(Below.refl _ _).drew
 clear hb1
 go_wp2_with fail
 go_region_held3 (fun w'=>Below B w w'∧(w'.cell? ⟨g,1,none⟩=some (.int .i64 x.t.now.x)∧w'.cell? ⟨g,3,none⟩=some (.int .u32 x.t.now.pen.fg)∧w'.cell? ⟨g,4,none⟩=some (.int .u32 x.t.now.pen.bg)∧w'.cell? ⟨g,5,none⟩=some (.int .u8 x.t.now.pen.st)∧w'.cell? ⟨g,6,none⟩=some (.int .u16 x.t.now.pen.lk)))
  ((first | (refine SX.out w1 _ HB1.out ?_;assumption) | (refine SY.out w1 _ _ HB1.out ?_ hg5;assumption)))
  ((first
   | (go_at_call 159;refine (HC.out _ (HB1.out.trans (Below.mono (B:=w1.heap.size) (by assumption) HB1.out.size))).mono ?_;rintro e w2 ⟨rfl,hw2⟩;obtain rfl:=hw2.symm;clear hw2)
   | (go_at_call 223;refine (HI.out _ (HB1.out.trans (Below.mono (B:=w1.heap.size) (by assumption) HB1.out.size))).mono ?_;rintro e w3 hP;obtain ⟨hb3,g3,c3,he,hq3,hk3,hm3,hR3⟩:=hP.1 rfl;rw [HM2.out] at he;subst he;have hb13:=Below.trans (B:=w1.heap.size) (by assumption) (hb3.mono (below_szp (a:=w1) (B:=w1.heap.size) (by assumption)));clear hP)
   | (rw [if_pos (by rfl)];refine oper_copy_V (.tmp 7) (.tmp 23) 24 24 rfl 66 ceV_len one_ce Tryz.underlying24 infoCe x.sb x.ro x.t.c x.t.c (some ⟨x.sb,x.ro*6,none⟩) (some ⟨g3,0,none⟩) x.t.c c3 rfl rfl 66 x.t.shown.flatten (F (lAt x.t.shown x.t.now.y.toNat)) (HQ.out w1 _ HB1.out hb13) (by rw [HM2.out];exact (Nat.min_self x.t.c).symm) hR3.vs (fun _=>rfl) (by rw [HM2.out];exact HFit.out.2.2.2.2.2) ?_;intro w5 hR5 hg5;have ZZ:=Lib.hid (HW.out w1 _ w5 HB1.out hb13 hg5 hR5))))
 clear hR5 hg5
 go_wp2_with fail
 go_end0
 exact ⟨rfl,_,ZZ.out⟩
set_option maxRecDepth 100000 in
set_option maxHeartbeats 1600000 in
theorem eraseSomeT_any (hT:Tabs w) (h:Cz B w g x) (hN:Nm w (CB g x) A n c ps):Calls Tryz.prog 174 #[.pointer (some ⟨g,0,none⟩),.slice A n c] w (CzP B g x (Dd.eraseSome.run ps x.t) w):=by
 have HZ:=Lib.hid h
 have HT:=Lib.hid hT
 have HM:=Lib.hid hN
 have n1:=hN.one 0
 have zx0:=h.ok.x0
 have zx1:=h.ok.x1
 have zc:=h.ok.c1
 have HR:=Lib.hid (row_any h)
 have HC:=Lib.hid (show ∀ w',Below w.heap.size w w'→Calls Tryz.prog 159 #[.slice A n c,.int .i64 0] w' fun e w''=>e=.returned (.int .i64 (numP ps 0 1))∧w''=w' from fun w' hb=>count_any (HM.out.below hb) 0 (by omega))
 show Calls _ _ _ _ (CzP B g x (x.t.put (inRowS (fun l=>eraseS l x.t.now.x (x.t.now.x+numP ps 0 1) x.t.now.pen) x.t.now.y x.t.shown)) w)
 generalize numP ps 0 1=N at HC n1 ⊢
 have HL:=Lib.hid (h.rowV)
 obtain ⟨F,hF⟩:∃ F:List Ce→List Ce,F=(fun l=>eraseS l x.t.now.x (x.t.now.x+N) x.t.now.pen):=⟨_,rfl⟩
 have HF:=Lib.hid (show (∀ l,(F l).length=l.length)∧(∀ l,RowOk l→RowOk (F l)) from by rw [hF];exact ⟨(fun _=>eraseS_length _ _ _ _),(fun _ hl=>erase_ok hl _ _ HZ.out.ok.pen.may)⟩)
 have HI:=Lib.hid (show ∀ w',Below w.heap.size w w'→Calls Tryz.prog 81 #[.slice (some ⟨x.sb,x.ro*6,none⟩) x.t.c x.t.c,.int .i64 x.t.now.x,.int .i64 (x.t.now.x+N),.agg #[.int .u32 x.t.now.pen.fg,.int .u32 x.t.now.pen.bg,.int .u8 x.t.now.pen.st,.int .u16 x.t.now.pen.lk]] w' (OpPost (F (lAt x.t.shown x.t.now.y.toNat)) true w') from fun w' hb=>by
  have h1:=erase_any (c:=x.t.c) (x.t.now.x) (x.t.now.x+N) x.t.now.pen (HL.out.1.below hb) (HT.out.below hb (Nat.le_refl _)) (by omega)
  rw [(rowMay_iff _).2 HL.out.2.1,HZ.out.ok.pen.may] at h1
  rw [hF]
  exact h1)
 rw [← hF]
 clear hF h hT hN
 have k0:wrap64 (x.t.now.x+N)=x.t.now.x+N:=by unfold wrap64;omega
 have j0:IntKind.i64.wrap (x.t.now.x+N)=x.t.now.x+N:=by rw [IntKind.wrap_i64];omega
 have HM2:=Lib.hid (show (F (lAt x.t.shown x.t.now.y.toNat)).length=x.t.c from by rw [HF.out.1];exact HL.out.2.2)
 have SX:=Lib.hid (show ∀ w1 w',Below w.heap.size w w1→Below w1.heap.size w1 w'→(Below B w w'∧(w'.cell? ⟨g,1,none⟩=some (.int .i64 x.t.now.x)∧w'.cell? ⟨g,3,none⟩=some (.int .u32 x.t.now.pen.fg)∧w'.cell? ⟨g,4,none⟩=some (.int .u32 x.t.now.pen.bg)∧w'.cell? ⟨g,5,none⟩=some (.int .u8 x.t.now.pen.st)∧w'.cell? ⟨g,6,none⟩=some (.int .u16 x.t.now.pen.lk))) from fun w1 w' hb hb'=>⟨(hb.trans (hb'.mono hb.size)).mono HZ.out.bB,(HZ.out.below (hb.trans (hb'.mono hb.size))).cell rfl,(HZ.out.below (hb.trans (hb'.mono hb.size))).pens⟩)
 have SY:=Lib.hid (show ∀ w1 w' w'',Below w.heap.size w w1→Below w1.heap.size w1 w'→w'.grownBy w'' (some x.sb)→(Below B w w''∧(w''.cell? ⟨g,1,none⟩=some (.int .i64 x.t.now.x)∧w''.cell? ⟨g,3,none⟩=some (.int .u32 x.t.now.pen.fg)∧w''.cell? ⟨g,4,none⟩=some (.int .u32 x.t.now.pen.bg)∧w''.cell? ⟨g,5,none⟩=some (.int .u8 x.t.now.pen.st)∧w''.cell? ⟨g,6,none⟩=some (.int .u16 x.t.now.pen.lk))) from fun w1 w' w'' hb hb' hg=>by
  obtain ⟨_,e1,e2,e3,e4,e5⟩:=SX.out w1 w' hb hb'
  have hne:(some g:Option Nat)≠some x.sb:=fun e=>HZ.out.sbB.2.1 (by injection e with e;exact e.symm)
  have hbb:=hb.trans (hb'.mono hb.size)
  exact ⟨(hbb.mono HZ.out.bB).grown hg (Nat.le_trans HZ.out.bB hbb.size) (fun k hk=>by injection hk with hk;rw [← hk];exact HZ.out.lo _ HZ.out.sbB.1),hg.cell e1 hne,hg.cell e2 hne,hg.cell e3 hne,hg.cell e4 hne,hg.cell e5 hne⟩)
 have HW:=Lib.hid (show ∀ w1 w' w'',Below w.heap.size w w1→Below w1.heap.size w1 w'→w'.grownBy w'' (some x.sb)→Rw ceV 66 w'' x.sb (x.t.shown.flatten.take x.ro ++ (F (lAt x.t.shown x.t.now.y.toNat) ++ x.t.shown.flatten.drop (x.ro+(F (lAt x.t.shown x.t.now.y.toNat)).length)))→CzTo B g x (x.t.put (inRowS F x.t.now.y x.t.shown)) w w'' { x with t:=x.t.put (inRowS F x.t.now.y x.t.shown) } from fun w1 w' w'' hb hb' hg hr=>((CzTo.refl HZ.out).below (hb.trans (hb'.mono hb.size))).trans ((HZ.out.below (hb.trans (hb'.mono hb.size))).rowOver HF.out.1 HF.out.2 hr hg))
 have HQ:=Lib.hid (show ∀ w1 w',Below w.heap.size w w1→Below w1.heap.size w1 w'→Rw ceV 66 w' x.sb x.t.shown.flatten from fun w1 w' hb hb'=>(HZ.out.below (hb.trans (hb'.mono hb.size))).srw.1)
 have HFit:=Lib.hid HZ.out.rowFits
 have j0:IntKind.i64.wrap (x.t.now.x+N)=x.t.now.x+N:=by rw [IntKind.wrap_i64];omega
 clear n1 zx0 zx1 zc
 go_enter Tryz.func174,Tryz.ntmps174
 go_wp2_with fail
 refine HR.out.mono ?_
 rintro e w1 ⟨rfl,hb1⟩
 obtain ⟨_,e1,e3,e4,e5,e6⟩:=SX.out w1 w1 hb1 (Below.refl _ _)
 have HB1:=Lib.hid hb1
 have hb0:Below w1.heap.size w1 w1.drew:=(Below.refl _ _).drew
 clear hb1
 go_wp2_with fail
 go_region_held3 (fun w'=>Below B w w'∧(w'.cell? ⟨g,1,none⟩=some (.int .i64 x.t.now.x)∧w'.cell? ⟨g,3,none⟩=some (.int .u32 x.t.now.pen.fg)∧w'.cell? ⟨g,4,none⟩=some (.int .u32 x.t.now.pen.bg)∧w'.cell? ⟨g,5,none⟩=some (.int .u8 x.t.now.pen.st)∧w'.cell? ⟨g,6,none⟩=some (.int .u16 x.t.now.pen.lk)))
  ((first | (refine SX.out w1 _ HB1.out ?_;assumption) | (refine SY.out w1 _ _ HB1.out ?_ hg5;assumption)))
  ((first
   | (go_at_call 159;refine (HC.out _ (HB1.out.trans (Below.mono (B:=w1.heap.size) (by assumption) HB1.out.size))).mono ?_;rintro e w2 ⟨rfl,hw2⟩;obtain rfl:=hw2.symm;clear hw2)
   | (go_at_call 81;refine (HI.out _ (HB1.out.trans (Below.mono (B:=w1.heap.size) (by assumption) HB1.out.size))).mono ?_;rintro e w3 hP;obtain ⟨hb3,g3,c3,he,hq3,hk3,hm3,hR3⟩:=hP.1 rfl;rw [HM2.out] at he;subst he;have hb13:=Below.trans (B:=w1.heap.size) (by assumption) (hb3.mono (below_szp (a:=w1) (B:=w1.heap.size) (by assumption)));clear hP)
   | (rw [if_pos (by rfl)];refine oper_copy_V (.tmp 7) (.tmp 30) 24 24 rfl 66 ceV_len one_ce Tryz.underlying24 infoCe x.sb x.ro x.t.c x.t.c (some ⟨x.sb,x.ro*6,none⟩) (some ⟨g3,0,none⟩) x.t.c c3 rfl rfl 66 x.t.shown.flatten (F (lAt x.t.shown x.t.now.y.toNat)) (HQ.out w1 _ HB1.out hb13) (by rw [HM2.out];exact (Nat.min_self x.t.c).symm) hR3.vs (fun _=>rfl) (by rw [HM2.out];exact HFit.out.2.2.2.2.2) ?_;intro w5 hR5 hg5;have ZZ:=Lib.hid (HW.out w1 _ w5 HB1.out hb13 hg5 hR5))))
 clear hR5 hg5
 go_wp2_with fail
 go_end0
 exact ⟨rfl,_,ZZ.out⟩
end
end Go.Proofs.YtlcipgdnpilkfaaGreatDoor
