/-
  Part 38 of what the laws of emul want: EmulPrint.
-/
import Derived.Deep.DeepCutAuto
import Derived.Test.YtlcipgdnpilkfaaGreatDoorPo02
import Derived.Test.YtlcipgdnpilkfaaGreatDoorPo34
namespace Go.Proofs.YtlcipgdnpilkfaaGreatDoor
open Go.RowKit
section
variable {B:Nat} {w:World} {g:Nat} {x:CT} {A:Option Addr} {n c:Nat} {ps:List Int}
theorem inSt_le (r:Int):∀ l:List (Int × Int × Int),(∀ x∈l,x.2.2≤2)→inSt r l≤2
 | [],_=>by show (1:Int)≤2;omega
 | x :: l,h=>by
  unfold inSt
  split
  · exact h x (by simp)
  · exact inSt_le r l fun y hy=>h y (by simp [hy])
theorem width_le (r:Int):widthS r≤2:=by
 unfold widthS
 split
 · exact inSt_le r stL (by decide)
 · omega
theorem down_now (t:Tm):t.down.now.x=t.now.x∧t.down.c=t.c∧t.down.now.pen=t.now.pen:=by
 unfold Tm.down Tm.scrolled
 split
 · exact ⟨by rw [(TmOk.put_now t _).1],(TmOk.put_now t _).2.1,by rw [(TmOk.put_now t _).1]⟩
 · split<;>exact ⟨rfl,rfl,rfl⟩
def Tm.room (t:Tm) (W:Int):Tm:=if t.ins then t.put (inRowS (fun l=>insertS l t.now.x W t.now.pen) t.now.y t.shown) else t
def Tm.inked (t:Tm) (r:Int):Tm:=t.put (inRowS (fun l=>putS l t.now.x r t.now.pen) t.now.y t.shown)
theorem letter_is {t:Tm} {r:Int}:t.letter r={ (((t.room (widthS r)).inked r).atX (min (t.now.x+widthS r) (t.c-1))) with last:=r,full:=decide ((t.c:Int)-1<t.now.x+widthS r) }:=by
 have e:∀ u:Tm,u.now.x=t.now.x→u.c=t.c→(if u.now.x+widthS r≥u.c then { u.atX (u.c-1) with last:=r,full:=true } else { u.atX (u.now.x+widthS r) with last:=r,full:=false }:Tm)={ u.atX (min (t.now.x+widthS r) (t.c-1)) with last:=r,full:=decide ((t.c:Int)-1<t.now.x+widthS r) }:=by
  intro u h1 h2
  rw [h1,h2]
  split
  · rw [show min (t.now.x+widthS r) ((t.c:Int)-1)=t.c-1 by omega,decide_eq_true (by omega)]
  · rw [show min (t.now.x+widthS r) ((t.c:Int)-1)=t.now.x+widthS r by omega,decide_eq_false (by omega)]
 have hr:(t.room (widthS r)).now=t.now∧(t.room (widthS r)).c=t.c:=by
  unfold Tm.room
  split
  · exact ⟨(TmOk.put_now t _).1,(TmOk.put_now t _).2.1⟩
  · exact ⟨rfl,rfl⟩
 refine (e ((t.room (widthS r)).inked r) ?_ ?_)
 · unfold Tm.inked;rw [(TmOk.put_now _ _).1,hr.1]
 · unfold Tm.inked;rw [(TmOk.put_now _ _).2.1,hr.2]
theorem put_now' (t:Tm) (g:Rws):(t.put g).isO=t.isO∧(t.put g).last=t.last∧(t.put g).full=t.full:=by unfold Tm.put;split<;>exact ⟨rfl,rfl,rfl⟩
theorem CT.laid_ro (x:CT) (G:Rws):({ x with t:=x.t.put G }:CT).ro=x.ro∧({ x with t:=x.t.put G }:CT).sb=x.sb∧({ x with t:=x.t.put G }:CT).t.c=x.t.c∧({ x with t:=x.t.put G }:CT).t.now=x.t.now∧({ x with t:=x.t.put G }:CT).t.r=x.t.r:=by
 refine ⟨?_,?_,(TmOk.put_now x.t _).2.1,(TmOk.put_now x.t _).1,(TmOk.put_now x.t _).2.2.1⟩
 · unfold CT.ro;show (x.t.put G).now.y.toNat*(x.t.put G).c=_;rw [(TmOk.put_now x.t _).1,(TmOk.put_now x.t _).2.1]
 · unfold CT.sb;show (if (x.t.put G).isO=true then x.ob else x.mb)=_;rw [(put_now' x.t _).1]
theorem Cz.lettered (h:Cz B w g x) {w':World} {X r:Int} (hx:0≤X) (hr:RwG w g (((((ctV x).set 111 (.int .i32 r)).set 1 (.int .i64 X)).set 22 (.bool (decide ((x.t.c:Int)-1<X)))).set 1 (.int .i64 (min X (x.t.c-1))) |>.set 2 (.int .i64 (min x.t.now.y (x.t.r-1)))) w'):CzTo B g x { x.t.atX (min X (x.t.c-1)) with last:=r,full:=decide ((x.t.c:Int)-1<X) } w w' { x with t:={ x.t.atX (min X (x.t.c-1)) with last:=r,full:=decide ((x.t.c:Int)-1<X) } }:=by
 have h1:=h.ok.y1
 have c1:=h.ok.c1
 have e1:(ctV x).set (109+2) (.int .i32 r)=ctV { x with t:={ x.t with last:=r } }:=ctV_setTl h.ok.tabs 2 _ rfl rfl rfl
 rw [show (ctV x).set 111 (.int .i32 r)=ctV { x with t:={ x.t with last:=r } } from e1,show min x.t.now.y ((x.t.r:Int)-1)=x.t.now.y by omega] at hr
 refine hr.fin h (y:={ x with t:={ x.t.atX (min X (x.t.c-1)) with last:=r,full:=decide ((x.t.c:Int)-1<X) } }) ?_ ⟨rfl,rfl,rfl,rfl,rfl,rfl,rfl,rfl,rfl,rfl,rfl,rfl,rfl,rfl,rfl,rfl,rfl,h.tl⟩ { h.ok.atX (x:=min X (x.t.c-1)) (by omega) (by omega) with }
 rfl
theorem Cz.over (h:Cz B w g x) {F:List Ce→List Ce} (hF:∀ l,(F l).length=l.length) (ho:∀ l,RowOk l→RowOk (F l)) {sb ro c:Nat} (hsb:x.sb=sb) (hro:x.ro=ro) (hc:x.t.c=c) :
  Vs ceV w (some ⟨sb,ro*6,none⟩) c (lAt x.t.shown x.t.now.y.toNat)∧RowOk (lAt x.t.shown x.t.now.y.toNat)∧(F (lAt x.t.shown x.t.now.y.toNat)).length=c∧Rw ceV 66 w sb x.t.shown.flatten∧ro+c≤x.t.shown.flatten.length∧c≤80 ∧
  ∀ w',w.grownBy w' (some sb)→Rw ceV 66 w' sb (x.t.shown.flatten.take ro ++ (F (lAt x.t.shown x.t.now.y.toNat) ++ x.t.shown.flatten.drop (ro+(F (lAt x.t.shown x.t.now.y.toNat)).length)))→CzTo B g x (x.t.put (inRowS F x.t.now.y x.t.shown)) w w' { x with t:=x.t.put (inRowS F x.t.now.y x.t.shown) }:=by
 subst hsb
 subst hro
 subst hc
 obtain ⟨h1,h2,h3⟩:=h.rowV
 obtain ⟨_,_,_,_,h5,h4⟩:=h.rowFits
 exact ⟨h1,h2,by rw [hF];exact h3,h.srw.1,h4,h5,fun w' hg hr=>h.rowOver hF ho hr hg⟩
structure C5 (w:World) (g:Nat) (N:Spt):Prop where
 c1:w.cell? ⟨g,1,none⟩=some (.int .i64 N.x)
 c3:w.cell? ⟨g,3,none⟩=some (.int .u32 N.pen.fg)
 c4:w.cell? ⟨g,4,none⟩=some (.int .u32 N.pen.bg)
 c5:w.cell? ⟨g,5,none⟩=some (.int .u8 N.pen.st)
 c6:w.cell? ⟨g,6,none⟩=some (.int .u16 N.pen.lk)
theorem Cz.c5 (h:Cz B w g x) {N:Spt} (hn:x.t.now=N):C5 w g N:=by
 subst hn
 exact ⟨h.cell rfl,h.cell rfl,h.cell rfl,h.cell rfl,h.cell rfl⟩
theorem C5.grown {w w':World} {g k:Nat} {N:Spt} (h:C5 w g N) (hg:w.grownBy w' (some k)) (hk:g≠k):C5 w' g N:=by
 have hne:(some g:Option Nat)≠some k:=fun e=>hk (by injection e)
 exact ⟨hg.cell h.c1 hne,hg.cell h.c3 hne,hg.cell h.c4 hne,hg.cell h.c5 hne,hg.cell h.c6 hne⟩
theorem C5.all {w:World} {g:Nat} {N:Spt} (h:C5 w g N):w.cell? ⟨g,1,none⟩=some (.int .i64 N.x)∧w.cell? ⟨g,3,none⟩=some (.int .u32 N.pen.fg)∧w.cell? ⟨g,4,none⟩=some (.int .u32 N.pen.bg)∧w.cell? ⟨g,5,none⟩=some (.int .u8 N.pen.st)∧w.cell? ⟨g,6,none⟩=some (.int .u16 N.pen.lk):=⟨h.c1,h.c3,h.c4,h.c5,h.c6⟩
set_option maxRecDepth 100000 in
set_option maxHeartbeats 1600000 in
theorem printT_any (hT:Tabs w) (h:Cz B w g x) (r:Int):Calls Tryz.prog 50 #[.pointer (some ⟨g,0,none⟩),.int .i32 r] w (CzP B g x (x.t.print r) w):=by
 have HT:=Lib.hid hT
 have HZ:=Lib.hid h
 have HW:=Lib.hid (show ∀ w',Below w.heap.size w w'→Calls Tryz.prog 99 #[.int .i32 r] w' fun e w''=>e=.returned (.int .i64 (widthS r))∧Below w'.heap.size w' w'' from fun w' hb=>width_any r (HT.out.below hb (Nat.le_refl _)))
 have HL:=Lib.hid (show ∀ w',Below w.heap.size w w'→Calls Tryz.prog 82 #[.pointer (some ⟨g,0,none⟩)] w' fun e w''=>e=.returned (.int .i64 ((x.t.c:Int)-1))∧w''=w' from fun w' hb=>lastCol_any (HZ.out.below hb))
 have zx0:=h.ok.x0
 have zx1:=h.ok.x1
 have zc:=h.ok.c1
 have c1:w.cell? ⟨g,1,none⟩=some (.int .i64 x.t.now.x):=h.cell rfl
 have SX:=Lib.hid (show ∀ w',Below w.heap.size w w'→w'.cell? ⟨g,1,none⟩=some (.int .i64 x.t.now.x) from fun w' hb=>(HZ.out.below hb).cell rfl)
 obtain ⟨W,hW⟩:∃ W,widthS r=W:=⟨_,rfl⟩
 have HWW:=Lib.hid hW
 rw [hW] at HW
 clear hW
 have hb0:Below w.heap.size w w.drew:=(Below.refl _ _).drew
 have k0:wrap64 ((x.t.c:Int)-1-x.t.now.x)=(x.t.c:Int)-1-x.t.now.x:=by unfold wrap64;omega
 have k1:wrap64 ((x.t.c:Int)-1-x.t.now.x+1)=(x.t.c:Int)-1-x.t.now.x+1:=by clear k0;unfold wrap64;omega
 have k2:IntKind.i64.wrap ((x.t.c:Int)-1-x.t.now.x)=(x.t.c:Int)-1-x.t.now.x:=by clear k0 k1;rw [IntKind.wrap_i64];omega
 have k3:IntKind.i64.wrap ((x.t.c:Int)-1-x.t.now.x+1)=(x.t.c:Int)-1-x.t.now.x+1:=by clear k0 k1 k2;rw [IntKind.wrap_i64];omega
 clear h hT zx0 zx1 zc
 go_enter Tryz.func50,Tryz.ntmps50
 go_wp2_with fail
 go_region_held3 (fun w'=>Below w.heap.size w w'∧w'.cell? ⟨g,1,none⟩=some (.int .i64 x.t.now.x))
  ((refine ⟨?_,SX.out _ ?_⟩<;>assumption))
  ((first
   | (go_at_call 99;refine (HW.out _ (by assumption)).mono ?_;rintro e w2 ⟨rfl,hw2⟩;have hbW:=Below.trans (B:=w.heap.size) (by assumption) (hw2.mono (below_szp (a:=w) (B:=w.heap.size) (by assumption)));clear hw2)
   | (go_at_call 82;refine (HL.out _ (by assumption)).mono ?_;rintro e w3 ⟨rfl,hw3⟩;obtain rfl:=hw3.symm;clear hw3)))
 have KW:=Lib.hid ((CzTo.refl HZ.out).below hbW)
 have HT2:=Lib.hid (HT.out.below hbW (Nat.le_refl _))
 have HL2:=Lib.hid (HL.out w2 hbW)
 have kc:wrap64 ((x.t.c:Int)-1+1)=(x.t.c:Int):=by clear k0 k1 k2 k3;have:=HZ.out.ok.c1;unfold wrap64;omega
 have kc2:IntKind.i64.wrap ((x.t.c:Int)-1+1)=(x.t.c:Int):=by clear k0 k1 k2 k3 kc;have:=HZ.out.ok.c1;rw [IntKind.wrap_i64];omega
 have kc3:wrap64 (x.t.c:Int)=(x.t.c:Int):=by clear k0 k1 k2 k3 kc kc2;have:=HZ.out.ok.c1;unfold wrap64;omega
 have kc4:IntKind.i64.wrap (x.t.c:Int)=(x.t.c:Int):=by clear k0 k1 k2 k3 kc kc2 kc3;have:=HZ.out.ok.c1;rw [IntKind.wrap_i64];omega
 clear hbW k0 k1 k2 k3 c1 hb0
 by_cases h0:W=0
 · have e:x.t.print r=x.t:=by
    show (if widthS r=0∨widthS r > x.t.c then x.t else _)=x.t
    rw [if_pos (.inl (HWW.out.trans h0))]
   have E:=Lib.hid e
   clear e
   subst h0
   go_wp2_with fail
   (try simp only [Exit.inBlock,Exit.then])
   refine bodyPost_ret (results_none rfl _ _ _) rfl ?_
   exact ⟨rfl,x,KW.out.as E.out.symm⟩
 have b0:(W == 0)=false:=by rw [beq_eq_false_iff_ne];exact h0
 by_cases hc:(x.t.c:Int)<W
 · have e:x.t.print r=x.t:=by
    show (if widthS r=0∨widthS r > x.t.c then x.t else _)=x.t
    rw [if_pos (.inr (by rw [HWW.out];exact hc))]
   have E:=Lib.hid e
   clear e
   go_wp2_with fail
   refine HL2.out.mono ?_
   rintro e w3 ⟨rfl,hw3⟩
   obtain rfl:=hw3.symm
   clear hw3
   go_wp2_with fail
   (try simp only [Exit.inBlock,Exit.then])
   refine bodyPost_ret (results_none rfl _ _ _) rfl ?_
   exact ⟨rfl,x,KW.out.as E.out.symm⟩
 have H0:=Lib.hid h0
 have HCW:=Lib.hid hc
 obtain ⟨nw,hnw⟩:∃ nw,(!x.t.nowrap)=nw:=⟨_,rfl⟩
 obtain ⟨fu,hfu⟩:∃ fu,x.t.full=fu:=⟨_,rfl⟩
 have cw:w2.cell? ⟨g,25,none⟩=some (.bool nw):=by rw [← hnw];exact KW.out.cz.cell rfl
 have cf:w2.cell? ⟨g,22,none⟩=some (.bool fu):=by rw [← hfu];exact KW.out.cz.cell rfl
 have HNW:=Lib.hid hnw
 have HFU:=Lib.hid hfu
 clear hnw hfu
 obtain ⟨rm,hrm⟩:∃ rm:Int,rm=(x.t.c:Int)-1-x.t.now.x+1:=⟨_,rfl⟩
 have HRM:=Lib.hid hrm
 -- what is wanted of the two ways
 have hD1:(nw && (fu || decide (rm<W)))=true→x.t.print r=((x.t.atX 0).down).letter r:=by
  intro hd
  rw [← HNW.out,← HFU.out] at hd
  simp only [Bool.and_eq_true,Bool.not_eq_true',Bool.or_eq_true,decide_eq_true_eq] at hd
  have w2':=width_le r
  have w0:=TmOk.width_ge r
  have hx1:=HZ.out.ok.x1
  rw [HWW.out] at w2' w0
  have h0':=H0.out
  have hc':=HCW.out
  show (if widthS r=0∨widthS r > x.t.c then x.t else if x.t.nowrap=false∧(x.t.full=true∨(widthS r=2∧x.t.now.x=x.t.c-1)) then ((x.t.atX 0).down).letter r else _)=_
  rw [HWW.out,if_neg (by omega),if_pos ⟨hd.1,by rcases hd.2 with h | h;exact .inl h;exact .inr (by have:=HRM.out;omega)⟩]
 have hD0:(nw && (fu || decide (rm<W)))=false→x.t.print r=if rm<W then x.t else x.t.letter r:=by
  intro hd
  rw [← HNW.out,← HFU.out] at hd
  have w2':=width_le r
  have w0:=TmOk.width_ge r
  have hx1:=HZ.out.ok.x1
  rw [HWW.out] at w2' w0
  have h0':=H0.out
  have hc':=HCW.out
  have hr':=HRM.out
  show (if widthS r=0∨widthS r > x.t.c then x.t else if x.t.nowrap=false∧(x.t.full=true∨(widthS r=2∧x.t.now.x=x.t.c-1)) then ((x.t.atX 0).down).letter r else if widthS r=2∧x.t.now.x=x.t.c-1 then x.t else x.t.letter r)=_
  rw [HWW.out,if_neg (by omega),if_neg (fun hh=>by
   rw [hh.1] at hd
   simp only [Bool.not_false,Bool.true_and,Bool.or_eq_false_iff,decide_eq_false_iff_not] at hd
   rcases hh.2 with h | h
   · rw [h] at hd;cases hd.1
   · exact hd.2 (by omega))]
  by_cases hrw:rm<W
  · rw [if_pos hrw,if_pos (by omega)]
  · rw [if_neg hrw,if_neg (by omega)]
 have HD1:=Lib.hid hD1
 have HD0:=Lib.hid hD0
 clear hD1 hD0 h0
 rw [← hrm]
 clear hrm
 go_wp2_with fail
 refine HL2.out.mono ?_
 rintro e w3 ⟨rfl,hw3⟩
 obtain rfl:=hw3.symm
 clear hw3
 go_upto_region 2 with fail
 clear kc kc2 kc3 kc4 hc
 go_cut [44] from 28 to 44 (fun v wc=>v=.bool (nw && (fu || decide (rm<W)))∧wc=w2)
 case first =>
  cases nw
  · go_wp2_with fail
    go_meet
    case rel=>exact ⟨rfl,rfl⟩
  · cases fu
    · by_cases hr:rm<W
      · go_wp2_with fail
        go_meet
        case rel=>exact ⟨by rw [decide_eq_true hr];rfl,rfl⟩
      · go_wp2_with fail
        go_meet
        case rel=>exact ⟨by rw [decide_eq_false (Int.not_lt.2 hr)];rfl,rfl⟩
    · go_wp2_with fail
      go_meet
      case rel=>exact ⟨rfl,rfl⟩
 case rest =>
  obtain ⟨rfl,rfl⟩:=hcut
  obtain ⟨D,hD⟩:∃ D,(nw && (fu || decide (rm<W)))=D:=⟨_,rfl⟩
  rw [hD] at HD1 HD0
  rw [hD]
  clear hD cw cf
  go_upto_if 44 with fail
  go_cut [] from 45 to 49 (fun wc=>∃ y:CT,CzTo B g x y.t w wc y∧x.t.print r=y.t.letter r∧y.t.now.x+W≤y.t.c)
  case first =>
   cases D
   · by_cases hr:rm<W
     · have E:=Lib.hid (show x.t.print r=x.t from by rw [HD0.out rfl,if_pos hr])
       go_wp2_with fail
       (try simp only [Exit.inBlock,Exit.then])
       refine bodyPost_ret (results_none rfl _ _ _) rfl ?_
       exact ⟨rfl,x,KW.out.as E.out.symm⟩
     · have E:=Lib.hid (show x.t.print r=x.t.letter r from by rw [HD0.out rfl,if_neg hr])
       have E2:=Lib.hid (show x.t.now.x+W≤x.t.c from by have:=HRM.out;omega)
       go_wp2_with fail
       go_meet
       case rel=>exact ⟨x,KW.out,E.out,E2.out⟩
   · have HX:=Lib.hid (nextLine_any (A:=none) (n:=0) (c:=0) HT2.out KW.out.cz)
     have E:=Lib.hid (HD1.out rfl)
     go_wp2_with fail
     refine HX.out.mono ?_
     rintro e w3 ⟨rfl,y,hy⟩
     have Y:=Lib.hid (KW.out.trans hy)
     have E2:=Lib.hid (show y.t.now.x+W≤y.t.c from by
      have h1:=(down_now (x.t.atX 0))
      have h2:=hy.t
      have h3:y.t=(x.t.atX 0).down:=h2
      rw [h3,h1.1,h1.2.1]
      show (0:Int)+W≤x.t.c
      have:=HCW.out
      omega)
     have E3:=Lib.hid (show y.t=(x.t.atX 0).down from hy.t)
     clear hy
     go_wp2_with fail
     go_meet
     case rel=>exact ⟨y,by rw [E3.out];exact Y.out,by rw [E3.out];exact E.out,E2.out⟩
  case rest =>
   obtain ⟨y,hy,he,hfit⟩:=hcut
   have Y:=Lib.hid hy
   have E:=Lib.hid he
   have FT:=Lib.hid hfit
   have HTc:=Lib.hid (HT.out.out HZ.out.tab hy.out.bel)
   have HR:=Lib.hid (row_any hy.cz)
   clear hy he hfit
   go_wp2_with fail
   refine HR.out.mono ?_
   rintro e w4 ⟨rfl,hb4⟩
   have Z4:=Lib.hid (Y.out.cz.below hb4)
   have T4:=Lib.hid (HTc.out.below hb4 (Nat.le_refl _))
   have K4:=Lib.hid (Y.out.below hb4)
   obtain ⟨sb,hsb⟩:∃ sb,y.sb=sb:=⟨_,rfl⟩
   obtain ⟨ro,hro⟩:∃ ro,y.ro=ro:=⟨_,rfl⟩
   obtain ⟨c,hcc⟩:∃ c,y.t.c=c:=⟨_,rfl⟩
   obtain ⟨N,hN⟩:∃ N,y.t.now=N:=⟨_,rfl⟩
   have SB:=Lib.hid (And.intro hsb (And.intro hro hcc))
   have HN0:=Lib.hid hN
   rw [hsb,hro,hcc]
   obtain ⟨I,hI⟩:∃ I,y.t.ins=I:=⟨_,rfl⟩
   have c26:w4.cell? ⟨g,26,none⟩=some (.bool I):=by rw [← hI];exact Z4.out.cell rfl
   have HI0:=Lib.hid hI
   clear hb4 hsb hro hcc hN hI
   go_upto_if 56 with fail
   clear c26
   go_cut [] from 57 to 73 (fun wc=>CzTo B g y (y.t.room W) w4 wc { y with t:=y.t.room W })
   case first =>
    cases I
    · have E5:=Lib.hid (show y.t.room W=y.t from by unfold Tm.room;rw [HI0.out];rfl)
      go_wp2_with fail
      go_meet
      case rel=>rw [E5.out];exact CzTo.refl Z4.out
    · have E5:=Lib.hid (show y.t.room W=y.t.put (inRowS (fun l=>insertS l N.x W N.pen) y.t.now.y y.t.shown) from by unfold Tm.room;rw [HI0.out,← HN0.out];rfl)
      obtain ⟨F,hF⟩:∃ F:List Ce→List Ce,F=(fun l=>insertS l N.x W N.pen):=⟨_,rfl⟩
      have HF:=Lib.hid (show (∀ l,(F l).length=l.length)∧(∀ l,RowOk l→RowOk (F l)) from by rw [hF];exact ⟨(fun _=>insertS_length _ _ _ _),(fun _ hl=>ins_ok hl _ _ (by rw [← HN0.out];exact Z4.out.ok.pen.may))⟩)
      have HFX:=Lib.hid hF
      have HO:=Lib.hid (fun w' (hb:Below w4.heap.size w4 w')=>(Z4.out.below hb).over HF.out.1 HF.out.2 SB.out.1 SB.out.2.1 SB.out.2.2)
      clear hF
      obtain ⟨ROW,hrow⟩:∃ ROW,lAt y.t.shown y.t.now.y.toNat=ROW:=⟨_,rfl⟩
      rw [hrow] at HO
      have HI:=Lib.hid (show ∀ w',Below w4.heap.size w4 w'→Calls Tryz.prog 102 #[.slice (some ⟨sb,ro*6,none⟩) c c,.int .i64 N.x,.int .i64 W,.agg #[.int .u32 N.pen.fg,.int .u32 N.pen.bg,.int .u8 N.pen.st,.int .u16 N.pen.lk]] w' (OpPost (F ROW) true w') from fun w' hb=>by
       have h0:=HO.out w' hb
       have h1:=insert_any (c:=c) N.x W N.pen h0.1 (T4.out.below hb (Nat.le_refl _)) (by have:=h0.2.2.2.2.2.1;omega)
       rw [(rowMay_iff _).2 h0.2.1,show penMayS N.pen=true from by rw [← HN0.out];exact Z4.out.ok.pen.may] at h1
       rw [HFX.out]
       exact h1)
      have HM2:=Lib.hid (HO.out w4 (Below.refl _ _)).2.2.1
      have SX:=Lib.hid (show ∀ w',Below w4.heap.size w4 w'→(Below B w4 w'∧w'.cell? ⟨g,1,none⟩=some (.int .i64 N.x)∧w'.cell? ⟨g,3,none⟩=some (.int .u32 N.pen.fg)∧w'.cell? ⟨g,4,none⟩=some (.int .u32 N.pen.bg)∧w'.cell? ⟨g,5,none⟩=some (.int .u8 N.pen.st)∧w'.cell? ⟨g,6,none⟩=some (.int .u16 N.pen.lk)) from fun w' hb=>⟨hb.mono Z4.out.bB,((Z4.out.below hb).c5 HN0.out).all⟩)
      have SY:=Lib.hid (show ∀ w0 w',Below w4.heap.size w4 w0→w0.grownBy w' (some sb)→(Below B w4 w'∧w'.cell? ⟨g,1,none⟩=some (.int .i64 N.x)∧w'.cell? ⟨g,3,none⟩=some (.int .u32 N.pen.fg)∧w'.cell? ⟨g,4,none⟩=some (.int .u32 N.pen.bg)∧w'.cell? ⟨g,5,none⟩=some (.int .u8 N.pen.st)∧w'.cell? ⟨g,6,none⟩=some (.int .u16 N.pen.lk)) from fun w0 w' hb hg=>by
       have z:=Z4.out.below hb
       have hs:=z.sbB
       rw [SB.out.1] at hs
       exact ⟨(hb.mono Z4.out.bB).grown hg (Nat.le_trans Z4.out.bB hb.size) (fun k hk=>by injection hk with hk;rw [← hk];exact Z4.out.lo _ hs.1),(((z.c5 HN0.out).grown hg fun e=>hs.2.1 e.symm)).all⟩)
      have HW2:=Lib.hid (fun w0 w' (hb:Below w4.heap.size w4 w0) (hg:w0.grownBy w' (some sb)) hr=>((CzTo.refl Z4.out).below hb).trans ((HO.out w0 hb).2.2.2.2.2.2 w' hg hr))
      have HQ:=Lib.hid (fun w0 (hb:Below w4.heap.size w4 w0)=>(HO.out w0 hb).2.2.2.1)
      have HFit:=Lib.hid (HO.out w4 (Below.refl _ _)).2.2.2.2.1
      clear hrow
      obtain ⟨_,e1,e3,e4,e5,e6⟩:=SX.out w4 (Below.refl _ _)
      have hb0:Below w4.heap.size w4 w4.drew:=(Below.refl _ _).drew
      go_wp2_with fail
      go_region_held3 (fun w'=>Below B w4 w'∧w'.cell? ⟨g,1,none⟩=some (.int .i64 N.x)∧w'.cell? ⟨g,3,none⟩=some (.int .u32 N.pen.fg)∧w'.cell? ⟨g,4,none⟩=some (.int .u32 N.pen.bg)∧w'.cell? ⟨g,5,none⟩=some (.int .u8 N.pen.st)∧w'.cell? ⟨g,6,none⟩=some (.int .u16 N.pen.lk))
       ((first | (refine SX.out _ ?_;assumption) | (refine SY.out _ _ ?_ hg5;assumption)))
       ((first
        | (go_at_call 102;refine (HI.out _ (by assumption)).mono ?_;rintro e w5 hP;obtain ⟨hb3,g3,c3,he,hq3,hk3,hm3,hR3⟩:=hP.1 rfl;rw [HM2.out] at he;subst he;have hb13:=Below.trans (B:=w4.heap.size) (by assumption) (hb3.mono (below_szp (a:=w4) (B:=w4.heap.size) (by assumption)));clear hP)
        | (rw [if_pos (by rfl)];refine oper_copy_V (.tmp 57) (.tmp 72) 24 24 rfl 66 ceV_len one_ce Tryz.underlying24 infoCe sb ro c c (some ⟨sb,ro*6,none⟩) (some ⟨g3,0,none⟩) c c3 rfl rfl 66 y.t.shown.flatten (F ROW) (HQ.out _ hb13) (by rw [HM2.out];exact (Nat.min_self c).symm) hR3.vs (fun _=>rfl) (by rw [HM2.out];exact HFit.out) ?_;intro w6 hR5 hg5;have ZZ:=Lib.hid (HW2.out _ w6 hb13 hg5 hR5))))
      clear hR5 hg5 hR3 hb13
      go_wp2_with fail
      go_meet
      case rel=>rw [E5.out,← HFX.out];exact ZZ.out
   case rest =>
    obtain ⟨z,hz⟩:∃ z:CT,z={ y with t:=y.t.room W }:=⟨_,rfl⟩
    have hzt:z.t=y.t.room W:=by rw [hz]
    have hlay:z.ro=y.ro∧z.sb=y.sb∧z.t.c=y.t.c∧z.t.now=y.t.now∧z.t.r=y.t.r:=by
     rw [hz]
     unfold Tm.room
     split
     · exact CT.laid_ro y _
     · exact ⟨rfl,rfl,rfl,rfl,rfl⟩
    rw [← hz] at hcut
    have K5:=Lib.hid (K4.out.trans hcut)
    have Z5:=Lib.hid hcut.cz
    have T5:=Lib.hid (T4.out.out HZ.out.tab hcut.out.bel)
    have SB5:=Lib.hid (show z.sb=sb∧z.ro=ro∧z.t.c=c from ⟨hlay.2.1.trans SB.out.1,hlay.1.trans SB.out.2.1,hlay.2.2.1.trans SB.out.2.2⟩)
    have HN5:=Lib.hid (show z.t.now=N from hlay.2.2.2.1.trans HN0.out)
    have E6:=Lib.hid (And.intro hzt hlay.2.2.2.2)
    clear hcut hz hzt hlay HI0
    obtain ⟨F,hF⟩:∃ F:List Ce→List Ce,F=(fun l=>putS l N.x r N.pen):=⟨_,rfl⟩
    have HF:=Lib.hid (show (∀ l,(F l).length=l.length)∧(∀ l,RowOk l→RowOk (F l)) from by rw [hF];exact ⟨(fun _=>putS_length _ _ _ _),(fun _ hl=>put_ok hl _ _ (by rw [← HN5.out];exact Z5.out.ok.pen.may))⟩)
    have HFX:=Lib.hid hF
    have HO:=Lib.hid (fun w' (hb:Below wc.heap.size wc w')=>(Z5.out.below hb).over HF.out.1 HF.out.2 SB5.out.1 SB5.out.2.1 SB5.out.2.2)
    clear hF
    obtain ⟨ROW,hrow⟩:∃ ROW,lAt z.t.shown z.t.now.y.toNat=ROW:=⟨_,rfl⟩
    rw [hrow] at HO
    have HI:=Lib.hid (show ∀ w',Below wc.heap.size wc w'→Calls Tryz.prog 103 #[.slice (some ⟨sb,ro*6,none⟩) c c,.int .i64 N.x,.int .i32 r,.agg #[.int .u32 N.pen.fg,.int .u32 N.pen.bg,.int .u8 N.pen.st,.int .u16 N.pen.lk]] w' (OpPost (F ROW) true w') from fun w' hb=>by
     have h0:=HO.out w' hb
     have h1:=put_any (c:=c) N.x r N.pen h0.1 (T5.out.below hb (Nat.le_refl _)) (by have:=h0.2.2.2.2.2.1;omega)
     rw [(rowMay_iff _).2 h0.2.1,show penMayS N.pen=true from by rw [← HN5.out];exact Z5.out.ok.pen.may] at h1
     rw [HFX.out]
     exact h1)
    have HM2:=Lib.hid (HO.out wc (Below.refl _ _)).2.2.1
    have SX:=Lib.hid (show ∀ w',Below wc.heap.size wc w'→(Below B wc w'∧w'.cell? ⟨g,1,none⟩=some (.int .i64 N.x)∧w'.cell? ⟨g,3,none⟩=some (.int .u32 N.pen.fg)∧w'.cell? ⟨g,4,none⟩=some (.int .u32 N.pen.bg)∧w'.cell? ⟨g,5,none⟩=some (.int .u8 N.pen.st)∧w'.cell? ⟨g,6,none⟩=some (.int .u16 N.pen.lk)) from fun w' hb=>⟨hb.mono Z5.out.bB,((Z5.out.below hb).c5 HN5.out).all⟩)
    have SY:=Lib.hid (show ∀ w0 w',Below wc.heap.size wc w0→w0.grownBy w' (some sb)→(Below B wc w'∧w'.cell? ⟨g,1,none⟩=some (.int .i64 N.x)∧w'.cell? ⟨g,3,none⟩=some (.int .u32 N.pen.fg)∧w'.cell? ⟨g,4,none⟩=some (.int .u32 N.pen.bg)∧w'.cell? ⟨g,5,none⟩=some (.int .u8 N.pen.st)∧w'.cell? ⟨g,6,none⟩=some (.int .u16 N.pen.lk)) from fun w0 w' hb hg=>by
     have z:=Z5.out.below hb
     have hs:=z.sbB
     rw [SB5.out.1] at hs
     exact ⟨(hb.mono Z5.out.bB).grown hg (Nat.le_trans Z5.out.bB hb.size) (fun k hk=>by injection hk with hk;rw [← hk];exact Z5.out.lo _ hs.1),(((z.c5 HN5.out).grown hg fun e=>hs.2.1 e.symm)).all⟩)
    have HW2:=Lib.hid (fun w0 w' (hb:Below wc.heap.size wc w0) (hg:w0.grownBy w' (some sb)) hr=>((CzTo.refl Z5.out).below hb).trans ((HO.out w0 hb).2.2.2.2.2.2 w' hg hr))
    have HQ:=Lib.hid (fun w0 (hb:Below wc.heap.size wc w0)=>(HO.out w0 hb).2.2.2.1)
    have HFit:=Lib.hid (HO.out wc (Below.refl _ _)).2.2.2.2.1
    clear hrow
    obtain ⟨_,e1,e3,e4,e5,e6⟩:=SX.out wc (Below.refl _ _)
    have hb0:Below wc.heap.size wc wc.drew:=(Below.refl _ _).drew
    go_wp2_with fail
    go_region_held3 (fun w'=>Below B wc w'∧w'.cell? ⟨g,1,none⟩=some (.int .i64 N.x)∧w'.cell? ⟨g,3,none⟩=some (.int .u32 N.pen.fg)∧w'.cell? ⟨g,4,none⟩=some (.int .u32 N.pen.bg)∧w'.cell? ⟨g,5,none⟩=some (.int .u8 N.pen.st)∧w'.cell? ⟨g,6,none⟩=some (.int .u16 N.pen.lk))
     ((first | (refine SX.out _ ?_;assumption) | (refine SY.out _ _ ?_ hg5;assumption)))
     ((first
      | (go_at_call 103;refine (HI.out _ (by assumption)).mono ?_;rintro e w5 hP;obtain ⟨hb3,g3,c3,he,hq3,hk3,hm3,hR3⟩:=hP.1 rfl;rw [HM2.out] at he;subst he;have hb13:=Below.trans (B:=wc.heap.size) (by assumption) (hb3.mono (below_szp (a:=wc) (B:=wc.heap.size) (by assumption)));clear hP)
      | (rw [if_pos (by rfl)];refine oper_copy_V (.tmp 74) (.tmp 89) 24 24 rfl 66 ceV_len one_ce Tryz.underlying24 infoCe sb ro c c (some ⟨sb,ro*6,none⟩) (some ⟨g3,0,none⟩) c c3 rfl rfl 66 z.t.shown.flatten (F ROW) (HQ.out _ hb13) (by rw [HM2.out];exact (Nat.min_self c).symm) hR3.vs (fun _=>rfl) (by rw [HM2.out];exact HFit.out) ?_;intro w6 hR5 hg5;have ZZ:=Lib.hid (HW2.out _ w6 hb13 hg5 hR5))))
    clear hR5 hg5 hR3 hb13
    have LD:=Lib.hid (CT.laid_ro z (inRowS F z.t.now.y z.t.shown))
    obtain ⟨z2,hz2⟩:∃ z2:CT,z2={ z with t:=z.t.put (inRowS F z.t.now.y z.t.shown) }:=⟨_,rfl⟩
    rw [← hz2] at ZZ LD
    have Q:=Lib.hid (show z2.t.now=N∧z2.t.c=c∧z2.t=(y.t.room W).inked r from ⟨LD.out.2.2.2.1.trans HN5.out,LD.out.2.2.1.trans SB5.out.2.2,by
     rw [hz2,← E6.out.1,HFX.out]
     unfold Tm.inked
     rw [HN5.out]⟩)
    have zx1:=ZZ.out.cz.ok.x1
    have zx0:=ZZ.out.cz.ok.x0
    have zc:=ZZ.out.cz.ok.c1
    have zw:=TmOk.width_ge r
    have zw2:=width_le r
    rw [HWW.out] at zw zw2
    have R0:=Lib.hid ZZ.out.cz.raw
    have HX1:=Lib.hid (show (ctV z2)[1]?=some (.int .i64 N.x)∧(ctV z2)[15]?=some (.int .i64 (c:Int)) from ⟨by rw [← Q.out.1];rfl,by rw [← Q.out.2.1];rfl⟩)
    have d1:w6.cell? ⟨g,1,none⟩=some (.int .i64 N.x):=R0.out.cell HX1.out.1
    have g1:=R0.out.fr 1
    have d111:=ZZ.out.cz.lastC
    have g111:=R0.out.fr 111
    rw [Q.out.1] at zx1 zx0
    rw [Q.out.2.1] at zx1 zc
    have HB:=Lib.hid (And.intro zx0 (And.intro zx1 (And.intro zc (And.intro zw zw2))))
    have k0:wrap64 (N.x+W)=N.x+W:=by unfold wrap64;omega
    have k1:IntKind.i64.wrap (N.x+W)=N.x+W:=by clear k0;rw [IntKind.wrap_i64];omega
    clear hz2 zx1 zx0 zc zw zw2
    go_upto_region 11 with fail
    have R7:=Lib.hid (show RwG w6 g (((ctV z2).set 111 (.int .i32 r)).set 1 (.int .i64 (N.x+W))) ((w6.setCell ⟨g,111,none⟩ (.int .i32 r)).setCell ⟨g,1,none⟩ (.int .i64 (N.x+W))) from (R0.out.set 111 _).set 1 _)
    generalize ((w6.setCell ⟨g,111,none⟩ (.int .i32 r)).setCell ⟨g,1,none⟩ (.int .i64 (N.x+W)))=w7 at R7 ⊢
    clear d1 g1 d111 g111 k0 k1
    have R8:=Lib.hid (R7.out.below (Below.refl _ _).drew)
    have HL8:=Lib.hid (lastCol_raw (g:=g) (w:=w7.drew) (C:=(c:Int)) (R8.out.cell (by rw [List.getElem?_set_ne (by decide),List.getElem?_set_ne (by decide)];exact HX1.out.2)) HB.out.2.2.1)
    have s1:w7.cell? ⟨g,1,none⟩=some (.int .i64 (N.x+W)):=R7.out.cell rfl
    have s22:w7.drew.cell? ⟨g,22,none⟩=some (.bool z2.t.full):=R8.out.cell rfl
    have f22:=R8.out.fr 22
    go_wp2_with fail
    go_still_tail 13,(by kernel_rfl)
    still_call HL8.out
    repeat still_step
    refine wpStill_nil ?_
    change wpList _ _ _ _ _ w7.drew
    generalize w7.drew=w8 at s22 f22 R8 ⊢
    clear s1 HL8 R7
    go_wp2_with fail
    have R9:=Lib.hid (R8.out.set 22 (.bool (decide ((c:Int)-1<N.x+W))))
    have ok2:=ZZ.out.cz.ok
    have HCC:=Lib.hid (cutCursor_raw (X:=N.x+W) (Y:=z2.t.now.y) (C:=z2.t.c) (R:=z2.t.r) R9.out rfl rfl rfl rfl ok2.c1 ok2.r1)
    clear ok2
    refine HCC.out.mono ?_
    rintro e w9 ⟨rfl,hR⟩
    have R10:=Lib.hid hR
    clear hR
    go_wp2_with fail
    go_end0
    have FIN:=ZZ.out.cz.lettered (w':=w9) (X:=N.x+W) (r:=r) (by have:=HB.out;omega) (by rw [Q.out.2.1];have:=R10.out;rw [Q.out.2.1] at this;exact this)
    exact ⟨rfl,_,((K5.out.trans ZZ.out).trans FIN).as (by
     rw [E.out,letter_is,HWW.out,← Q.out.2.2,HN0.out,SB.out.2.2,Q.out.2.1])⟩
end
end Go.Proofs.YtlcipgdnpilkfaaGreatDoor
