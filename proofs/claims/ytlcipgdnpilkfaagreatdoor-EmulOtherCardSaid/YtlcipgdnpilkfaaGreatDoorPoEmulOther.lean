/-
  Proved: EmulOther answers true for every size and all bytes, over the tables that the library and the program lay (a tied card).
-/
import Derived.Test.YtlcipgdnpilkfaaGreatDoorCards
import Derived.Test.YtlcipgdnpilkfaaGreatDoorTie
import Derived.SevenTiedAt
import Derived.WalkKit
import Derived.BigQuiet
import Derived.Test.YtlcipgdnpilkfaaGreatDoorPo01
import Derived.Test.YtlcipgdnpilkfaaGreatDoorPo34
import Derived.Test.YtlcipgdnpilkfaaGreatDoorPo46
namespace Go.Proofs.YtlcipgdnpilkfaaGreatDoor.emulOther
open Go.ChangeShapes Go.WideShapes Go.ChangeAt Go.RowKit
set_option maxHeartbeats 6400000 in
set_option maxRecDepth 100000 in
theorem walk {cols rows:Int} {A A':Option Addr} {n n' c c':Nat} {zs ys:List Int} (w:World) (hT:Tabs w) (hc0:(Lit.int .u8 cols).wf=true) (hr0:(Lit.int .u8 rows).wf=true) (hs0:Sb w A n zs) (hu0:U8s zs) (hm0:n≤140737488351232) (hs1:Sb w A' n' ys) (hu1:U8s ys) (hm1:n'≤140737488351232) :
  Calls Tryz.prog 9 #[.int .u8 cols,.int .u8 rows,.slice A n c,.slice A' n' c'] w fun e w'=>e=.returned (.bool true)∧Below w.heap.size w w':=by
 have HU:=Lib.hid (show (0≤cols∧cols≤255)∧(0≤rows∧rows≤255) from ⟨bounds_u8 hc0,bounds_u8 hr0⟩)
 have H:=Lib.hid (And.intro hs0 (And.intro hs1 (And.intro hu0 hu1)))
 have HT:=Lib.hid hT
 clear hs0 hs1 hu0 hu1 hT hc0 hr0
 have kc:=fun (w:World) (C:Array Value) (n c:Nat)=>Lib.run_convert_bytes_const (P:=Tryz.prog) w 36 5 C n c Tryz.underlying36 Tryz.underlying5
 go_enter Tryz.func9,Tryz.ntmps9
 go_wp2_with fail
 refine (begin12_any (w0:=w) HT.out (Below.refl _ _) HU.out.1 HU.out.2).mono ?_
 rintro e wa1 ⟨hb,g1,x1,y1,rfl,hB⟩
 obtain ⟨es1,hes⟩:∃ es,es=(rtV y1).toArray:=⟨_,rfl⟩
 have HE1:=Lib.hid (show es1.size=116∧es1.all (·.oneCell')=true from by
  have hys:y1.t.tabs.length=80:=by rw [hB.rt.t];rfl
  rw [hes]
  exact ⟨by rw [List.size_toArray];exact rtV_len hys,rt_one _⟩)
 rw [← hes]
 obtain ⟨b1,hbb⟩:∃ b,b=wa1.heap.size:=⟨_,rfl⟩
 obtain ⟨wb1,hw⟩:∃ w',w'=wa1.alloc (.cells (rtV rt0).toArray 42):=⟨_,rfl⟩
 have HC1:=Lib.hid (show Below wa1.heap.size wa1 wb1∧RtB wb1 b1 rt0∧b1=wa1.heap.size from ⟨by rw [hw];exact (Below.refl _ _).alloc (Nat.le_refl _) _,by rw [hw,hbb];exact heap_alloc_new wa1 _,hbb⟩)
 have HA1:=Lib.hid (And.intro hb hB)
 clear hb hB hes
 go_upto_region 2 with (first | (refine wpList_store_row rfl 42 (.tmp 10) (.tmp 21) rfl b1 es1 (by rw [hbb];rfl) rfl 42 (rtV rt0).toArray (by rw [zeroRT,← hw];exact HC1.out.2.1) (by rw [HE1.out.1];exact infoRT1) (by rw [HE1.out.1];rfl) HE1.out.2 ?_))
 rw [zeroRT,← hw,← hbb]
 clear hw hbb
 obtain ⟨wc1,hw⟩:∃ w',w'=wb1.setRow b1 es1:=⟨_,rfl⟩
 have HD1:=Lib.hid (show Below wa1.heap.size wa1 wc1 from by
  rw [hw]
  exact below_setRow HC1.out.1 (Nat.le_of_eq HC1.out.2.2.symm) _)
 rw [← hw]
 clear hw
 have X1:=Lib.hid (show Lw w wc1 g1 x1 (tmNew (colsN cols) (rowsN rows))∧Below w.heap.size w wc1 from ⟨HA1.out.2.lw.below HD1.out,HA1.out.1.trans (HD1.out.mono HA1.out.1.size)⟩)
 clear HA1 HC1 HD1 HE1
 obtain ⟨T0,hT0⟩:∃ T0,tmNew (colsN cols) (rowsN rows)=T0:=⟨_,rfl⟩
 rw [hT0] at X1
 clear hT0
 by_cases hn:n≤300
 case neg =>
  go_wp2_with fail
  go_ret
  exact ⟨rfl,X1.out.2⟩
 by_cases hn':n'≤300
 case neg =>
  go_wp2_with fail
  go_ret
  exact ⟨rfl,X1.out.2⟩
 go_wp2_with fail
 refine (feed_lw HT.out X1.out.1 (H.out.1.below X1.out.2) H.out.2.2.1 (by omega) (fun ad e hp hq=>by subst e;have h1:=H.out.1.lt hp;have h2:=X1.out.1.cz.lo _ hq;omega)).mono ?_
 rintro e w3 ⟨rfl,z3,hL,hk⟩
 obtain ⟨T1,hT1⟩:∃ T1,T0.feed zs=T1:=⟨_,rfl⟩
 rw [hT1] at hL
 have X3:=Lib.hid hL
 clear hL hk hT1 X1
 go_wp2_with fail
 refine (lit_lw HT.out X3.out l24 9 rfl u24 (by decide) #[.int .u8 24,.int .u8 27,.int .u8 91,.int .u8 63,.int .u8 49,.int .u8 48,.int .u8 52,.int .u8 57,.int .u8 108] rfl (9,10) rfl _).mono ?_
 rintro e w4 ⟨rfl,z4,hL,hof⟩
 have X4:=Lib.hid hL
 have HOK:=Lib.hid (show TmOk T1∧LkOk T1 from by
  have h1:=X3.out.cz.ok
  rw [X3.out.tm] at h1
  exact ⟨h1,X3.out.sane.lk⟩)
 clear hL hof X3
 have HLAW:=Lib.hid (fun (l:List AcS) (ha:∀ a∈l,savesA a=false)=>other_law HOK.out.1 HOK.out.2 l ha)
 have HLW:=Lib.hid (show ∀ (l:List AcS),(∀ a∈l,savesA a=false)→((l.foldl Tm.doA ((T1.feed l24).feed lOn)).feed lOff).screen.cells=(T1.feed l24).screen.cells∧((l.foldl Tm.doA ((T1.feed l24).feed lOn)).feed lOff).screen.x=(T1.feed l24).screen.x∧((l.foldl Tm.doA ((T1.feed l24).feed lOn)).feed lOff).screen.y=(T1.feed l24).screen.y∧rightSc ((l.foldl Tm.doA ((T1.feed l24).feed lOn)).feed lOff).screen=true from HLAW.out)
 clear HLAW HOK
 obtain ⟨T2,hT2⟩:∃ T2,T1.feed l24=T2:=⟨_,rfl⟩
 rw [hT2] at X4 HLW
 clear hT2
 go_wp2_with fail
 refine (screen_lw X4.out).mono ?_
 rintro e wd12 ⟨hb5,s12,rfl,hs⟩
 obtain ⟨b12,hb9⟩:∃ b,b=wd12.heap.size:=⟨_,rfl⟩
 obtain ⟨we12,hw6⟩:∃ w',w'=wd12.alloc (.cells #[.int .i64 0,.int .i64 0,.slice none 0 0,.int .i64 0,.int .i64 0,.bool false,.int .u8 0,.string ⟨#[]⟩,.slice none 0 0] 56):=⟨_,rfl⟩
 have hone:(scrA s12).all (·.oneCell')=true:=by
  rw [Array.all_eq_true_iff_forall_mem]
  intro v hv
  simp only [scrA,List.mem_toArray,List.mem_cons,List.not_mem_nil,or_false] at hv
  rcases hv with rfl | rfl | rfl | rfl | rfl | rfl | rfl | rfl | rfl<;>rfl
 have HO:=Lib.hid hone
 have H30:=Lib.hid (show we12.heap[b12]?=some (.cells (scrA scN) 56 (0,0))∧Below wd12.heap.size wd12 we12∧b12=wd12.heap.size from ⟨by rw [hw6,hb9];exact heap_alloc_new wd12 _,by rw [hw6];exact (Below.refl _ _).alloc (Nat.le_refl _) _,hb9⟩)
 have HSC:=Lib.hid (And.intro hb5 hs)
 clear hone hb5 hs
 go_upto_region 7 with (refine wpList_store_row rfl 56 (.tmp 12) (.tmp 44) rfl b12 (scrA s12) (by rw [hb9];rfl) rfl 56 (scrA scN) (by rw [← hw6];exact H30.out.1) info56 rfl HO.out ?_)
 rw [← hw6,← hb9]
 obtain ⟨wf12,hw7⟩:∃ w',w'=we12.setRow b12 (scrA s12):=⟨_,rfl⟩
 rw [← hw7]
 have HDF:=Lib.hid (show Below wd12.heap.size wd12 wf12∧wf12.heap[b12]?=some (.cells (scrA s12) 56 (0,0)) from ⟨by rw [hw7];exact below_setRow H30.out.2.1 (Nat.le_of_eq H30.out.2.2.symm) _,by rw [hw7];exact setRow_heap we12 _ _ _ _ _ H30.out.1⟩)
 have KP12:=Lib.hid (show Kept wf12 g1 z4 b12 s12 (T2).screen.cells from ⟨HDF.out.2,⟨(Array.getElem?_eq_some_iff.1 HDF.out.2).1,fun hq=>by
  have h1:=X4.out.cz.hi _ hq
  have h2:=HSC.out.1.size
  have h3:=H30.out.2.2
  omega⟩,HSC.out.2.sc.cells.below HDF.out.1,fun ad e hn=>by
  obtain ⟨gg,e2,h2,h3⟩:=HSC.out.2.cx.own hn
  rw [e2] at e
  injection e with e
  subst e
  have h4:=HDF.out.1.size
  have h5:=(Array.getElem?_eq_some_iff.1 h3.choose_spec).1
  exact ⟨by show gg<_;omega,fun hq=>by have h1:=X4.out.cz.hi _ hq;have:w4.heap.size≤gg:=h2;have:gg<w4.heap.size:=h1;omega⟩⟩)
 have KS12:=Lib.hid (show s12.x=(T2).screen.x∧s12.y=(T2).screen.y∧s12.n≤1920∧s12.n≤s12.k∧s12.c=(T2).screen.c from ⟨HSC.out.2.sc.x.symm,HSC.out.2.sc.y.symm,HSC.out.2.n,HSC.out.2.sc.nk,HSC.out.2.sc.c.symm⟩)
 have LW12:=Lib.hid (show Lw w wf12 g1 z4 (T2) from (X4.out.below HSC.out.1).below HDF.out.1)
 have KK12:=Lib.hid (HSC.out.1.trans (HDF.out.1.mono HSC.out.1.size))
 have KI12:=Lib.hid (show ScIn wf12 s12 (T2).screen∧s12.m≤16 from ⟨HSC.out.2.sc.below HDF.out.1,HSC.out.2.m⟩)
 clear HO H30 HSC HDF hw6 hw7 hb9
 clear X4 KK12
 go_wp2_with fail
 refine (lit_lw HT.out LW12.out lOn 8 rfl uOn (by decide) #[.int .u8 27,.int .u8 91,.int .u8 63,.int .u8 49,.int .u8 48,.int .u8 52,.int .u8 57,.int .u8 104] rfl (8,9) rfl _).mono ?_
 rintro e w5 ⟨rfl,z5,hL,hof⟩
 obtain ⟨T3,hT3⟩:∃ T3,T2.feed lOn=T3:=⟨_,rfl⟩
 rw [hT3] at hL HLW
 have X5:=Lib.hid (And.intro hL (KP12.out.on hof))
 clear hL hof hT3 KP12 LW12
 go_wp2_with fail
 refine (otherT_any (HT.out.below X5.out.1.bel (Nat.le_refl _)) (H.out.2.1.below X5.out.1.bel) H.out.2.2.2 (by omega)).mono ?_
 rintro e w6 ⟨A6,c6,R6,rfl,hA6,hL6,_,_,hb6,hF6,hB6,hR6⟩
 have HA:=Lib.hid (acts_of_other X5.out.1 H.out.2.2.2 hA6 hL6 hF6 hB6)
 have HSV:=Lib.hid (HLW.out (acts R6) (saves_none hL6))
 have X6:=Lib.hid (And.intro (X5.out.1.below hb6) (X5.out.2.below hb6))
 clear hA6 hL6 hb6 hF6 hB6 X5 HLW
 obtain ⟨N,hN⟩:∃ N,R6.length=N:=⟨_,rfl⟩
 rw [hN] at hR6
 have HN:=Lib.hid hN
 have HAC:=Lib.hid (show (acts R6).take N=acts R6 from List.take_of_length_le (by rw [acts_len,hN];exact Nat.le_refl _))
 rw [hN]
 clear hN
 go_wp2_with fail
 go_loopw [52] (fun i wr=>∃ (k:Nat) (z:CT),k≤N∧i=.int .i64 k∧Lw w wr g1 z (((acts R6).take k).foldl Tm.doA T3)∧CzTo w.heap.size g1 z5 (((acts R6).take k).foldl Tm.doA T3) w6 wr z∧Kept wr g1 z b12 s12 T2.screen.cells) (fun i _=>N-(intOf i).toNat)
 case atStart=>exact ⟨0,z5,Nat.zero_le _,rfl,X6.out.1,by rw [List.take_zero];show CzTo _ _ _ T3 _ _ _;have:=CzTo.refl X6.out.1.cz;rw [X6.out.1.tm] at this;exact this,X6.out.2⟩
 case round =>
  obtain ⟨k,z,hk,rfl,hL,hC,hK⟩:=hrel
  have X:=Lib.hid (And.intro hL (And.intro hC hK))
  clear hL hC hK X6
  by_cases hlt:k<N
  · obtain ⟨ad,y,rfl,hy,hyR,hsx,hin⟩:=HA.out.at_ X.out.2.1 (j:=k) (by have:=HN.out;omega)
    obtain ⟨x0,xx1,x2,xx3,x4,x5⟩:=hsx
    obtain ⟨w7,hw7⟩:∃ w7,w7=wr.alloc (.cells (acA y) 62):=⟨_,rfl⟩
    obtain ⟨b7,hb7⟩:∃ b7,b7=wr.heap.size:=⟨_,rfl⟩
    have H7:=Lib.hid (show Below wr.heap.size wr w7∧Sxb w7 b7 y from by
     rw [hw7,hb7]
     exact ⟨(Below.refl _ _).alloc (Nat.le_refl _) _,Sxb.new wr y _⟩)
    have HY:=Lib.hid (And.intro hy hin)
    clear hy hin hyR
    unfold acA at hw7
    go_upto_region 11 with fail
    rw [← hw7,← hb7]
    clear hw7 hb7 x0 xx1 x2 xx3 x4 x5
    obtain ⟨_,p0,p1,p2,p3,p4,p5⟩:=H7.out.2
    go_wp2_with fail
    have hfold:#[Value.int .i64 y.a.k,Value.int .i32 y.a.r,Value.int .u8 y.a.m,Value.int .u8 y.a.fin,Value.slice y.P y.np y.cp,Value.slice y.T y.nt y.ct]=acA y:=rfl
    try rw [hfold]
    clear hfold p0 p1 p2 p3 p4 p5
    refine (do_lw HT.out (X.out.1.below H7.out.1) y (HY.out.2.below H7.out.1)).mono ?_
    rintro e w8 ⟨rfl,z8,hL8,hk8⟩
    have hs:=(acts_snoc HY.out.1 T3).symm
    rw [hs] at hL8 hk8
    have Y:=Lib.hid (And.intro hL8 (And.intro ((X.out.2.1.below H7.out.1).trans hk8) ((X.out.2.2.below H7.out.1).on fun b hb=>hb.step hk8)))
    clear hL8 hk8 hs X
    go_wp2_with fail
    go_roundw
    case rel=>exact ⟨k+1,z8,by omega,by go_num,Y.out⟩
    case measure=>simp [intOf];omega
  · obtain rfl:k=N:=by omega
    rw [HAC.out] at X
    obtain ⟨T4,hT4⟩:∃ T4,(acts R6).foldl Tm.doA T3=T4:=⟨_,rfl⟩
    rw [hT4] at X HSV
    have X7:=Lib.hid (And.intro X.out.1 X.out.2.2)
    clear hT4 X HAC
    go_wp2_with fail
    refine (lit_lw HT.out X7.out.1 lOff 8 rfl uOff (by decide) #[.int .u8 27,.int .u8 91,.int .u8 63,.int .u8 49,.int .u8 48,.int .u8 52,.int .u8 57,.int .u8 108] rfl (8,9) rfl _).mono ?_
    rintro e w9 ⟨rfl,z9,hL,hof⟩
    obtain ⟨T5,hT5⟩:∃ T5,T4.feed lOff=T5:=⟨_,rfl⟩
    rw [hT5] at hL HSV
    have X9:=Lib.hid (And.intro hL (X7.out.2.on hof))
    clear hL hof hT5 X7
    go_wp2_with fail
    refine (screen_lw X9.out.1).mono ?_
    rintro e wd15 ⟨hb5,s15,rfl,hs⟩
    obtain ⟨b15,hb9⟩:∃ b,b=wd15.heap.size:=⟨_,rfl⟩
    obtain ⟨we15,hw6⟩:∃ w',w'=wd15.alloc (.cells #[.int .i64 0,.int .i64 0,.slice none 0 0,.int .i64 0,.int .i64 0,.bool false,.int .u8 0,.string ⟨#[]⟩,.slice none 0 0] 56):=⟨_,rfl⟩
    have hone:(scrA s15).all (·.oneCell')=true:=by
     rw [Array.all_eq_true_iff_forall_mem]
     intro v hv
     simp only [scrA,List.mem_toArray,List.mem_cons,List.not_mem_nil,or_false] at hv
     rcases hv with rfl | rfl | rfl | rfl | rfl | rfl | rfl | rfl | rfl<;>rfl
    have HO:=Lib.hid hone
    have H30:=Lib.hid (show we15.heap[b15]?=some (.cells (scrA scN) 56 (0,0))∧Below wd15.heap.size wd15 we15∧b15=wd15.heap.size from ⟨by rw [hw6,hb9];exact heap_alloc_new wd15 _,by rw [hw6];exact (Below.refl _ _).alloc (Nat.le_refl _) _,hb9⟩)
    have HSC:=Lib.hid (And.intro hb5 hs)
    clear hone hb5 hs
    go_upto_region 15 with (refine wpList_store_row rfl 56 (.tmp 15) (.tmp 65) rfl b15 (scrA s15) (by rw [hb9];rfl) rfl 56 (scrA scN) (by rw [← hw6];exact H30.out.1) info56 rfl HO.out ?_)
    rw [← hw6,← hb9]
    obtain ⟨wf15,hw7⟩:∃ w',w'=we15.setRow b15 (scrA s15):=⟨_,rfl⟩
    rw [← hw7]
    have HDF:=Lib.hid (show Below wd15.heap.size wd15 wf15∧wf15.heap[b15]?=some (.cells (scrA s15) 56 (0,0)) from ⟨by rw [hw7];exact below_setRow H30.out.2.1 (Nat.le_of_eq H30.out.2.2.symm) _,by rw [hw7];exact setRow_heap we15 _ _ _ _ _ H30.out.1⟩)
    have KP15:=Lib.hid (show Kept wf15 g1 z9 b15 s15 (T5).screen.cells from ⟨HDF.out.2,⟨(Array.getElem?_eq_some_iff.1 HDF.out.2).1,fun hq=>by
     have h1:=X9.out.1.cz.hi _ hq
     have h2:=HSC.out.1.size
     have h3:=H30.out.2.2
     omega⟩,HSC.out.2.sc.cells.below HDF.out.1,fun ad e hn=>by
     obtain ⟨gg,e2,h2,h3⟩:=HSC.out.2.cx.own hn
     rw [e2] at e
     injection e with e
     subst e
     have h4:=HDF.out.1.size
     have h5:=(Array.getElem?_eq_some_iff.1 h3.choose_spec).1
     exact ⟨by show gg<_;omega,fun hq=>by have h1:=X9.out.1.cz.hi _ hq;have:w9.heap.size≤gg:=h2;have:gg<w9.heap.size:=h1;omega⟩⟩)
    have KS15:=Lib.hid (show s15.x=(T5).screen.x∧s15.y=(T5).screen.y∧s15.n≤1920∧s15.n≤s15.k∧s15.c=(T5).screen.c from ⟨HSC.out.2.sc.x.symm,HSC.out.2.sc.y.symm,HSC.out.2.n,HSC.out.2.sc.nk,HSC.out.2.sc.c.symm⟩)
    have LW15:=Lib.hid (show Lw w wf15 g1 z9 (T5) from (X9.out.1.below HSC.out.1).below HDF.out.1)
    have KK15:=Lib.hid (HSC.out.1.trans (HDF.out.1.mono HSC.out.1.size))
    have KI15:=Lib.hid (show ScIn wf15 s15 (T5).screen∧s15.m≤16 from ⟨HSC.out.2.sc.below HDF.out.1,HSC.out.2.m⟩)
    clear HO H30 HSC HDF hw6 hw7 hb9
    have KP12:=Lib.hid (X9.out.2.below KK15.out)
    clear X9
    have HX:=Lib.hid (show s15.x=s12.x∧s15.y=s12.y from ⟨by rw [KS15.out.1,HSV.out.2.1,KS12.out.1],by rw [KS15.out.2.1,HSV.out.2.2.1,KS12.out.2.1]⟩)
    have HV:=Lib.hid (show Vs ceV wf15 s15.A s15.n T2.screen.cells∧Vs ceV wf15 s12.A s12.n T2.screen.cells∧s15.n≤1000000∧s12.n≤9223372036854775807 from ⟨by rw [← HSV.out.1];exact KP15.out.vs,KP12.out.vs,by have:=KS15.out.2.2.1;omega,by have:=KS12.out.2.2.1;omega⟩)
    have HRT:=Lib.hid (fun (w':World) (hb:Below wf15.heap.size wf15 w')=>rightT_any ((LW15.out.below hb).tabs HT.out) (KI15.out.1.below hb) (by have:=KS15.out.2.2.1;omega) (by have:=KI15.out.2;omega))
    rw [HSV.out.2.2.2] at HRT
    obtain ⟨p0,p1,p2,p3,p4,p5,p6,p7,p8,_⟩:=row_scc KP15.out.row
    obtain ⟨_,_,q2,q3,q4,_⟩:=row_scc KP12.out.row
    go_wp2_with fail
    refine (sameC_any HV.out.1 HV.out.2.1 HV.out.2.2.1 HV.out.2.2.2).mono ?_
    rintro e w10 ⟨rfl,qq,hw10⟩
    have HB10:=Lib.hid (show Below wf15.heap.size wf15 w10 from by rw [hw10];exact belowN (Below.refl _ _) qq)
    clear hw10 p0 p1 p2 p3 p4 p5 p6 p7 p8 q2 q3 q4
    rw [decide_eq_true (rfl:T2.screen.cells=T2.screen.cells)]
    obtain ⟨p0,p1,p2,p3,p4,p5,p6,p7,p8,_⟩:=row_scc (KP15.out.below HB10.out).row
    obtain ⟨_,_,q2,q3,q4,_⟩:=row_scc (KP12.out.below HB10.out).row
    rw [HX.out.1] at p3
    rw [HX.out.2] at p4
    go_wp2_with fail
    have hfold:#[Value.int .i64 s15.c,Value.int .i64 s15.r,Value.slice s15.A s15.n s15.k,Value.int .i64 s12.x,Value.int .i64 s12.y,Value.bool s15.hid,Value.int .u8 s15.mouse,Value.string s15.ttl,Value.slice s15.T s15.m s15.q]=scrA s15:=by rw [← HX.out.1,← HX.out.2];rfl
    rw [hfold]
    clear hfold p0 p1 p2 p3 p4 p5 p6 p7 p8 q2 q3 q4
    refine (HRT.out _ HB10.out).mono ?_
    rintro e w11 ⟨rfl,hb11⟩
    have Z:=Lib.hid ((LW15.out.below HB10.out).bel.trans (hb11.mono (LW15.out.below HB10.out).bel.size))
    clear hb11
    go_wp2_with fail
    go_ret
    exact ⟨rfl,Z.out⟩
set_option maxRecDepth 100000 in
theorem lifted (os:Os) (started:os.Started) (H:Type) (enc:TypeId × Value→H) :
  ReturnsInHanded {} Tryz.checked os 9 .any (fun w args=>(Rows.emulOtherSpec.pre enc Tryz.prog Tryz.f9 [] false w args∧laidMetH Tryz.prog laidL w)∧sizedMet enc Tryz.prog Tryz.f9 (OpenSpec.ofChange Rows.emulOtherSpec) false w args)
   (Rows.emulOtherSpec.post enc Tryz.prog Tryz.f9 false true false false):=by
 refine returnsInHanded_of_change_and (C:=Tryz.checked) (X:=fun w _=>laidMetH Tryz.prog laidL w) (fun _ _ _ hh h=>h.of_heap hh) own started (by kernel_rfl) Tryz.func9
  (ChangeSpec.witness_shaped (enc:=enc) (C:=Tryz.checked) (os:=os) (X:=fun w _=>laidMetH Tryz.prog laidL w) false (World.laidAll Tryz.prog os laidL) #[.int .u8 0,.int .u8 0,.slice none 0 0,.slice none 0 0] 8 (World.laidAll_os _ _ _) (start_shaped os) (by kernel_rfl) (by kernel_rfl) (by kernel_rfl) (start_met os _)) ?_
 intro W base args ds gs before hval0 hW _ hsz0 hL _
 have hsz:(DataW.weightsEach Tryz.prog (Tryz.f9.params.toList ++ Rows.emulOtherSpec.plain.varTypes Tryz.prog) (ds ++ gs)).all (·≤reachBytes)=true:=hsz0
 clear hsz0
 have hval:∀ (j:Nat) t v,Tryz.f9.params[j]?=some t→args[j]?=some v→Value.okWide Tryz.prog W .any base t v:=hval0
 have hW':=hW
 obtain ⟨p,q,hA0,hV,rfl,_,_⟩:=hW
 have hA:DataW.TrodAll enc Tryz.prog W 0 (fun _=>true) true Tryz.f9.params.toList args.toList ds p:=hA0
 rw [Tryz.params9] at hA hval hsz
 obtain ⟨v0,vs0,d0,ds0,p0,q0,hargs,rfl,rfl,h0,r0⟩:=trodAll_cons hA
 obtain ⟨v1,vs1,d1,ds1,p1,q1,rfl,rfl,rfl,h1,r1⟩:=trodAll_cons r0
 obtain ⟨v2,vs2,d2,ds2,p2,q2,rfl,rfl,rfl,h2,r2⟩:=trodAll_cons r1
 obtain ⟨v3,vs3,d3,ds3,p3,q3,rfl,rfl,rfl,h3,r3⟩:=trodAll_cons r2
 obtain ⟨rfl,rfl,rfl⟩:=trodAll_nil r3
 obtain rfl:args=#[v0,v1,v2,v3]:=by cases args;simp_all
 obtain ⟨rfl,rfl⟩:=trodVars_none hV
 obtain ⟨a0,rfl,rfl,rfl,w0⟩:=open_int Tryz.underlying5 (hval 0 5 v0 rfl rfl) h0
 obtain ⟨a1,rfl,rfl,rfl,w1⟩:=open_int Tryz.underlying5 (hval 1 5 v1 rfl rfl) h1
 have lt2:∀ x∈p2,x.block<W.heap.size:=by obtain ⟨m,hm⟩:=h2;exact DataW.trod_lt m _ _ _ hm
 obtain ⟨A2,n2,c2,z2,rfl,s2,u2,g2⟩:=open_bytes (hval 2 36 v2 rfl rfl) h2
 have m2:=g2 _ _ 2 hsz rfl rfl
 have lt3:∀ x∈p3,x.block<W.heap.size:=by obtain ⟨m,hm⟩:=h3;exact DataW.trod_lt m _ _ _ hm
 obtain ⟨A3,n3,c3,z3,rfl,s3,u3,g3⟩:=open_bytes (hval 3 36 v3 rfl rfl) h3
 have m3:=g3 _ _ 3 hsz rfl rfl
 clear hA0 hval0
 refine (walk W (tabs_of_laid hL) w0 w1 s2 u2 m2 s3 u3 m3).mono fun e W' ⟨he,bel⟩=>?_
 subst he
 exact ⟨_,rfl,_,_,_,[],_,[],hW',trodAll_mk1 (shut_bool Tryz.underlying4 _),(trodAll_cons_mk (shut_int Tryz.underlying5 w0) (trodAll_cons_mk (shut_int Tryz.underlying5 w1) (trodAll_cons_mk (Below.trod laidOut (by kernel_rfl) (of_decide_eq_true (by kernel_rfl)) h2 bel lt2) (trodAll_cons_mk (Below.trod laidOut (by kernel_rfl) (of_decide_eq_true (by kernel_rfl)) h3 bel lt3) trodAll_mk0)))),rfl,bel.frame _,fun h=>by cases h⟩
theorem over:Rows.emulOtherRow.holds Tryz.pinned (OpenSpec.ofChange Rows.emulOtherSpec) :=
 OpenClaim.holds_of_wide 9 Tryz.f9 rfl rfl rfl rfl rfl rfl rfl ⟨rfl,rfl,rfl,rfl,rfl⟩ rfl rfl rfl rfl rfl (by kernel_rfl) Tryz.func9 (by kernel_rfl)
  (of_decide_eq_true (by kernel_rfl)) (by unfold Func.isWrapper;first | (rw [if_pos (by decide +kernel)];kernel_rfl) | (rw [if_neg (by decide +kernel)];exact ⟨rfl,rfl⟩))
  (fun os started H enc _=>lifted os started H enc)
theorem proved:Rows.EmulOtherCardSaid :=
 Claim7.holds_tied_plain_at .later [] [.data,.data,.pinned] true Rows.emulOtherCard.stood.harness false
  over (fun _ h=>by cases h) (by kernel_rfl) (fun _ h=>by cases h) emulOther_row_tie rfl ⟨rfl,rfl⟩ (by kernel_rfl) rfl
  (fun f fn hf hfn=>by
   obtain rfl:f=9:=Option.some.inj ((show Tryz.prog.funcNamed "spyglass/spyglasslaw12.EmulOther"=some 9 by kernel_rfl).symm.trans hf) |>.symm
   obtain rfl:fn=Tryz.f9:=(Option.some.inj (Tryz.func9.symm.trans hfn)).symm
   exact ⟨by kernel_rfl,fun j t ht=>by
    rw [Tryz.params9] at ht
    have hm:t∈[5,5,36,36]:=by simpa using Array.mem_of_getElem? ht
    have hall:([5,5,36,36].all fun u=>!Tryz.prog.wantsStandIn u)=true:=by kernel_rfl
    exact (show Tryz.prog.wantsStandIn t=false by simpa using List.all_eq_true.1 hall t hm)⟩)
  (by kernel_rfl)
end Go.Proofs.YtlcipgdnpilkfaaGreatDoor.emulOther
