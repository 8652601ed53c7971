/-
  Proved: EmulMargins answers true for every size, all bytes, all margins and all moves, over the tables that the library and the program lay (a tied card).
-/
import Derived.Test.YtlcipgdnpilkfaaGreatDoorCards
import Derived.Test.YtlcipgdnpilkfaaGreatDoorTie
import Derived.SevenTiedAt
import Derived.WalkKit
import Derived.BigQuiet
import Derived.Test.YtlcipgdnpilkfaaGreatDoorPg01
import Derived.Test.YtlcipgdnpilkfaaGreatDoorPg41
import Derived.Test.YtlcipgdnpilkfaaGreatDoorPg45
namespace Go.Proofs.YtlcipgdnpilkfaaGreatDoor.emulMargins
open Go.ChangeShapes Go.WideShapes Go.ChangeAt Go.RowKit
set_option maxHeartbeats 6400000 in
set_option maxRecDepth 100000 in
theorem walk {cols rows top bottom:Int} {A A':Option Addr} {n n' c c':Nat} {zs ys:List Int} (w:World) (hT:Tabs w) (hc0:(Lit.int .u8 cols).wf=true) (hr0:(Lit.int .u8 rows).wf=true) (hs0:Sb w A n zs) (hu0:U8s zs) (hm0:n≤140737488351232) (ht0:(Lit.int .u8 top).wf=true) (hb0:(Lit.int .u8 bottom).wf=true) (hs1:Sb w A' n' ys) (hu1:U8s ys) (hm1:n'≤140737488351232) :
  Calls Tryz.prog 10 #[.int .u8 cols,.int .u8 rows,.slice A n c,.int .u8 top,.int .u8 bottom,.slice A' n' c'] w fun e w'=>e=.returned (.bool true)∧Below w.heap.size w w':=by
 have HU:=Lib.hid (show (0≤cols∧cols≤255)∧(0≤rows∧rows≤255) from ⟨bounds_u8 hc0,bounds_u8 hr0⟩)
 have HTB:=Lib.hid (And.intro (bounds_u8 ht0) (bounds_u8 hb0))
 have H:=Lib.hid (And.intro hs0 (And.intro hs1 (And.intro hu0 hu1)))
 have HT:=Lib.hid hT
 clear hs0 hs1 hu0 hu1 hT hc0 hr0 ht0 hb0
 go_enter Tryz.func10,Tryz.ntmps10
 go_wp2_with fail
 refine (begin12_any (w0:=w) HT.out (Below.refl _ _) HU.out.1 HU.out.2).mono ?_
 rintro e wa1 ⟨hb,g1,x1,y1,rfl,hB⟩
 obtain ⟨es1,hes⟩:∃ es,es=(rtV y1).toArray:=⟨_,rfl⟩
 have HE1:=Lib.hid (show es1.size=116∧es1.all (·.oneCell')=true from by
  have hys:y1.t.tabs.length=80:=by rw [hB.rt.t];rfl
  rw [hes]
  exact ⟨by rw [List.size_toArray];exact rtV_len hys,rt_one _⟩)
 have HR1:=Lib.hid (show es1[1]?=some (.int .i64 (rowsN rows)) from by
  have:(y1.t.r:Int)=rowsN rows:=by rw [hB.rt.t];rfl
  rw [hes,← this]
  rfl)
 rw [← hes]
 obtain ⟨b1,hbb⟩:∃ b,b=wa1.heap.size:=⟨_,rfl⟩
 obtain ⟨wb1,hw⟩:∃ w',w'=wa1.alloc (.cells (rtV rt0).toArray 42):=⟨_,rfl⟩
 have HC1:=Lib.hid (show Below wa1.heap.size wa1 wb1∧RtB wb1 b1 rt0∧b1=wa1.heap.size from ⟨by rw [hw];exact (Below.refl _ _).alloc (Nat.le_refl _) _,by rw [hw,hbb];exact heap_alloc_new wa1 _,hbb⟩)
 have HA1:=Lib.hid (And.intro hb hB)
 clear hb hB hes
 go_upto_region 2 with (first | (refine wpList_store_row rfl 42 (.tmp 14) (.tmp 31) rfl b1 es1 (by rw [hbb];rfl) rfl 42 (rtV rt0).toArray (by rw [zeroRT,← hw];exact HC1.out.2.1) (by rw [HE1.out.1];exact infoRT1) (by rw [HE1.out.1];rfl) HE1.out.2 ?_))
 rw [zeroRT,← hw,← hbb]
 clear hw hbb
 obtain ⟨wc1,hw⟩:∃ w',w'=wb1.setRow b1 es1:=⟨_,rfl⟩
 have HD1:=Lib.hid (show Below wa1.heap.size wa1 wc1 from by
  rw [hw]
  exact below_setRow HC1.out.1 (Nat.le_of_eq HC1.out.2.2.symm) _)
 have HE9:=Lib.hid (show wc1.heap[b1]?=some (.cells es1 42 (0,0)) from by rw [hw];exact setRow_heap wb1 _ _ _ _ _ HC1.out.2.1)
 rw [← hw]
 clear hw
 have HM1:=Lib.hid (show wc1.cell? ⟨b1,1,none⟩=some (.int .i64 (rowsN rows))∧b1<wc1.heap.size∧¬ CB g1 x1 b1 from by
  refine ⟨?_,(Array.getElem?_eq_some_iff.1 HE9.out).1,fun hq=>?_⟩
  · rw [cell_of_row wc1 b1 1 es1 _ (0,0) HE9.out]
    exact HR1.out
  · have h1:=HA1.out.2.lw.cz.hi _ hq
    have h2:=HC1.out.2.2
    omega)
 have X1:=Lib.hid (show Lw w wc1 g1 x1 (tmNew (colsN cols) (rowsN rows))∧Below w.heap.size w wc1 from ⟨HA1.out.2.lw.below HD1.out,HA1.out.1.trans (HD1.out.mono HA1.out.1.size)⟩)
 clear HC1 HD1 HE1 HE9
 obtain ⟨C,hC⟩:∃ C,colsN cols=C:=⟨_,rfl⟩
 obtain ⟨R,hR⟩:∃ R,rowsN rows=R:=⟨_,rfl⟩
 have hCr:1≤C∧C≤80:=by rw [← hC];exact colsN_rng cols
 have hRr:1≤R∧R≤24:=by rw [← hR];exact rowsN_rng rows
 rw [hC,hR] at X1
 rw [hR] at HM1
 have HAC:=Lib.hid HA1.out.2.new
 clear HA1 HR1 hC hR HU
 by_cases hn:n≤300
 case neg =>
  go_wp2_with fail
  go_ret
  exact ⟨rfl,X1.out.2⟩
 go_wp2_with fail
 refine (feed_lw HT.out X1.out.1 (H.out.1.below X1.out.2) H.out.2.2.1 (by omega) (fun ad e hp hq=>by subst e;have h1:=H.out.1.lt hp;have h2:=X1.out.1.cz.lo _ hq;omega)).mono ?_
 rintro e w3 ⟨rfl,z1,hL,hk⟩
 have X3:=Lib.hid (show Lw w w3 g1 z1 ((tmNew C R).feed zs)∧w3.cell? ⟨b1,1,none⟩=some (.int .i64 R) from ⟨hL,(World.cell?_of_block (hk.out.keep b1 HM1.out.2.1 HM1.out.2.2)).trans HM1.out.1⟩)
 have cR:=X3.out.2
 clear hL hk X1 HM1
 obtain ⟨XM,hX⟩:∃ XM:Nat,XM=(top % (R:Int)).toNat:=⟨_,rfl⟩
 obtain ⟨YM,hY⟩:∃ YM:Nat,YM=(bottom % (R:Int)).toNat:=⟨_,rfl⟩
 have hRp:(0:Int)<(R:Int):=by omega
 have hX1:top.tmod (R:Int)=(XM:Int)∧XM<R:=by
  have h1:=Int.emod_nonneg top (show (R:Int)≠0 by omega)
  have h2:=Int.emod_lt_of_pos top hRp
  rw [Int.tmod_eq_emod_of_nonneg HTB.out.1.1]
  omega
 have hY1:bottom.tmod (R:Int)=(YM:Int)∧YM<R:=by
  have h1:=Int.emod_nonneg bottom (show (R:Int)≠0 by omega)
  have h2:=Int.emod_lt_of_pos bottom hRp
  rw [Int.tmod_eq_emod_of_nonneg HTB.out.2.1]
  omega
 have HXY:=Lib.hid (And.intro hX1.2 hY1.2)
 have hx23:XM≤23:=by omega
 have hy23:YM≤23:=by omega
 obtain ⟨hX1,_⟩:=hX1
 obtain ⟨hY1,_⟩:=hY1
 have hwt:IntKind.i64.wrap top=top:=by clear hX1 hY1 hX hY;have:=HTB.out;rw [IntKind.wrap_i64];omega
 have hwb:IntKind.i64.wrap bottom=bottom:=by clear hX1 hY1 hX hY hwt;have:=HTB.out;rw [IntKind.wrap_i64];omega
 have hR0:(R:Int)≠0:=by omega
 clear hX hY
 go_upto_region 5 with fail
 go_quiet (fail)
 obtain ⟨w4,hw4⟩:∃ w4,w4=w3.drewN nq:=⟨_,rfl⟩
 obtain ⟨T3,hT3⟩:∃ T3,(tmNew C R).feed zs=T3:=⟨_,rfl⟩
 have HS3:=Lib.hid (show Siz C R T3 from by rw [← hT3];exact Siz.feed zs (Siz.fresh C R))
 rw [hT3] at X3
 have X4:=Lib.hid (show Lw w w4 g1 z1 T3 from by rw [hw4];exact X3.out.1.below (belowN (Below.refl _ _) nq))
 rw [← hw4]
 clear hw4 hT3 X3 cR hX1 hY1 hwt hwb hR0 hRp
 by_cases hxy:XM<YM
 case neg =>
  go_wp2_with fail
  go_ret
  exact ⟨rfl,X4.out.bel⟩
 go_wp2_with fail
 refine (csi2_lw HT.out X4.out 114 _ _ rfl).mono ?_
 rintro e w5 ⟨rfl,z5,hL,_⟩
 have X5:=Lib.hid hL
 clear hL
 go_wp2_with fail
 refine (csi1_lw HT.out X5.out 72 _ rfl).mono ?_
 rintro e w6 ⟨rfl,z6,hL,_⟩
 have X6:=Lib.hid hL
 clear hL X5
 obtain ⟨T6,hT6⟩:∃ T6,(T3.doA (acCsi 0 114 [(XM:Int)+1,(YM:Int)+1])).doA (acCsi 0 72 [(XM:Int)+1])=T6:=⟨_,rfl⟩
 rw [hT6] at X6
 have M6:=Lib.hid (show TmOk T6∧T6.top=XM∧T6.bot=YM∧Siz C R T6 from by
  have hok:TmOk T3:=by have h1:=X4.out.cz.ok;rw [X4.out.tm] at h1;exact h1
  have h1:=margins_begin hok hxy (by rw [HS3.out.r];exact HXY.out.2)
  dsimp only at h1
  rw [hT6] at h1
  exact ⟨h1.1,h1.2.1,h1.2.2.1,by rw [← hT6];exact (HS3.out.doA _).doA _⟩)
 clear hT6 X4
 go_wp2_with fail
 refine (screen_lw X6.out).mono ?_
 rintro e wd18 ⟨hb5,s18,rfl,hs⟩
 obtain ⟨b18,hb9⟩:∃ b,b=wd18.heap.size:=⟨_,rfl⟩
 obtain ⟨we18,hw6⟩:∃ w',w'=wd18.alloc (.cells #[.int .i64 0,.int .i64 0,.slice none 0 0,.int .i64 0,.int .i64 0,.bool false,.int .u8 0,.string ⟨#[]⟩,.slice none 0 0] 56):=⟨_,rfl⟩
 have hone:(scrA s18).all (·.oneCell')=true:=by
  rw [Array.all_eq_true_iff_forall_mem]
  intro v hv
  simp only [scrA,List.mem_toArray,List.mem_cons,List.not_mem_nil,or_false] at hv
  rcases hv with rfl | rfl | rfl | rfl | rfl | rfl | rfl | rfl | rfl<;>rfl
 have HO:=Lib.hid hone
 have H30:=Lib.hid (show we18.heap[b18]?=some (.cells (scrA scN) 56 (0,0))∧Below wd18.heap.size wd18 we18∧b18=wd18.heap.size from ⟨by rw [hw6,hb9];exact heap_alloc_new wd18 _,by rw [hw6];exact (Below.refl _ _).alloc (Nat.le_refl _) _,hb9⟩)
 have HSC:=Lib.hid (And.intro hb5 hs)
 clear hone hb5 hs
 go_upto_region 11 with (refine wpList_store_row rfl 56 (.tmp 18) (.tmp 72) rfl b18 (scrA s18) (by rw [hb9];rfl) rfl 56 (scrA scN) (by rw [← hw6];exact H30.out.1) info56 rfl HO.out ?_)
 rw [← hw6,← hb9]
 obtain ⟨wf18,hw7⟩:∃ w',w'=we18.setRow b18 (scrA s18):=⟨_,rfl⟩
 rw [← hw7]
 have HDF:=Lib.hid (show Below wd18.heap.size wd18 wf18∧wf18.heap[b18]?=some (.cells (scrA s18) 56 (0,0)) from ⟨by rw [hw7];exact below_setRow H30.out.2.1 (Nat.le_of_eq H30.out.2.2.symm) _,by rw [hw7];exact setRow_heap we18 _ _ _ _ _ H30.out.1⟩)
 have KP18:=Lib.hid (show Kept wf18 g1 z6 b18 s18 (T6).screen.cells from ⟨HDF.out.2,⟨(Array.getElem?_eq_some_iff.1 HDF.out.2).1,fun hq=>by
  have h1:=X6.out.cz.hi _ hq
  have h2:=HSC.out.1.size
  have h3:=H30.out.2.2
  omega⟩,HSC.out.2.sc.cells.below HDF.out.1,fun ad e hn=>by
  obtain ⟨gg,e2,h2,h3⟩:=HSC.out.2.cx.own hn
  rw [e2] at e
  injection e with e
  subst e
  have h4:=HDF.out.1.size
  have h5:=(Array.getElem?_eq_some_iff.1 h3.choose_spec).1
  exact ⟨by show gg<_;omega,fun hq=>by have h1:=X6.out.cz.hi _ hq;have:w6.heap.size≤gg:=h2;have:gg<w6.heap.size:=h1;omega⟩⟩)
 have KS18:=Lib.hid (show s18.x=(T6).screen.x∧s18.y=(T6).screen.y∧s18.n≤1920∧s18.n≤s18.k∧s18.c=(T6).screen.c from ⟨HSC.out.2.sc.x.symm,HSC.out.2.sc.y.symm,HSC.out.2.n,HSC.out.2.sc.nk,HSC.out.2.sc.c.symm⟩)
 have LW18:=Lib.hid (show Lw w wf18 g1 z6 (T6) from (X6.out.below HSC.out.1).below HDF.out.1)
 have KK18:=Lib.hid (HSC.out.1.trans (HDF.out.1.mono HSC.out.1.size))
 clear HO H30 HSC HDF hw6 hw7 hb9
 clear X6
 go_wp2_with fail
 go_loopw [75] (fun i wr=>∃ (k:Nat) (y:CT) (T:Tm),k≤n'∧k≤61∧i=.int .i64 k∧Lw w wr g1 y T∧(((XM:Int)≤T6.now.y∧T6.now.y≤(YM:Int))→Mgn T6 XM YM T)∧Siz C R T∧Kept wr g1 y b18 s18 T6.screen.cells) (fun i _=>n'-(intOf i).toNat)
 case atStart=>exact ⟨0,z6,T6,Nat.zero_le _,by omega,rfl,LW18.out,fun hy=>margins_on M6.out.1 M6.out.2.1 M6.out.2.2.1 hy.1 hy.2,M6.out.2.2.2,KP18.out⟩
 case round =>
  obtain ⟨k,y,T,hk,hk2,rfl,hL,hM,hS,hK⟩:=hrel
  have X:=Lib.hid (And.intro hL (And.intro hM (And.intro hS hK)))
  clear hL hM hS hK KP18 LW18
  by_cases hlt:k<n'
  · have hs:=H.out.2.1.below X.out.1.bel
    obtain ⟨ad,hA⟩:∃ ad,A'=some ad:=by obtain ⟨ad,e,_⟩:=hs.at_ (by omega);exact ⟨ad,e⟩
    subst hA
    have hcell:=hs.cell hlt
    have hkl:k<ys.length:=by rw [hs.len];exact hlt
    obtain ⟨z,hz⟩:∃ z,z=ys.getD k 0:=⟨_,rfl⟩
    rw [← hz] at hcell
    have hzr:0≤z∧z≤255:=by rw [hz,getD_lt hkl];exact H.out.2.2.2 _ (List.getElem_mem hkl)
    obtain ⟨M,hM⟩:∃ M:Nat,z.tdiv 8=(M:Int):=⟨(z / 8).toNat,by rw [Int.tdiv_eq_ediv_of_nonneg hzr.1];omega⟩
    have hM31:M≤31:=by rw [Int.tdiv_eq_ediv_of_nonneg hzr.1] at hM;omega
    obtain ⟨r8,hr8⟩:∃ r8:Nat,z.tmod 8=(r8:Int):=⟨(z % 8).toNat,by rw [Int.tmod_eq_emod_of_nonneg hzr.1];omega⟩
    have hr7:r8<8:=by have:=Int.tmod_lt_of_pos z (show (0:Int)<8 by omega);omega
    clear hz hs hkl hzr
    by_cases hk60:k≤60
    case neg =>
     have hk61:60<k:=by omega
     go_wp2_with fail
     refine (screen_lw X.out.1).mono ?_
     rintro e wd22 ⟨hb5,s22,rfl,hs⟩
     obtain ⟨b22,hb9⟩:∃ b,b=wd22.heap.size:=⟨_,rfl⟩
     obtain ⟨we22,hw6⟩:∃ w',w'=wd22.alloc (.cells #[.int .i64 0,.int .i64 0,.slice none 0 0,.int .i64 0,.int .i64 0,.bool false,.int .u8 0,.string ⟨#[]⟩,.slice none 0 0] 56):=⟨_,rfl⟩
     have hone:(scrA s22).all (·.oneCell')=true:=by
      rw [Array.all_eq_true_iff_forall_mem]
      intro v hv
      simp only [scrA,List.mem_toArray,List.mem_cons,List.not_mem_nil,or_false] at hv
      rcases hv with rfl | rfl | rfl | rfl | rfl | rfl | rfl | rfl | rfl<;>rfl
     have HO:=Lib.hid hone
     have H30:=Lib.hid (show we22.heap[b22]?=some (.cells (scrA scN) 56 (0,0))∧Below wd22.heap.size wd22 we22∧b22=wd22.heap.size from ⟨by rw [hw6,hb9];exact heap_alloc_new wd22 _,by rw [hw6];exact (Below.refl _ _).alloc (Nat.le_refl _) _,hb9⟩)
     have HSC:=Lib.hid (And.intro hb5 hs)
     clear hone hb5 hs
     go_upto_region 32 with (refine wpList_store_row rfl 56 (.tmp 22) (.tmp 133) rfl b22 (scrA s22) (by rw [hb9];rfl) rfl 56 (scrA scN) (by rw [← hw6];exact H30.out.1) info56 rfl HO.out ?_)
     rw [← hw6,← hb9]
     obtain ⟨wf22,hw7⟩:∃ w',w'=we22.setRow b22 (scrA s22):=⟨_,rfl⟩
     rw [← hw7]
     have HDF:=Lib.hid (show Below wd22.heap.size wd22 wf22∧wf22.heap[b22]?=some (.cells (scrA s22) 56 (0,0)) from ⟨by rw [hw7];exact below_setRow H30.out.2.1 (Nat.le_of_eq H30.out.2.2.symm) _,by rw [hw7];exact setRow_heap we22 _ _ _ _ _ H30.out.1⟩)
     have KP22:=Lib.hid (show Kept wf22 g1 y b22 s22 (T).screen.cells from ⟨HDF.out.2,⟨(Array.getElem?_eq_some_iff.1 HDF.out.2).1,fun hq=>by
      have h1:=X.out.1.cz.hi _ hq
      have h2:=HSC.out.1.size
      have h3:=H30.out.2.2
      omega⟩,HSC.out.2.sc.cells.below HDF.out.1,fun ad e hn=>by
      obtain ⟨gg,e2,h2,h3⟩:=HSC.out.2.cx.own hn
      rw [e2] at e
      injection e with e
      subst e
      have h4:=HDF.out.1.size
      have h5:=(Array.getElem?_eq_some_iff.1 h3.choose_spec).1
      exact ⟨by show gg<_;omega,fun hq=>by have h1:=X.out.1.cz.hi _ hq;have:wr.heap.size≤gg:=h2;have:gg<wr.heap.size:=h1;omega⟩⟩)
     have KS22:=Lib.hid (show s22.x=(T).screen.x∧s22.y=(T).screen.y∧s22.n≤1920∧s22.n≤s22.k∧s22.c=(T).screen.c from ⟨HSC.out.2.sc.x.symm,HSC.out.2.sc.y.symm,HSC.out.2.n,HSC.out.2.sc.nk,HSC.out.2.sc.c.symm⟩)
     have LW22:=Lib.hid (show Lw w wf22 g1 y (T) from (X.out.1.below HSC.out.1).below HDF.out.1)
     have KK22:=Lib.hid (HSC.out.1.trans (HDF.out.1.mono HSC.out.1.size))
     clear HO H30 HSC HDF hw6 hw7 hb9
     have K18:=Lib.hid (X.out.2.2.2.below KK22.out)
     have XM2:=Lib.hid (And.intro X.out.2.1 (And.intro X.out.2.2.1 X.out.1.bel))
     have BW:=Lib.hid (X.out.1.bel.trans (KK22.out.mono X.out.1.bel.size))
     clear X KK22
     obtain ⟨_,_,q2,_,q4,_,_,_,_,_⟩:=row_scc K18.out.row
     obtain ⟨p0,_,p2,_,p4,_,_,_,_,_⟩:=row_scc KP22.out.row
     rw [KS18.out.2.1] at q4
     rw [KS22.out.2.1] at p4
     by_cases hy0:(XM:Int)≤T6.screen.y
     case neg =>
      go_wp2_with fail
      go_ret
      exact ⟨rfl,BW.out⟩
     by_cases hy1:T6.screen.y≤(YM:Int)
     case neg =>
      go_wp2_with fail
      go_ret
      exact ⟨rfl,BW.out⟩
     have HG:=Lib.hid (XM2.out.1 ⟨hy0,hy1⟩)
     have hz0:(XM:Int)≤T.screen.y:=HG.out.y0
     have hz1:T.screen.y≤(YM:Int):=HG.out.y1
     have hlen:∀ u:Tm,TmOk u→Siz C R u→u.screen.cells.length=R*C:=fun u hu hs=>by
      show (canonC u.shown.flatten u.table).length=_
      rw [canonC_len,hu.shown.box.flen,hs.c,hs.r]
     have hn22:s22.n=R*C:=by rw [← KP22.out.vs.len];exact hlen T HG.out.ok XM2.out.2.1
     have hn18:s18.n=R*C:=by rw [← K18.out.vs.len];exact hlen T6 M6.out.1 M6.out.2.2.2
     obtain ⟨N,hN⟩:∃ N:Nat,R*C=N:=⟨_,rfl⟩
     rw [hN] at hn22 hn18
     have hN2:N≤1920:=by rw [← hn22];exact KS22.out.2.2.1
     rw [hn22] at p2
     rw [hn18] at q2
     have hc22:s22.c=(C:Int):=by rw [KS22.out.2.2.2.2];show (T.c:Int)=_;rw [XM2.out.2.1.c]
     rw [hc22] at p0
     have HNN:=Lib.hid (And.intro hn22 (And.intro hn18 (And.intro hN hc22)))
     clear hlen hn22 hn18 hN hc22
     go_wp2_with fail
     clear p0 p2 p4 q2 q4
     go_loopw [166] (fun i wr=>∃ k:Nat,k≤N∧i=.int .i64 k∧Below wf22.heap.size wf22 wr) (fun i _=>N-(intOf i).toNat)
     case atStart=>exact ⟨0,Nat.zero_le _,rfl,Below.refl _ _⟩
     case round =>
      obtain ⟨k,hk,rfl,hb4⟩:=hrel
      have X4:=Lib.hid hb4
      clear hb4
      obtain ⟨p0,p1,p2,p3,p4,p5,p6,p7,p8,_⟩:=row_scc (KP22.out.below X4.out).row
      obtain ⟨q0,q1,q2,q3,q4,q5,q6,q7,q8,_⟩:=row_scc (K18.out.below X4.out).row
      rw [HNN.out.2.2.2] at p0
      by_cases hlt:k<N
      · obtain ⟨D,hD⟩:∃ D:Nat,D=k / C:=⟨_,rfl⟩
        have hdv:(k:Int).tdiv (C:Int)=(D:Int):=by rw [hD];exact (Int.ofNat_tdiv k C).symm
        have hD2:D≤2000:=by rw [hD];exact Nat.le_trans (Nat.div_le_self k C) (by omega)
        have HD:=Lib.hid hD
        clear hD
        go_upto_region 41 with fail
        clear hdv
        by_cases h1:D<XM
        · obtain ⟨CE,hCE⟩:∃ CE,setLk (cAt T.screen.cells k) 0=CE:=⟨_,rfl⟩
          have hEQ:setLk (cAt T.screen.cells k) 0=setLk (cAt T6.screen.cells k) 0:=HG.out.cell_out M6.out.1 (by
           rw [M6.out.2.2.2.c]
           rw [← HD.out];omega)
          have HX:=Lib.hid (show ∀ w',Below wr.heap.size wr w'→Below wr.heap.size wr w'∧w'.heap[b22]?=some (.cells (scrA s22) 56 (0,0))∧w'.heap[b18]?=some (.cells (scrA s18) 56 (0,0)) from fun w' hb=>⟨hb,((KP22.out.below X4.out).below hb).row,((K18.out.below X4.out).below hb).row⟩)
          have HA:=Lib.hid (show ∀ w',Below wr.heap.size wr w'→Calls Tryz.prog 29 #[.agg (scrA s22),.int .i64 k] w' fun e w''=>e=.returned (.agg (ceA CE))∧Below w'.heap.size w' w'' from fun w' hb=>by
           have h:=textC_any ((KP22.out.below X4.out).below hb).vs (i:=k) (by rw [HNN.out.1];exact hlt) (by have:=KS22.out.2.2.1;omega)
           rw [hCE] at h
           exact h)
          have HB:=Lib.hid (show ∀ w',Below wr.heap.size wr w'→Calls Tryz.prog 29 #[.agg (scrA s18),.int .i64 k] w' fun e w''=>e=.returned (.agg (ceA CE))∧Below w'.heap.size w' w'' from fun w' hb=>by
           have h:=textC_any ((K18.out.below X4.out).below hb).vs (i:=k) (by rw [HNN.out.2.1];exact hlt) (by have:=KS18.out.2.2.1;omega)
           rw [← hEQ,hCE] at h
           exact h)
          clear hCE hEQ p0 p1 p2 p3 p4 p5 p6 p7 p8 q0 q1 q2 q3 q4 q5 q6 q7 q8
          refine wp_region_held_drew (S:=fun w'=>Below wr.heap.size wr w'∧w'.heap[b22]?=some (.cells (scrA s22) 56 (0,0))∧w'.heap[b18]?=some (.cells (scrA s18) 56 (0,0))) (by kernel_rfl) (HX.out _ (Below.refl _ _).drew) (fun hHeld=>?_)
          generalize wr.drew=wd at hHeld ⊢
          refine tkH 0 (.int .i64 D) rfl (.inl ⟨by rfl,fun wz hSz=>?_⟩) hHeld ?_
          · go_simp
          simp only [Act.put,List.getElem_toArray,List.getElem_cons_zero,List.setIfInBounds_toArray,List.set_cons_succ,List.set_cons_zero]
          refine tkH 1 (.int .i64 XM) rfl (.inl ⟨by rfl,fun wz hSz=>?_⟩) hHeld ?_
          · go_simp
          simp only [Act.put,List.getElem_toArray,List.getElem_cons_succ,List.getElem_cons_zero,List.setIfInBounds_toArray,List.set_cons_succ,List.set_cons_zero]
          refine tkH 2 (.bool true) rfl (.inl ⟨by rfl,fun wz hSz=>?_⟩) hHeld ?_
          · go_simp
          simp only [Act.put,List.getElem_toArray,List.getElem_cons_succ,List.getElem_cons_zero,List.setIfInBounds_toArray,List.set_cons_succ,List.set_cons_zero]
          refine tkH 3 (.bool true) rfl (.inl ⟨by rfl,fun wz hSz=>?_⟩) hHeld ?_
          · go_simp
          simp only [Act.put,List.getElem_toArray,List.getElem_cons_succ,List.getElem_cons_zero,List.setIfInBounds_toArray,List.set_cons_succ,List.set_cons_zero]
          refine wpAnyH_take (i:=4) (v:=undef) rfl (by kernel_rfl) (by kernel_rfl) (by kernel_rfl) (fun _ _ _ h=>h) (Or.inr ⟨by rfl,rfl⟩) hHeld ?_
          simp only [Act.put,List.getElem_toArray,List.getElem_cons_succ,List.getElem_cons_zero,List.setIfInBounds_toArray,List.set_cons_succ,List.set_cons_zero]
          refine wpAnyH_take (i:=5) (v:=undef) rfl (by kernel_rfl) (by kernel_rfl) (by kernel_rfl) (fun _ _ _ h=>h) (Or.inr ⟨by rfl,rfl⟩) hHeld ?_
          simp only [Act.put,List.getElem_toArray,List.getElem_cons_succ,List.getElem_cons_zero,List.setIfInBounds_toArray,List.set_cons_succ,List.set_cons_zero]
          refine wpAnyH_take (i:=6) (v:=undef) rfl (by kernel_rfl) (by kernel_rfl) (by kernel_rfl) (fun _ _ _ h=>h) (Or.inr ⟨by rfl,rfl⟩) hHeld ?_
          simp only [Act.put,List.getElem_toArray,List.getElem_cons_succ,List.getElem_cons_zero,List.setIfInBounds_toArray,List.set_cons_succ,List.set_cons_zero]
          refine tkH 7 (.bool true) rfl (.inl ⟨by rfl,fun wz hSz=>?_⟩) hHeld ?_
          · go_simp
          simp only [Act.put,List.getElem_toArray,List.getElem_cons_succ,List.getElem_cons_zero,List.setIfInBounds_toArray,List.set_cons_succ,List.set_cons_zero]
          refine tkH 8 (.bool true) rfl (.inl ⟨by rfl,fun wz hSz=>?_⟩) hHeld ?_
          · go_simp
          simp only [Act.put,List.getElem_toArray,List.getElem_cons_succ,List.getElem_cons_zero,List.setIfInBounds_toArray,List.set_cons_succ,List.set_cons_zero]
          refine tkH 9 (.func (Fn.func 29) #[] #[]) rfl (.inl ⟨by rfl,fun wz hSz=>?_⟩) hHeld ?_
          · go_simp
          simp only [Act.put,List.getElem_toArray,List.getElem_cons_succ,List.getElem_cons_zero,List.setIfInBounds_toArray,List.set_cons_succ,List.set_cons_zero]
          refine wpAnyH_take (i:=10) (v:=.agg (scrA s22)) rfl (by kernel_rfl) (by kernel_rfl) (by kernel_rfl) (fun _ _ _ h=>h) (yieldsIf_load_row (by rfl) 56 (.tmp 22) rfl b22 rfl (scrA s22) _ (fun w hw=>hw.2.1) Tryz.underlying56 rfl info56) hHeld ?_
          simp only [Act.put,List.getElem_toArray,List.getElem_cons_succ,List.getElem_cons_zero,List.setIfInBounds_toArray,List.set_cons_succ,List.set_cons_zero]
          refine tkH 11 (.int .i64 k) rfl (.inl ⟨by rfl,fun wz hSz=>?_⟩) hHeld ?_
          · go_simp
          simp only [Act.put,List.getElem_toArray,List.getElem_cons_succ,List.getElem_cons_zero,List.setIfInBounds_toArray,List.set_cons_succ,List.set_cons_zero]
          refine tkH 13 (.func (Fn.func 29) #[] #[]) rfl (.inl ⟨by rfl,fun wz hSz=>?_⟩) hHeld ?_
          · go_simp
          simp only [Act.put,List.getElem_toArray,List.getElem_cons_succ,List.getElem_cons_zero,List.setIfInBounds_toArray,List.set_cons_succ,List.set_cons_zero]
          refine wpAnyH_take (i:=14) (v:=.agg (scrA s18)) rfl (by kernel_rfl) (by kernel_rfl) (by kernel_rfl) (fun _ _ _ h=>h) (yieldsIf_load_row (by rfl) 56 (.tmp 18) rfl b18 rfl (scrA s18) _ (fun w hw=>hw.2.2) Tryz.underlying56 rfl info56) hHeld ?_
          simp only [Act.put,List.getElem_toArray,List.getElem_cons_succ,List.getElem_cons_zero,List.setIfInBounds_toArray,List.set_cons_succ,List.set_cons_zero]
          refine tkH 15 (.int .i64 k) rfl (.inl ⟨by rfl,fun wz hSz=>?_⟩) hHeld ?_
          · go_simp
          simp only [Act.put,List.getElem_toArray,List.getElem_cons_succ,List.getElem_cons_zero,List.setIfInBounds_toArray,List.set_cons_succ,List.set_cons_zero]
          refine wpAnyH_ready (rs:=[12]) (by kernel_rfl) (by simp) (AllReadyH.cons rfl (fun K hK=>?_) AllReadyH.nil)
          rw [if_pos (by rfl)]
          go_simp
          refine (HA.out _ hHeld.1).mono ?_
          rintro e wn ⟨rfl,hbn⟩
          refine hK.out _ _ (HX.out _ (hHeld.1.trans (hbn.mono hHeld.1.size))) (fun hHeld=>?_)
          clear hK K hbn
          refine wpAnyH_ready (rs:=[16]) (by kernel_rfl) (by simp) (AllReadyH.cons rfl (fun K hK=>?_) AllReadyH.nil)
          rw [if_pos (by rfl)]
          go_simp
          refine (HB.out _ hHeld.1).mono ?_
          rintro e wn ⟨rfl,hbn⟩
          refine hK.out _ _ (HX.out _ (hHeld.1.trans (hbn.mono hHeld.1.size))) (fun hHeld=>?_)
          clear hK K hbn
          refine tkH 17 (.bool false) rfl (.inl ⟨by rfl,fun wz hSz=>?_⟩) hHeld ?_
          · exact yields_ceneq rfl CE rfl rfl
          simp only [Act.put,List.getElem_toArray,List.getElem_cons_succ,List.getElem_cons_zero,List.setIfInBounds_toArray,List.set_cons_succ,List.set_cons_zero]
          refine tkH 18 (.bool false) rfl (.inl ⟨by rfl,fun wz hSz=>?_⟩) hHeld ?_
          · go_simp
          simp only [Act.put,List.getElem_toArray,List.getElem_cons_succ,List.getElem_cons_zero,List.setIfInBounds_toArray,List.set_cons_succ,List.set_cons_zero]
          refine wpAnyH_done (by kernel_rfl) ?_ _
          have Z:=Lib.hid hHeld.1
          go_wp2_with fail
          go_roundw
          case rel=>exact ⟨k+1,by omega,by go_num,X4.out.trans (Z.out.mono X4.out.size)⟩
          case measure=>simp [intOf];omega
        by_cases h2:YM<D
        · obtain ⟨CE,hCE⟩:∃ CE,setLk (cAt T.screen.cells k) 0=CE:=⟨_,rfl⟩
          have hEQ:setLk (cAt T.screen.cells k) 0=setLk (cAt T6.screen.cells k) 0:=HG.out.cell_out M6.out.1 (by
           rw [M6.out.2.2.2.c]
           rw [← HD.out];omega)
          have HX:=Lib.hid (show ∀ w',Below wr.heap.size wr w'→Below wr.heap.size wr w'∧w'.heap[b22]?=some (.cells (scrA s22) 56 (0,0))∧w'.heap[b18]?=some (.cells (scrA s18) 56 (0,0)) from fun w' hb=>⟨hb,((KP22.out.below X4.out).below hb).row,((K18.out.below X4.out).below hb).row⟩)
          have HA:=Lib.hid (show ∀ w',Below wr.heap.size wr w'→Calls Tryz.prog 29 #[.agg (scrA s22),.int .i64 k] w' fun e w''=>e=.returned (.agg (ceA CE))∧Below w'.heap.size w' w'' from fun w' hb=>by
           have h:=textC_any ((KP22.out.below X4.out).below hb).vs (i:=k) (by rw [HNN.out.1];exact hlt) (by have:=KS22.out.2.2.1;omega)
           rw [hCE] at h
           exact h)
          have HB:=Lib.hid (show ∀ w',Below wr.heap.size wr w'→Calls Tryz.prog 29 #[.agg (scrA s18),.int .i64 k] w' fun e w''=>e=.returned (.agg (ceA CE))∧Below w'.heap.size w' w'' from fun w' hb=>by
           have h:=textC_any ((K18.out.below X4.out).below hb).vs (i:=k) (by rw [HNN.out.2.1];exact hlt) (by have:=KS18.out.2.2.1;omega)
           rw [← hEQ,hCE] at h
           exact h)
          clear hCE hEQ p0 p1 p2 p3 p4 p5 p6 p7 p8 q0 q1 q2 q3 q4 q5 q6 q7 q8
          refine wp_region_held_drew (S:=fun w'=>Below wr.heap.size wr w'∧w'.heap[b22]?=some (.cells (scrA s22) 56 (0,0))∧w'.heap[b18]?=some (.cells (scrA s18) 56 (0,0))) (by kernel_rfl) (HX.out _ (Below.refl _ _).drew) (fun hHeld=>?_)
          generalize wr.drew=wd at hHeld ⊢
          refine tkH 0 (.int .i64 D) rfl (.inl ⟨by rfl,fun wz hSz=>?_⟩) hHeld ?_
          · go_simp
          simp only [Act.put,List.getElem_toArray,List.getElem_cons_zero,List.setIfInBounds_toArray,List.set_cons_succ,List.set_cons_zero]
          refine tkH 1 (.int .i64 XM) rfl (.inl ⟨by rfl,fun wz hSz=>?_⟩) hHeld ?_
          · go_simp
          simp only [Act.put,List.getElem_toArray,List.getElem_cons_succ,List.getElem_cons_zero,List.setIfInBounds_toArray,List.set_cons_succ,List.set_cons_zero]
          refine tkH 2 (.bool false) rfl (.inl ⟨by rfl,fun wz hSz=>?_⟩) hHeld ?_
          · go_simp
          simp only [Act.put,List.getElem_toArray,List.getElem_cons_succ,List.getElem_cons_zero,List.setIfInBounds_toArray,List.set_cons_succ,List.set_cons_zero]
          refine tkH 3 (.bool false) rfl (.inl ⟨by rfl,fun wz hSz=>?_⟩) hHeld ?_
          · go_simp
          simp only [Act.put,List.getElem_toArray,List.getElem_cons_succ,List.getElem_cons_zero,List.setIfInBounds_toArray,List.set_cons_succ,List.set_cons_zero]
          refine tkH 4 (.int .i64 D) rfl (.inl ⟨by rfl,fun wz hSz=>?_⟩) hHeld ?_
          · go_simp
          simp only [Act.put,List.getElem_toArray,List.getElem_cons_succ,List.getElem_cons_zero,List.setIfInBounds_toArray,List.set_cons_succ,List.set_cons_zero]
          refine tkH 5 (.int .i64 YM) rfl (.inl ⟨by rfl,fun wz hSz=>?_⟩) hHeld ?_
          · go_simp
          simp only [Act.put,List.getElem_toArray,List.getElem_cons_succ,List.getElem_cons_zero,List.setIfInBounds_toArray,List.set_cons_succ,List.set_cons_zero]
          refine tkH 6 (.bool true) rfl (.inl ⟨by rfl,fun wz hSz=>?_⟩) hHeld ?_
          · go_simp
          simp only [Act.put,List.getElem_toArray,List.getElem_cons_succ,List.getElem_cons_zero,List.setIfInBounds_toArray,List.set_cons_succ,List.set_cons_zero]
          refine tkH 7 (.bool true) rfl (.inl ⟨by rfl,fun wz hSz=>?_⟩) hHeld ?_
          · go_simp
          simp only [Act.put,List.getElem_toArray,List.getElem_cons_succ,List.getElem_cons_zero,List.setIfInBounds_toArray,List.set_cons_succ,List.set_cons_zero]
          refine tkH 8 (.bool true) rfl (.inl ⟨by rfl,fun wz hSz=>?_⟩) hHeld ?_
          · go_simp
          simp only [Act.put,List.getElem_toArray,List.getElem_cons_succ,List.getElem_cons_zero,List.setIfInBounds_toArray,List.set_cons_succ,List.set_cons_zero]
          refine tkH 9 (.func (Fn.func 29) #[] #[]) rfl (.inl ⟨by rfl,fun wz hSz=>?_⟩) hHeld ?_
          · go_simp
          simp only [Act.put,List.getElem_toArray,List.getElem_cons_succ,List.getElem_cons_zero,List.setIfInBounds_toArray,List.set_cons_succ,List.set_cons_zero]
          refine wpAnyH_take (i:=10) (v:=.agg (scrA s22)) rfl (by kernel_rfl) (by kernel_rfl) (by kernel_rfl) (fun _ _ _ h=>h) (yieldsIf_load_row (by rfl) 56 (.tmp 22) rfl b22 rfl (scrA s22) _ (fun w hw=>hw.2.1) Tryz.underlying56 rfl info56) hHeld ?_
          simp only [Act.put,List.getElem_toArray,List.getElem_cons_succ,List.getElem_cons_zero,List.setIfInBounds_toArray,List.set_cons_succ,List.set_cons_zero]
          refine tkH 11 (.int .i64 k) rfl (.inl ⟨by rfl,fun wz hSz=>?_⟩) hHeld ?_
          · go_simp
          simp only [Act.put,List.getElem_toArray,List.getElem_cons_succ,List.getElem_cons_zero,List.setIfInBounds_toArray,List.set_cons_succ,List.set_cons_zero]
          refine tkH 13 (.func (Fn.func 29) #[] #[]) rfl (.inl ⟨by rfl,fun wz hSz=>?_⟩) hHeld ?_
          · go_simp
          simp only [Act.put,List.getElem_toArray,List.getElem_cons_succ,List.getElem_cons_zero,List.setIfInBounds_toArray,List.set_cons_succ,List.set_cons_zero]
          refine wpAnyH_take (i:=14) (v:=.agg (scrA s18)) rfl (by kernel_rfl) (by kernel_rfl) (by kernel_rfl) (fun _ _ _ h=>h) (yieldsIf_load_row (by rfl) 56 (.tmp 18) rfl b18 rfl (scrA s18) _ (fun w hw=>hw.2.2) Tryz.underlying56 rfl info56) hHeld ?_
          simp only [Act.put,List.getElem_toArray,List.getElem_cons_succ,List.getElem_cons_zero,List.setIfInBounds_toArray,List.set_cons_succ,List.set_cons_zero]
          refine tkH 15 (.int .i64 k) rfl (.inl ⟨by rfl,fun wz hSz=>?_⟩) hHeld ?_
          · go_simp
          simp only [Act.put,List.getElem_toArray,List.getElem_cons_succ,List.getElem_cons_zero,List.setIfInBounds_toArray,List.set_cons_succ,List.set_cons_zero]
          refine wpAnyH_ready (rs:=[12]) (by kernel_rfl) (by simp) (AllReadyH.cons rfl (fun K hK=>?_) AllReadyH.nil)
          rw [if_pos (by rfl)]
          go_simp
          refine (HA.out _ hHeld.1).mono ?_
          rintro e wn ⟨rfl,hbn⟩
          refine hK.out _ _ (HX.out _ (hHeld.1.trans (hbn.mono hHeld.1.size))) (fun hHeld=>?_)
          clear hK K hbn
          refine wpAnyH_ready (rs:=[16]) (by kernel_rfl) (by simp) (AllReadyH.cons rfl (fun K hK=>?_) AllReadyH.nil)
          rw [if_pos (by rfl)]
          go_simp
          refine (HB.out _ hHeld.1).mono ?_
          rintro e wn ⟨rfl,hbn⟩
          refine hK.out _ _ (HX.out _ (hHeld.1.trans (hbn.mono hHeld.1.size))) (fun hHeld=>?_)
          clear hK K hbn
          refine tkH 17 (.bool false) rfl (.inl ⟨by rfl,fun wz hSz=>?_⟩) hHeld ?_
          · exact yields_ceneq rfl CE rfl rfl
          simp only [Act.put,List.getElem_toArray,List.getElem_cons_succ,List.getElem_cons_zero,List.setIfInBounds_toArray,List.set_cons_succ,List.set_cons_zero]
          refine tkH 18 (.bool false) rfl (.inl ⟨by rfl,fun wz hSz=>?_⟩) hHeld ?_
          · go_simp
          simp only [Act.put,List.getElem_toArray,List.getElem_cons_succ,List.getElem_cons_zero,List.setIfInBounds_toArray,List.set_cons_succ,List.set_cons_zero]
          refine wpAnyH_done (by kernel_rfl) ?_ _
          have Z:=Lib.hid hHeld.1
          go_wp2_with fail
          go_roundw
          case rel=>exact ⟨k+1,by omega,by go_num,X4.out.trans (Z.out.mono X4.out.size)⟩
          case measure=>simp [intOf];omega
        go_quiet (fail)
        go_wp2_with fail
        go_roundw
        case rel=>exact ⟨k+1,by omega,by go_num,belowN X4.out _⟩
        case measure=>simp [intOf];omega
      · obtain rfl:k=N:=by omega
        go_wp2_with fail
        go_ret
        exact ⟨rfl,BW.out.trans (X4.out.mono BW.out.size)⟩
    rcases (show r8=0∨r8=1∨r8=2∨r8=3∨r8=4∨r8=5∨6≤r8 by omega) with rfl | rfl | rfl | rfl | rfl | rfl | h6
    · go_wp2_with fail
      refine (bare_lw HT.out X.out.1 2 0 10).mono ?_
      rintro e w8 ⟨rfl,y8,hL,hof⟩
      have HL:=Lib.hid hL
      have HOF:=Lib.hid hof
      clear hL hof
      go_wp2_with fail
      go_roundw
      case rel=>exact ⟨k+1,y8,_,by omega,by omega,by go_num,HL.out,fun hy=>(X.out.2.1 hy).lf,X.out.2.2.1.doA _,X.out.2.2.2.on HOF.out⟩
      case measure=>simp [intOf];omega
    · go_wp2_with fail
      refine (bare_lw HT.out X.out.1 3 0 77).mono ?_
      rintro e w8 ⟨rfl,y8,hL,hof⟩
      have HL:=Lib.hid hL
      have HOF:=Lib.hid hof
      clear hL hof
      go_wp2_with fail
      go_roundw
      case rel=>exact ⟨k+1,y8,_,by omega,by omega,by go_num,HL.out,fun hy=>(X.out.2.1 hy).ri,X.out.2.2.1.doA _,X.out.2.2.2.on HOF.out⟩
      case measure=>simp [intOf];omega
    · go_wp2_with fail
      refine (csi1_lw HT.out X.out.1 83 _ rfl).mono ?_
      rintro e w8 ⟨rfl,y8,hL,hof⟩
      have HL:=Lib.hid hL
      have HOF:=Lib.hid hof
      clear hL hof
      go_wp2_with fail
      go_roundw
      case rel=>exact ⟨k+1,y8,_,by omega,by omega,by go_num,HL.out,fun hy=>(X.out.2.1 hy).su (by omega) (by omega),X.out.2.2.1.doA _,X.out.2.2.2.on HOF.out⟩
      case measure=>simp [intOf];omega
    · go_wp2_with fail
      refine (csi1_lw HT.out X.out.1 84 _ rfl).mono ?_
      rintro e w8 ⟨rfl,y8,hL,hof⟩
      have HL:=Lib.hid hL
      have HOF:=Lib.hid hof
      clear hL hof
      go_wp2_with fail
      go_roundw
      case rel=>exact ⟨k+1,y8,_,by omega,by omega,by go_num,HL.out,fun hy=>(X.out.2.1 hy).sd (by omega) (by omega),X.out.2.2.1.doA _,X.out.2.2.2.on HOF.out⟩
      case measure=>simp [intOf];omega
    · go_wp2_with fail
      refine (csi1_lw HT.out X.out.1 76 _ rfl).mono ?_
      rintro e w8 ⟨rfl,y8,hL,hof⟩
      have HL:=Lib.hid hL
      have HOF:=Lib.hid hof
      clear hL hof
      go_wp2_with fail
      go_roundw
      case rel=>exact ⟨k+1,y8,_,by omega,by omega,by go_num,HL.out,fun hy=>(X.out.2.1 hy).ldl (.inl rfl) (by omega) (by omega),X.out.2.2.1.doA _,X.out.2.2.2.on HOF.out⟩
      case measure=>simp [intOf];omega
    · go_wp2_with fail
      refine (csi1_lw HT.out X.out.1 77 _ rfl).mono ?_
      rintro e w8 ⟨rfl,y8,hL,hof⟩
      have HL:=Lib.hid hL
      have HOF:=Lib.hid hof
      clear hL hof
      go_wp2_with fail
      go_roundw
      case rel=>exact ⟨k+1,y8,_,by omega,by omega,by go_num,HL.out,fun hy=>(X.out.2.1 hy).ldl (.inr rfl) (by omega) (by omega),X.out.2.2.1.doA _,X.out.2.2.2.on HOF.out⟩
      case measure=>simp [intOf];omega
    · go_wp2_with fail
      refine (bare_lw HT.out X.out.1 1 _ 0).mono ?_
      rintro e w8 ⟨rfl,y8,hL,hof⟩
      have HL:=Lib.hid hL
      have HOF:=Lib.hid hof
      clear hL hof
      go_wp2_with fail
      go_roundw
      case rel=>exact ⟨k+1,y8,_,by omega,by omega,by go_num,HL.out,fun hy=>(X.out.2.1 hy).pr _,X.out.2.2.1.doA _,X.out.2.2.2.on HOF.out⟩
      case measure=>simp [intOf];omega
  · obtain rfl:k=n':=by omega
    go_wp2_with fail
    refine (screen_lw X.out.1).mono ?_
    rintro e wd22 ⟨hb5,s22,rfl,hs⟩
    obtain ⟨b22,hb9⟩:∃ b,b=wd22.heap.size:=⟨_,rfl⟩
    obtain ⟨we22,hw6⟩:∃ w',w'=wd22.alloc (.cells #[.int .i64 0,.int .i64 0,.slice none 0 0,.int .i64 0,.int .i64 0,.bool false,.int .u8 0,.string ⟨#[]⟩,.slice none 0 0] 56):=⟨_,rfl⟩
    have hone:(scrA s22).all (·.oneCell')=true:=by
     rw [Array.all_eq_true_iff_forall_mem]
     intro v hv
     simp only [scrA,List.mem_toArray,List.mem_cons,List.not_mem_nil,or_false] at hv
     rcases hv with rfl | rfl | rfl | rfl | rfl | rfl | rfl | rfl | rfl<;>rfl
    have HO:=Lib.hid hone
    have H30:=Lib.hid (show we22.heap[b22]?=some (.cells (scrA scN) 56 (0,0))∧Below wd22.heap.size wd22 we22∧b22=wd22.heap.size from ⟨by rw [hw6,hb9];exact heap_alloc_new wd22 _,by rw [hw6];exact (Below.refl _ _).alloc (Nat.le_refl _) _,hb9⟩)
    have HSC:=Lib.hid (And.intro hb5 hs)
    clear hone hb5 hs
    go_upto_region 32 with (refine wpList_store_row rfl 56 (.tmp 22) (.tmp 133) rfl b22 (scrA s22) (by rw [hb9];rfl) rfl 56 (scrA scN) (by rw [← hw6];exact H30.out.1) info56 rfl HO.out ?_)
    rw [← hw6,← hb9]
    obtain ⟨wf22,hw7⟩:∃ w',w'=we22.setRow b22 (scrA s22):=⟨_,rfl⟩
    rw [← hw7]
    have HDF:=Lib.hid (show Below wd22.heap.size wd22 wf22∧wf22.heap[b22]?=some (.cells (scrA s22) 56 (0,0)) from ⟨by rw [hw7];exact below_setRow H30.out.2.1 (Nat.le_of_eq H30.out.2.2.symm) _,by rw [hw7];exact setRow_heap we22 _ _ _ _ _ H30.out.1⟩)
    have KP22:=Lib.hid (show Kept wf22 g1 y b22 s22 (T).screen.cells from ⟨HDF.out.2,⟨(Array.getElem?_eq_some_iff.1 HDF.out.2).1,fun hq=>by
     have h1:=X.out.1.cz.hi _ hq
     have h2:=HSC.out.1.size
     have h3:=H30.out.2.2
     omega⟩,HSC.out.2.sc.cells.below HDF.out.1,fun ad e hn=>by
     obtain ⟨gg,e2,h2,h3⟩:=HSC.out.2.cx.own hn
     rw [e2] at e
     injection e with e
     subst e
     have h4:=HDF.out.1.size
     have h5:=(Array.getElem?_eq_some_iff.1 h3.choose_spec).1
     exact ⟨by show gg<_;omega,fun hq=>by have h1:=X.out.1.cz.hi _ hq;have:wr.heap.size≤gg:=h2;have:gg<wr.heap.size:=h1;omega⟩⟩)
    have KS22:=Lib.hid (show s22.x=(T).screen.x∧s22.y=(T).screen.y∧s22.n≤1920∧s22.n≤s22.k∧s22.c=(T).screen.c from ⟨HSC.out.2.sc.x.symm,HSC.out.2.sc.y.symm,HSC.out.2.n,HSC.out.2.sc.nk,HSC.out.2.sc.c.symm⟩)
    have LW22:=Lib.hid (show Lw w wf22 g1 y (T) from (X.out.1.below HSC.out.1).below HDF.out.1)
    have KK22:=Lib.hid (HSC.out.1.trans (HDF.out.1.mono HSC.out.1.size))
    clear HO H30 HSC HDF hw6 hw7 hb9
    have K18:=Lib.hid (X.out.2.2.2.below KK22.out)
    have XM2:=Lib.hid (And.intro X.out.2.1 (And.intro X.out.2.2.1 X.out.1.bel))
    have BW:=Lib.hid (X.out.1.bel.trans (KK22.out.mono X.out.1.bel.size))
    clear X KK22
    obtain ⟨_,_,q2,_,q4,_,_,_,_,_⟩:=row_scc K18.out.row
    obtain ⟨p0,_,p2,_,p4,_,_,_,_,_⟩:=row_scc KP22.out.row
    rw [KS18.out.2.1] at q4
    rw [KS22.out.2.1] at p4
    by_cases hy0:(XM:Int)≤T6.screen.y
    case neg =>
     go_wp2_with fail
     go_ret
     exact ⟨rfl,BW.out⟩
    by_cases hy1:T6.screen.y≤(YM:Int)
    case neg =>
     go_wp2_with fail
     go_ret
     exact ⟨rfl,BW.out⟩
    have HG:=Lib.hid (XM2.out.1 ⟨hy0,hy1⟩)
    have hz0:(XM:Int)≤T.screen.y:=HG.out.y0
    have hz1:T.screen.y≤(YM:Int):=HG.out.y1
    have hlen:∀ u:Tm,TmOk u→Siz C R u→u.screen.cells.length=R*C:=fun u hu hs=>by
     show (canonC u.shown.flatten u.table).length=_
     rw [canonC_len,hu.shown.box.flen,hs.c,hs.r]
    have hn22:s22.n=R*C:=by rw [← KP22.out.vs.len];exact hlen T HG.out.ok XM2.out.2.1
    have hn18:s18.n=R*C:=by rw [← K18.out.vs.len];exact hlen T6 M6.out.1 M6.out.2.2.2
    obtain ⟨N,hN⟩:∃ N:Nat,R*C=N:=⟨_,rfl⟩
    rw [hN] at hn22 hn18
    have hN2:N≤1920:=by rw [← hn22];exact KS22.out.2.2.1
    rw [hn22] at p2
    rw [hn18] at q2
    have hc22:s22.c=(C:Int):=by rw [KS22.out.2.2.2.2];show (T.c:Int)=_;rw [XM2.out.2.1.c]
    rw [hc22] at p0
    have HNN:=Lib.hid (And.intro hn22 (And.intro hn18 (And.intro hN hc22)))
    clear hlen hn22 hn18 hN hc22
    go_wp2_with fail
    clear p0 p2 p4 q2 q4
    go_loopw [166] (fun i wr=>∃ k:Nat,k≤N∧i=.int .i64 k∧Below wf22.heap.size wf22 wr) (fun i _=>N-(intOf i).toNat)
    case atStart=>exact ⟨0,Nat.zero_le _,rfl,Below.refl _ _⟩
    case round =>
     obtain ⟨k,hk,rfl,hb4⟩:=hrel
     have X4:=Lib.hid hb4
     clear hb4
     obtain ⟨p0,p1,p2,p3,p4,p5,p6,p7,p8,_⟩:=row_scc (KP22.out.below X4.out).row
     obtain ⟨q0,q1,q2,q3,q4,q5,q6,q7,q8,_⟩:=row_scc (K18.out.below X4.out).row
     rw [HNN.out.2.2.2] at p0
     by_cases hlt:k<N
     · obtain ⟨D,hD⟩:∃ D:Nat,D=k / C:=⟨_,rfl⟩
       have hdv:(k:Int).tdiv (C:Int)=(D:Int):=by rw [hD];exact (Int.ofNat_tdiv k C).symm
       have hD2:D≤2000:=by rw [hD];exact Nat.le_trans (Nat.div_le_self k C) (by omega)
       have HD:=Lib.hid hD
       clear hD
       go_upto_region 41 with fail
       clear hdv
       by_cases h1:D<XM
       · obtain ⟨CE,hCE⟩:∃ CE,setLk (cAt T.screen.cells k) 0=CE:=⟨_,rfl⟩
         have hEQ:setLk (cAt T.screen.cells k) 0=setLk (cAt T6.screen.cells k) 0:=HG.out.cell_out M6.out.1 (by
          rw [M6.out.2.2.2.c]
          rw [← HD.out];omega)
         have HX:=Lib.hid (show ∀ w',Below wr.heap.size wr w'→Below wr.heap.size wr w'∧w'.heap[b22]?=some (.cells (scrA s22) 56 (0,0))∧w'.heap[b18]?=some (.cells (scrA s18) 56 (0,0)) from fun w' hb=>⟨hb,((KP22.out.below X4.out).below hb).row,((K18.out.below X4.out).below hb).row⟩)
         have HA:=Lib.hid (show ∀ w',Below wr.heap.size wr w'→Calls Tryz.prog 29 #[.agg (scrA s22),.int .i64 k] w' fun e w''=>e=.returned (.agg (ceA CE))∧Below w'.heap.size w' w'' from fun w' hb=>by
          have h:=textC_any ((KP22.out.below X4.out).below hb).vs (i:=k) (by rw [HNN.out.1];exact hlt) (by have:=KS22.out.2.2.1;omega)
          rw [hCE] at h
          exact h)
         have HB:=Lib.hid (show ∀ w',Below wr.heap.size wr w'→Calls Tryz.prog 29 #[.agg (scrA s18),.int .i64 k] w' fun e w''=>e=.returned (.agg (ceA CE))∧Below w'.heap.size w' w'' from fun w' hb=>by
          have h:=textC_any ((K18.out.below X4.out).below hb).vs (i:=k) (by rw [HNN.out.2.1];exact hlt) (by have:=KS18.out.2.2.1;omega)
          rw [← hEQ,hCE] at h
          exact h)
         clear hCE hEQ p0 p1 p2 p3 p4 p5 p6 p7 p8 q0 q1 q2 q3 q4 q5 q6 q7 q8
         refine wp_region_held_drew (S:=fun w'=>Below wr.heap.size wr w'∧w'.heap[b22]?=some (.cells (scrA s22) 56 (0,0))∧w'.heap[b18]?=some (.cells (scrA s18) 56 (0,0))) (by kernel_rfl) (HX.out _ (Below.refl _ _).drew) (fun hHeld=>?_)
         generalize wr.drew=wd at hHeld ⊢
         refine tkH 0 (.int .i64 D) rfl (.inl ⟨by rfl,fun wz hSz=>?_⟩) hHeld ?_
         · go_simp
         simp only [Act.put,List.getElem_toArray,List.getElem_cons_zero,List.setIfInBounds_toArray,List.set_cons_succ,List.set_cons_zero]
         refine tkH 1 (.int .i64 XM) rfl (.inl ⟨by rfl,fun wz hSz=>?_⟩) hHeld ?_
         · go_simp
         simp only [Act.put,List.getElem_toArray,List.getElem_cons_succ,List.getElem_cons_zero,List.setIfInBounds_toArray,List.set_cons_succ,List.set_cons_zero]
         refine tkH 2 (.bool true) rfl (.inl ⟨by rfl,fun wz hSz=>?_⟩) hHeld ?_
         · go_simp
         simp only [Act.put,List.getElem_toArray,List.getElem_cons_succ,List.getElem_cons_zero,List.setIfInBounds_toArray,List.set_cons_succ,List.set_cons_zero]
         refine tkH 3 (.bool true) rfl (.inl ⟨by rfl,fun wz hSz=>?_⟩) hHeld ?_
         · go_simp
         simp only [Act.put,List.getElem_toArray,List.getElem_cons_succ,List.getElem_cons_zero,List.setIfInBounds_toArray,List.set_cons_succ,List.set_cons_zero]
         refine wpAnyH_take (i:=4) (v:=undef) rfl (by kernel_rfl) (by kernel_rfl) (by kernel_rfl) (fun _ _ _ h=>h) (Or.inr ⟨by rfl,rfl⟩) hHeld ?_
         simp only [Act.put,List.getElem_toArray,List.getElem_cons_succ,List.getElem_cons_zero,List.setIfInBounds_toArray,List.set_cons_succ,List.set_cons_zero]
         refine wpAnyH_take (i:=5) (v:=undef) rfl (by kernel_rfl) (by kernel_rfl) (by kernel_rfl) (fun _ _ _ h=>h) (Or.inr ⟨by rfl,rfl⟩) hHeld ?_
         simp only [Act.put,List.getElem_toArray,List.getElem_cons_succ,List.getElem_cons_zero,List.setIfInBounds_toArray,List.set_cons_succ,List.set_cons_zero]
         refine wpAnyH_take (i:=6) (v:=undef) rfl (by kernel_rfl) (by kernel_rfl) (by kernel_rfl) (fun _ _ _ h=>h) (Or.inr ⟨by rfl,rfl⟩) hHeld ?_
         simp only [Act.put,List.getElem_toArray,List.getElem_cons_succ,List.getElem_cons_zero,List.setIfInBounds_toArray,List.set_cons_succ,List.set_cons_zero]
         refine tkH 7 (.bool true) rfl (.inl ⟨by rfl,fun wz hSz=>?_⟩) hHeld ?_
         · go_simp
         simp only [Act.put,List.getElem_toArray,List.getElem_cons_succ,List.getElem_cons_zero,List.setIfInBounds_toArray,List.set_cons_succ,List.set_cons_zero]
         refine tkH 8 (.bool true) rfl (.inl ⟨by rfl,fun wz hSz=>?_⟩) hHeld ?_
         · go_simp
         simp only [Act.put,List.getElem_toArray,List.getElem_cons_succ,List.getElem_cons_zero,List.setIfInBounds_toArray,List.set_cons_succ,List.set_cons_zero]
         refine tkH 9 (.func (Fn.func 29) #[] #[]) rfl (.inl ⟨by rfl,fun wz hSz=>?_⟩) hHeld ?_
         · go_simp
         simp only [Act.put,List.getElem_toArray,List.getElem_cons_succ,List.getElem_cons_zero,List.setIfInBounds_toArray,List.set_cons_succ,List.set_cons_zero]
         refine wpAnyH_take (i:=10) (v:=.agg (scrA s22)) rfl (by kernel_rfl) (by kernel_rfl) (by kernel_rfl) (fun _ _ _ h=>h) (yieldsIf_load_row (by rfl) 56 (.tmp 22) rfl b22 rfl (scrA s22) _ (fun w hw=>hw.2.1) Tryz.underlying56 rfl info56) hHeld ?_
         simp only [Act.put,List.getElem_toArray,List.getElem_cons_succ,List.getElem_cons_zero,List.setIfInBounds_toArray,List.set_cons_succ,List.set_cons_zero]
         refine tkH 11 (.int .i64 k) rfl (.inl ⟨by rfl,fun wz hSz=>?_⟩) hHeld ?_
         · go_simp
         simp only [Act.put,List.getElem_toArray,List.getElem_cons_succ,List.getElem_cons_zero,List.setIfInBounds_toArray,List.set_cons_succ,List.set_cons_zero]
         refine tkH 13 (.func (Fn.func 29) #[] #[]) rfl (.inl ⟨by rfl,fun wz hSz=>?_⟩) hHeld ?_
         · go_simp
         simp only [Act.put,List.getElem_toArray,List.getElem_cons_succ,List.getElem_cons_zero,List.setIfInBounds_toArray,List.set_cons_succ,List.set_cons_zero]
         refine wpAnyH_take (i:=14) (v:=.agg (scrA s18)) rfl (by kernel_rfl) (by kernel_rfl) (by kernel_rfl) (fun _ _ _ h=>h) (yieldsIf_load_row (by rfl) 56 (.tmp 18) rfl b18 rfl (scrA s18) _ (fun w hw=>hw.2.2) Tryz.underlying56 rfl info56) hHeld ?_
         simp only [Act.put,List.getElem_toArray,List.getElem_cons_succ,List.getElem_cons_zero,List.setIfInBounds_toArray,List.set_cons_succ,List.set_cons_zero]
         refine tkH 15 (.int .i64 k) rfl (.inl ⟨by rfl,fun wz hSz=>?_⟩) hHeld ?_
         · go_simp
         simp only [Act.put,List.getElem_toArray,List.getElem_cons_succ,List.getElem_cons_zero,List.setIfInBounds_toArray,List.set_cons_succ,List.set_cons_zero]
         refine wpAnyH_ready (rs:=[12]) (by kernel_rfl) (by simp) (AllReadyH.cons rfl (fun K hK=>?_) AllReadyH.nil)
         rw [if_pos (by rfl)]
         go_simp
         refine (HA.out _ hHeld.1).mono ?_
         rintro e wn ⟨rfl,hbn⟩
         refine hK.out _ _ (HX.out _ (hHeld.1.trans (hbn.mono hHeld.1.size))) (fun hHeld=>?_)
         clear hK K hbn
         refine wpAnyH_ready (rs:=[16]) (by kernel_rfl) (by simp) (AllReadyH.cons rfl (fun K hK=>?_) AllReadyH.nil)
         rw [if_pos (by rfl)]
         go_simp
         refine (HB.out _ hHeld.1).mono ?_
         rintro e wn ⟨rfl,hbn⟩
         refine hK.out _ _ (HX.out _ (hHeld.1.trans (hbn.mono hHeld.1.size))) (fun hHeld=>?_)
         clear hK K hbn
         refine tkH 17 (.bool false) rfl (.inl ⟨by rfl,fun wz hSz=>?_⟩) hHeld ?_
         · exact yields_ceneq rfl CE rfl rfl
         simp only [Act.put,List.getElem_toArray,List.getElem_cons_succ,List.getElem_cons_zero,List.setIfInBounds_toArray,List.set_cons_succ,List.set_cons_zero]
         refine tkH 18 (.bool false) rfl (.inl ⟨by rfl,fun wz hSz=>?_⟩) hHeld ?_
         · go_simp
         simp only [Act.put,List.getElem_toArray,List.getElem_cons_succ,List.getElem_cons_zero,List.setIfInBounds_toArray,List.set_cons_succ,List.set_cons_zero]
         refine wpAnyH_done (by kernel_rfl) ?_ _
         have Z:=Lib.hid hHeld.1
         go_wp2_with fail
         go_roundw
         case rel=>exact ⟨k+1,by omega,by go_num,X4.out.trans (Z.out.mono X4.out.size)⟩
         case measure=>simp [intOf];omega
       by_cases h2:YM<D
       · obtain ⟨CE,hCE⟩:∃ CE,setLk (cAt T.screen.cells k) 0=CE:=⟨_,rfl⟩
         have hEQ:setLk (cAt T.screen.cells k) 0=setLk (cAt T6.screen.cells k) 0:=HG.out.cell_out M6.out.1 (by
          rw [M6.out.2.2.2.c]
          rw [← HD.out];omega)
         have HX:=Lib.hid (show ∀ w',Below wr.heap.size wr w'→Below wr.heap.size wr w'∧w'.heap[b22]?=some (.cells (scrA s22) 56 (0,0))∧w'.heap[b18]?=some (.cells (scrA s18) 56 (0,0)) from fun w' hb=>⟨hb,((KP22.out.below X4.out).below hb).row,((K18.out.below X4.out).below hb).row⟩)
         have HA:=Lib.hid (show ∀ w',Below wr.heap.size wr w'→Calls Tryz.prog 29 #[.agg (scrA s22),.int .i64 k] w' fun e w''=>e=.returned (.agg (ceA CE))∧Below w'.heap.size w' w'' from fun w' hb=>by
          have h:=textC_any ((KP22.out.below X4.out).below hb).vs (i:=k) (by rw [HNN.out.1];exact hlt) (by have:=KS22.out.2.2.1;omega)
          rw [hCE] at h
          exact h)
         have HB:=Lib.hid (show ∀ w',Below wr.heap.size wr w'→Calls Tryz.prog 29 #[.agg (scrA s18),.int .i64 k] w' fun e w''=>e=.returned (.agg (ceA CE))∧Below w'.heap.size w' w'' from fun w' hb=>by
          have h:=textC_any ((K18.out.below X4.out).below hb).vs (i:=k) (by rw [HNN.out.2.1];exact hlt) (by have:=KS18.out.2.2.1;omega)
          rw [← hEQ,hCE] at h
          exact h)
         clear hCE hEQ p0 p1 p2 p3 p4 p5 p6 p7 p8 q0 q1 q2 q3 q4 q5 q6 q7 q8
         refine wp_region_held_drew (S:=fun w'=>Below wr.heap.size wr w'∧w'.heap[b22]?=some (.cells (scrA s22) 56 (0,0))∧w'.heap[b18]?=some (.cells (scrA s18) 56 (0,0))) (by kernel_rfl) (HX.out _ (Below.refl _ _).drew) (fun hHeld=>?_)
         generalize wr.drew=wd at hHeld ⊢
         refine tkH 0 (.int .i64 D) rfl (.inl ⟨by rfl,fun wz hSz=>?_⟩) hHeld ?_
         · go_simp
         simp only [Act.put,List.getElem_toArray,List.getElem_cons_zero,List.setIfInBounds_toArray,List.set_cons_succ,List.set_cons_zero]
         refine tkH 1 (.int .i64 XM) rfl (.inl ⟨by rfl,fun wz hSz=>?_⟩) hHeld ?_
         · go_simp
         simp only [Act.put,List.getElem_toArray,List.getElem_cons_succ,List.getElem_cons_zero,List.setIfInBounds_toArray,List.set_cons_succ,List.set_cons_zero]
         refine tkH 2 (.bool false) rfl (.inl ⟨by rfl,fun wz hSz=>?_⟩) hHeld ?_
         · go_simp
         simp only [Act.put,List.getElem_toArray,List.getElem_cons_succ,List.getElem_cons_zero,List.setIfInBounds_toArray,List.set_cons_succ,List.set_cons_zero]
         refine tkH 3 (.bool false) rfl (.inl ⟨by rfl,fun wz hSz=>?_⟩) hHeld ?_
         · go_simp
         simp only [Act.put,List.getElem_toArray,List.getElem_cons_succ,List.getElem_cons_zero,List.setIfInBounds_toArray,List.set_cons_succ,List.set_cons_zero]
         refine tkH 4 (.int .i64 D) rfl (.inl ⟨by rfl,fun wz hSz=>?_⟩) hHeld ?_
         · go_simp
         simp only [Act.put,List.getElem_toArray,List.getElem_cons_succ,List.getElem_cons_zero,List.setIfInBounds_toArray,List.set_cons_succ,List.set_cons_zero]
         refine tkH 5 (.int .i64 YM) rfl (.inl ⟨by rfl,fun wz hSz=>?_⟩) hHeld ?_
         · go_simp
         simp only [Act.put,List.getElem_toArray,List.getElem_cons_succ,List.getElem_cons_zero,List.setIfInBounds_toArray,List.set_cons_succ,List.set_cons_zero]
         refine tkH 6 (.bool true) rfl (.inl ⟨by rfl,fun wz hSz=>?_⟩) hHeld ?_
         · go_simp
         simp only [Act.put,List.getElem_toArray,List.getElem_cons_succ,List.getElem_cons_zero,List.setIfInBounds_toArray,List.set_cons_succ,List.set_cons_zero]
         refine tkH 7 (.bool true) rfl (.inl ⟨by rfl,fun wz hSz=>?_⟩) hHeld ?_
         · go_simp
         simp only [Act.put,List.getElem_toArray,List.getElem_cons_succ,List.getElem_cons_zero,List.setIfInBounds_toArray,List.set_cons_succ,List.set_cons_zero]
         refine tkH 8 (.bool true) rfl (.inl ⟨by rfl,fun wz hSz=>?_⟩) hHeld ?_
         · go_simp
         simp only [Act.put,List.getElem_toArray,List.getElem_cons_succ,List.getElem_cons_zero,List.setIfInBounds_toArray,List.set_cons_succ,List.set_cons_zero]
         refine tkH 9 (.func (Fn.func 29) #[] #[]) rfl (.inl ⟨by rfl,fun wz hSz=>?_⟩) hHeld ?_
         · go_simp
         simp only [Act.put,List.getElem_toArray,List.getElem_cons_succ,List.getElem_cons_zero,List.setIfInBounds_toArray,List.set_cons_succ,List.set_cons_zero]
         refine wpAnyH_take (i:=10) (v:=.agg (scrA s22)) rfl (by kernel_rfl) (by kernel_rfl) (by kernel_rfl) (fun _ _ _ h=>h) (yieldsIf_load_row (by rfl) 56 (.tmp 22) rfl b22 rfl (scrA s22) _ (fun w hw=>hw.2.1) Tryz.underlying56 rfl info56) hHeld ?_
         simp only [Act.put,List.getElem_toArray,List.getElem_cons_succ,List.getElem_cons_zero,List.setIfInBounds_toArray,List.set_cons_succ,List.set_cons_zero]
         refine tkH 11 (.int .i64 k) rfl (.inl ⟨by rfl,fun wz hSz=>?_⟩) hHeld ?_
         · go_simp
         simp only [Act.put,List.getElem_toArray,List.getElem_cons_succ,List.getElem_cons_zero,List.setIfInBounds_toArray,List.set_cons_succ,List.set_cons_zero]
         refine tkH 13 (.func (Fn.func 29) #[] #[]) rfl (.inl ⟨by rfl,fun wz hSz=>?_⟩) hHeld ?_
         · go_simp
         simp only [Act.put,List.getElem_toArray,List.getElem_cons_succ,List.getElem_cons_zero,List.setIfInBounds_toArray,List.set_cons_succ,List.set_cons_zero]
         refine wpAnyH_take (i:=14) (v:=.agg (scrA s18)) rfl (by kernel_rfl) (by kernel_rfl) (by kernel_rfl) (fun _ _ _ h=>h) (yieldsIf_load_row (by rfl) 56 (.tmp 18) rfl b18 rfl (scrA s18) _ (fun w hw=>hw.2.2) Tryz.underlying56 rfl info56) hHeld ?_
         simp only [Act.put,List.getElem_toArray,List.getElem_cons_succ,List.getElem_cons_zero,List.setIfInBounds_toArray,List.set_cons_succ,List.set_cons_zero]
         refine tkH 15 (.int .i64 k) rfl (.inl ⟨by rfl,fun wz hSz=>?_⟩) hHeld ?_
         · go_simp
         simp only [Act.put,List.getElem_toArray,List.getElem_cons_succ,List.getElem_cons_zero,List.setIfInBounds_toArray,List.set_cons_succ,List.set_cons_zero]
         refine wpAnyH_ready (rs:=[12]) (by kernel_rfl) (by simp) (AllReadyH.cons rfl (fun K hK=>?_) AllReadyH.nil)
         rw [if_pos (by rfl)]
         go_simp
         refine (HA.out _ hHeld.1).mono ?_
         rintro e wn ⟨rfl,hbn⟩
         refine hK.out _ _ (HX.out _ (hHeld.1.trans (hbn.mono hHeld.1.size))) (fun hHeld=>?_)
         clear hK K hbn
         refine wpAnyH_ready (rs:=[16]) (by kernel_rfl) (by simp) (AllReadyH.cons rfl (fun K hK=>?_) AllReadyH.nil)
         rw [if_pos (by rfl)]
         go_simp
         refine (HB.out _ hHeld.1).mono ?_
         rintro e wn ⟨rfl,hbn⟩
         refine hK.out _ _ (HX.out _ (hHeld.1.trans (hbn.mono hHeld.1.size))) (fun hHeld=>?_)
         clear hK K hbn
         refine tkH 17 (.bool false) rfl (.inl ⟨by rfl,fun wz hSz=>?_⟩) hHeld ?_
         · exact yields_ceneq rfl CE rfl rfl
         simp only [Act.put,List.getElem_toArray,List.getElem_cons_succ,List.getElem_cons_zero,List.setIfInBounds_toArray,List.set_cons_succ,List.set_cons_zero]
         refine tkH 18 (.bool false) rfl (.inl ⟨by rfl,fun wz hSz=>?_⟩) hHeld ?_
         · go_simp
         simp only [Act.put,List.getElem_toArray,List.getElem_cons_succ,List.getElem_cons_zero,List.setIfInBounds_toArray,List.set_cons_succ,List.set_cons_zero]
         refine wpAnyH_done (by kernel_rfl) ?_ _
         have Z:=Lib.hid hHeld.1
         go_wp2_with fail
         go_roundw
         case rel=>exact ⟨k+1,by omega,by go_num,X4.out.trans (Z.out.mono X4.out.size)⟩
         case measure=>simp [intOf];omega
       go_quiet (fail)
       go_wp2_with fail
       go_roundw
       case rel=>exact ⟨k+1,by omega,by go_num,belowN X4.out _⟩
       case measure=>simp [intOf];omega
     · obtain rfl:k=N:=by omega
       go_wp2_with fail
       go_ret
       exact ⟨rfl,BW.out.trans (X4.out.mono BW.out.size)⟩
set_option maxRecDepth 100000 in
theorem lifted (os:Os) (started:os.Started) (H:Type) (enc:TypeId × Value→H) :
  ReturnsInHanded {} Tryz.checked os 10 .any (fun w args=>(Rows.emulMarginsSpec.pre enc Tryz.prog Tryz.f10 [] false w args∧laidMetH Tryz.prog laidL w)∧sizedMet enc Tryz.prog Tryz.f10 (OpenSpec.ofChange Rows.emulMarginsSpec) false w args)
   (Rows.emulMarginsSpec.post enc Tryz.prog Tryz.f10 false true false false):=by
 refine returnsInHanded_of_change_and (C:=Tryz.checked) (X:=fun w _=>laidMetH Tryz.prog laidL w) (fun _ _ _ hh h=>h.of_heap hh) own started (by kernel_rfl) Tryz.func10
  (ChangeSpec.witness_shaped (enc:=enc) (C:=Tryz.checked) (os:=os) (X:=fun w _=>laidMetH Tryz.prog laidL w) false (World.laidAll Tryz.prog os laidL) #[.int .u8 0,.int .u8 0,.slice none 0 0,.int .u8 0,.int .u8 0,.slice none 0 0] 8 (World.laidAll_os _ _ _) (start_shaped os) (by kernel_rfl) (by kernel_rfl) (by kernel_rfl) (start_met os _)) ?_
 intro W base args ds gs before hval0 hW _ hsz0 hL _
 have hsz:(DataW.weightsEach Tryz.prog (Tryz.f10.params.toList ++ Rows.emulMarginsSpec.plain.varTypes Tryz.prog) (ds ++ gs)).all (·≤reachBytes)=true:=hsz0
 clear hsz0
 have hval:∀ (j:Nat) t v,Tryz.f10.params[j]?=some t→args[j]?=some v→Value.okWide Tryz.prog W .any base t v:=hval0
 have hW':=hW
 obtain ⟨p,q,hA0,hV,rfl,_,_⟩:=hW
 have hA:DataW.TrodAll enc Tryz.prog W 0 (fun _=>true) true Tryz.f10.params.toList args.toList ds p:=hA0
 rw [Tryz.params10] at hA hval hsz
 obtain ⟨v0,vs0,d0,ds0,p0,q0,hargs,rfl,rfl,h0,r0⟩:=trodAll_cons hA
 obtain ⟨v1,vs1,d1,ds1,p1,q1,rfl,rfl,rfl,h1,r1⟩:=trodAll_cons r0
 obtain ⟨v2,vs2,d2,ds2,p2,q2,rfl,rfl,rfl,h2,r2⟩:=trodAll_cons r1
 obtain ⟨v3,vs3,d3,ds3,p3,q3,rfl,rfl,rfl,h3,r3⟩:=trodAll_cons r2
 obtain ⟨v4,vs4,d4,ds4,p4,q4,rfl,rfl,rfl,h4,r4⟩:=trodAll_cons r3
 obtain ⟨v5,vs5,d5,ds5,p5,q5,rfl,rfl,rfl,h5,r5⟩:=trodAll_cons r4
 obtain ⟨rfl,rfl,rfl⟩:=trodAll_nil r5
 obtain rfl:args=#[v0,v1,v2,v3,v4,v5]:=by cases args;simp_all
 obtain ⟨rfl,rfl⟩:=trodVars_none hV
 obtain ⟨a0,rfl,rfl,rfl,w0⟩:=open_int Tryz.underlying5 (hval 0 5 v0 rfl rfl) h0
 obtain ⟨a1,rfl,rfl,rfl,w1⟩:=open_int Tryz.underlying5 (hval 1 5 v1 rfl rfl) h1
 have lt2:∀ x∈p2,x.block<W.heap.size:=by obtain ⟨m,hm⟩:=h2;exact DataW.trod_lt m _ _ _ hm
 obtain ⟨A2,n2,c2,z2,rfl,s2,u2,g2⟩:=open_bytes (hval 2 36 v2 rfl rfl) h2
 have m2:=g2 _ _ 2 hsz rfl rfl
 obtain ⟨a3,rfl,rfl,rfl,w3⟩:=open_int Tryz.underlying5 (hval 3 5 v3 rfl rfl) h3
 obtain ⟨a4,rfl,rfl,rfl,w4⟩:=open_int Tryz.underlying5 (hval 4 5 v4 rfl rfl) h4
 have lt5:∀ x∈p5,x.block<W.heap.size:=by obtain ⟨m,hm⟩:=h5;exact DataW.trod_lt m _ _ _ hm
 obtain ⟨A5,n5,c5,z5,rfl,s5,u5,g5⟩:=open_bytes (hval 5 36 v5 rfl rfl) h5
 have m5:=g5 _ _ 5 hsz rfl rfl
 clear hA0 hval0
 refine (walk W (tabs_of_laid hL) w0 w1 s2 u2 m2 w3 w4 s5 u5 m5).mono fun e W' ⟨he,bel⟩=>?_
 subst he
 exact ⟨_,rfl,_,_,_,[],_,[],hW',trodAll_mk1 (shut_bool Tryz.underlying4 _),(trodAll_cons_mk (shut_int Tryz.underlying5 w0) (trodAll_cons_mk (shut_int Tryz.underlying5 w1) (trodAll_cons_mk (Below.trod laidOut (by kernel_rfl) (of_decide_eq_true (by kernel_rfl)) h2 bel lt2) (trodAll_cons_mk (shut_int Tryz.underlying5 w3) (trodAll_cons_mk (shut_int Tryz.underlying5 w4) (trodAll_cons_mk (Below.trod laidOut (by kernel_rfl) (of_decide_eq_true (by kernel_rfl)) h5 bel lt5) trodAll_mk0)))))),rfl,bel.frame _,fun h=>by cases h⟩
theorem over:Rows.emulMarginsRow.holds Tryz.pinned (OpenSpec.ofChange Rows.emulMarginsSpec) :=
 OpenClaim.holds_of_wide 10 Tryz.f10 rfl rfl rfl rfl rfl rfl rfl ⟨rfl,rfl,rfl,rfl,rfl⟩ rfl rfl rfl rfl rfl (by kernel_rfl) Tryz.func10 (by kernel_rfl)
  (of_decide_eq_true (by kernel_rfl)) (by unfold Func.isWrapper;first | (rw [if_pos (by decide +kernel)];kernel_rfl) | (rw [if_neg (by decide +kernel)];exact ⟨rfl,rfl⟩))
  (fun os started H enc _=>lifted os started H enc)
theorem proved:Rows.EmulMarginsCardSaid :=
 Claim7.holds_tied_plain_at .later [] [.data,.data,.pinned] true Rows.emulMarginsCard.stood.harness false
  over (fun _ h=>by cases h) (by kernel_rfl) (fun _ h=>by cases h) emulMargins_row_tie rfl ⟨rfl,rfl⟩ (by kernel_rfl) rfl
  (fun f fn hf hfn=>by
   obtain rfl:f=10:=Option.some.inj ((show Tryz.prog.funcNamed "spyglass/spyglasslaw12.EmulMargins"=some 10 by kernel_rfl).symm.trans hf) |>.symm
   obtain rfl:fn=Tryz.f10:=(Option.some.inj (Tryz.func10.symm.trans hfn)).symm
   exact ⟨by kernel_rfl,fun j t ht=>by
    rw [Tryz.params10] at ht
    have hm:t∈[5,5,36,5,5,36]:=by simpa using Array.mem_of_getElem? ht
    have hall:([5,5,36,5,5,36].all fun u=>!Tryz.prog.wantsStandIn u)=true:=by kernel_rfl
    exact (show Tryz.prog.wantsStandIn t=false by simpa using List.all_eq_true.1 hall t hm)⟩)
  (by kernel_rfl)
end Go.Proofs.YtlcipgdnpilkfaaGreatDoor.emulMargins
