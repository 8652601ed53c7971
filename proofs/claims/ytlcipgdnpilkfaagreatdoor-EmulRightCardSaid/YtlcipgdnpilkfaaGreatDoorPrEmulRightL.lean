/-
  Proved: EmulRight answers true for every size and all steps, over the tables that the library and the program lay (a tied card).
-/
import Derived.Test.YtlcipgdnpilkfaaGreatDoorCards
import Derived.Test.YtlcipgdnpilkfaaGreatDoorTie
import Derived.SevenTiedAt
import Derived.WalkKit
import Derived.Test.YtlcipgdnpilkfaaGreatDoorPr01
import Derived.Test.YtlcipgdnpilkfaaGreatDoorPr02
import Derived.Test.YtlcipgdnpilkfaaGreatDoorPr04
import Derived.Test.YtlcipgdnpilkfaaGreatDoorPr17
import Derived.Test.YtlcipgdnpilkfaaGreatDoorPr30
import Derived.Test.YtlcipgdnpilkfaaGreatDoorPr34
import Derived.Test.YtlcipgdnpilkfaaGreatDoorPr45
import Derived.Test.YtlcipgdnpilkfaaGreatDoorPr46
import Derived.Test.YtlcipgdnpilkfaaGreatDoorPr48
namespace Go.Proofs.YtlcipgdnpilkfaaGreatDoor.emulRight
open Go.ChangeShapes Go.WideShapes Go.ChangeAt Go.RowKit
set_option maxHeartbeats 6400000 in
set_option maxRecDepth 100000 in
theorem walk {cols rows:Int} {A:Option Addr} {n c:Nat} {R:List StR} (w:World) (hT:Tabs w) (hc0:(Lit.int .u8 cols).wf=true) (hr0:(Lit.int .u8 rows).wf=true) (hs0:Vs stpV w A n R∧(∀ y∈R,StIn w y)∧n≤c∧c≤maxLen) :
  Calls Tryz.prog 5 #[.int .u8 cols,.int .u8 rows,.slice A n c] w fun e w'=>e=.returned (.bool true)∧Below w.heap.size w w':=by
 have HU:=Lib.hid (show (0≤cols∧cols≤255)∧(0≤rows∧rows≤255) from ⟨bounds_u8 hc0,bounds_u8 hr0⟩)
 have H:=Lib.hid hs0
 have HT:=Lib.hid hT
 clear hs0 hT hc0 hr0
 go_enter Tryz.func5,Tryz.ntmps5
 go_wp2_with fail
 refine (begin12_any (w0:=w) HT.out (Below.refl _ _) HU.out.1 HU.out.2).mono ?_
 rintro e wa1 ⟨hb,g1,x1,y1,rfl,hB⟩
 obtain ⟨es1,hes⟩:∃ es,es=(rtV y1).toArray:=⟨_,rfl⟩
 have HE1:=Lib.hid (show es1.size=116∧es1.all (·.oneCell')=true from by
  have hys:y1.t.tabs.length=80:=by rw [hB.rt.t];rfl
  rw [hes]
  exact ⟨by rw [List.size_toArray];exact rtV_len hys,rt_one _⟩)
 rw [← hes]
 obtain ⟨b1,hbb⟩:∃ b,b=wa1.heap.size:=⟨_,rfl⟩
 obtain ⟨wb1,hw⟩:∃ w',w'=wa1.alloc (.cells (rtV rt0).toArray 42):=⟨_,rfl⟩
 have HC1:=Lib.hid (show Below wa1.heap.size wa1 wb1∧RtB wb1 b1 rt0∧b1=wa1.heap.size from ⟨by rw [hw];exact (Below.refl _ _).alloc (Nat.le_refl _) _,by rw [hw,hbb];exact heap_alloc_new wa1 _,hbb⟩)
 have HA1:=Lib.hid (And.intro hb hB)
 clear hb hB hes
 go_upto_region 2 with (first | (refine wpList_store_row rfl 42 (.tmp 8) (.tmp 17) rfl b1 es1 (by rw [hbb];rfl) rfl 42 (rtV rt0).toArray (by rw [zeroRT,← hw];exact HC1.out.2.1) (by rw [HE1.out.1];exact infoRT1) (by rw [HE1.out.1];rfl) HE1.out.2 ?_))
 rw [zeroRT,← hw,← hbb]
 clear hw hbb
 obtain ⟨wc1,hw⟩:∃ w',w'=wb1.setRow b1 es1:=⟨_,rfl⟩
 have HD1:=Lib.hid (show Below wa1.heap.size wa1 wc1 from by
  rw [hw]
  exact below_setRow HC1.out.1 (Nat.le_of_eq HC1.out.2.2.symm) _)
 rw [← hw]
 clear hw
 have X1:=Lib.hid (show Lw w wc1 g1 x1 (tmNew (colsN cols) (rowsN rows))∧Below w.heap.size w wc1 from ⟨HA1.out.2.lw.below HD1.out,HA1.out.1.trans (HD1.out.mono HA1.out.1.size)⟩)
 clear HA1 HC1 HD1 HE1
 go_wp2_with fail
 refine (fewT_any (H.out.1.below X1.out.2) (fun y hy=>by have h:=H.out.2.1 y hy;exact { h with rd:=h.rd.below X1.out.2 }) H.out.2.2).mono ?_
 rintro e w4 ⟨K,hKn,hK5,hK,rfl,hb4⟩
 have X4:=Lib.hid (And.intro (X1.out.1.below hb4) hK)
 clear hb4 hK X1
 go_wp2_with fail
 go_loopw [24] (fun i wr=>∃ (k:Nat) (z:CT) (T:Tm),k≤K∧i=.int .i64 k∧Lw w wr g1 z T) (fun i _=>K-(intOf i).toNat)
 case atStart=>exact ⟨0,_,_,Nat.zero_le _,rfl,X4.out.1⟩
 case round =>
  obtain ⟨k,z,T,hk,rfl,hL⟩:=hrel
  have X:=Lib.hid hL
  clear hL
  by_cases hlt:k<K
  · obtain ⟨y,hy⟩:∃ y,R[k]?=some y:=⟨_,List.getElem?_eq_getElem (by rw [H.out.1.len];omega)⟩
    have hv:=H.out.1.below X.out.bel
    obtain ⟨ad,hA⟩:∃ ad,A=some ad:=hv.addr (by omega)
    subst hA
    obtain ⟨x0,xx1,x2,x3⟩:=hv.stx hy
    have HY:=Lib.hid (show StIn w y∧y.n≤500 from ⟨H.out.2.1 y (List.mem_of_getElem? hy),X4.out.2 k y hlt hy⟩)
    obtain ⟨w5,hw5⟩:∃ w5,w5=wr.alloc (.cells (stpA y) 47):=⟨_,rfl⟩
    obtain ⟨b5,hb5⟩:∃ b5,b5=wr.heap.size:=⟨_,rfl⟩
    have H5:=Lib.hid (show Below wr.heap.size wr w5∧w5.cell? ⟨b5,0,none⟩=some (.bool y.sz)∧w5.cell? ⟨b5,1,none⟩=some (.int .i64 y.c)∧w5.cell? ⟨b5,2,none⟩=some (.int .i64 y.r)∧w5.cell? ⟨b5,3,none⟩=some (.slice y.T y.n y.k) from by rw [hw5,hb5];exact stb_new wr y _)
    have X5:=Lib.hid (X.out.below H5.out.1)
    unfold stpA at hw5
    clear hv hy
    go_upto_region 7 with fail
    rw [← hw5,← hb5]
    clear hw5 hb5 x0 xx1 x2 x3 X
    obtain ⟨_,p0,p1,p2,p3⟩:=H5.out
    cases hsz:y.sz
    · rw [hsz] at p0
      go_wp2_with fail
      refine (feed_lw HT.out X5.out (HY.out.1.rd.below X5.out.bel) HY.out.1.u8 (by have:=HY.out.2;omega) (fun ad e hp hq=>by have h1:=HY.out.1.rd;rw [e] at h1;have h1:=h1.lt hp;have h2:=X5.out.cz.lo _ hq;omega)).mono ?_
      rintro e w6 ⟨rfl,z6,hL6,_⟩
      have X6:=Lib.hid hL6
      clear hL6 X5 p0 p1 p2 p3
      go_wp2_with fail
      refine (screen_lw X6.out).mono ?_
      rintro e w7 ⟨hb7,s7,rfl,hs7⟩
      have hok:TmOk _:=X6.out.cz.ok
      rw [X6.out.tm] at hok
      have HR:=Lib.hid (screen_right hok)
      have X7:=Lib.hid (And.intro (X6.out.below hb7) hs7)
      clear hb7 hs7 hok X6
      go_wp2_with fail
      refine (rightT_any (X7.out.1.tabs HT.out) X7.out.2.sc (by have:=X7.out.2.n;omega) (by have:=X7.out.2.m;omega)).mono ?_
      rintro e w8 ⟨rfl,hb8⟩
      rw [HR.out]
      have X8:=Lib.hid (X7.out.1.below hb8)
      clear hb8 X7
      go_wp2_with fail
      go_roundw
      case rel=>exact ⟨k+1,_,_,by omega,by go_num,X8.out⟩
      case measure=>simp [intOf];omega
    · rw [hsz] at p0
      go_wp2_with fail
      refine (resize_lw HT.out X5.out y.c y.r).mono ?_
      rintro e w6 ⟨v6,z6,T6,rfl,hL6⟩
      have X6:=Lib.hid hL6
      clear hL6 X5 p0 p1 p2 p3
      go_wp2_with fail
      refine (screen_lw X6.out).mono ?_
      rintro e w7 ⟨hb7,s7,rfl,hs7⟩
      have hok:TmOk _:=X6.out.cz.ok
      rw [X6.out.tm] at hok
      have HR:=Lib.hid (screen_right hok)
      have X7:=Lib.hid (And.intro (X6.out.below hb7) hs7)
      clear hb7 hs7 hok X6
      go_wp2_with fail
      refine (rightT_any (X7.out.1.tabs HT.out) X7.out.2.sc (by have:=X7.out.2.n;omega) (by have:=X7.out.2.m;omega)).mono ?_
      rintro e w8 ⟨rfl,hb8⟩
      rw [HR.out]
      have X8:=Lib.hid (X7.out.1.below hb8)
      clear hb8 X7
      go_wp2_with fail
      go_roundw
      case rel=>exact ⟨k+1,_,_,by omega,by go_num,X8.out⟩
      case measure=>simp [intOf];omega
  · obtain rfl:k=K:=by omega
    go_wp2_with fail
    go_ret
    exact ⟨rfl,X.out.bel⟩
set_option maxRecDepth 100000 in
theorem lifted (os:Os) (started:os.Started) (H:Type) (enc:TypeId × Value→H) :
  ReturnsInHanded {} Tryz.checked os 5 .any (fun w args=>(Rows.emulRightSpec.pre enc Tryz.prog Tryz.f5 [] false w args∧laidMetH Tryz.prog laidL w)∧sizedMet enc Tryz.prog Tryz.f5 (OpenSpec.ofChange Rows.emulRightSpec) false w args)
   (Rows.emulRightSpec.post enc Tryz.prog Tryz.f5 false true false false):=by
 refine returnsInHanded_of_change_and (C:=Tryz.checked) (X:=fun w _=>laidMetH Tryz.prog laidL w) (fun _ _ _ hh h=>h.of_heap hh) own started (by kernel_rfl) Tryz.func5
  (ChangeSpec.witness_shaped (enc:=enc) (C:=Tryz.checked) (os:=os) (X:=fun w _=>laidMetH Tryz.prog laidL w) false (World.laidAll Tryz.prog os laidL) #[.int .u8 0,.int .u8 0,.slice none 0 0] 8 (World.laidAll_os _ _ _) (start_shaped os) (by kernel_rfl) (by kernel_rfl) (by kernel_rfl) (start_met os _)) ?_
 intro W base args ds gs before hval0 hW _ hsz0 hL _
 have hsz:(DataW.weightsEach Tryz.prog (Tryz.f5.params.toList ++ Rows.emulRightSpec.plain.varTypes Tryz.prog) (ds ++ gs)).all (·≤reachBytes)=true:=hsz0
 clear hsz0
 have hval:∀ (j:Nat) t v,Tryz.f5.params[j]?=some t→args[j]?=some v→Value.okWide Tryz.prog W .any base t v:=hval0
 have hW':=hW
 obtain ⟨p,q,hA0,hV,rfl,_,_⟩:=hW
 have hA:DataW.TrodAll enc Tryz.prog W 0 (fun _=>true) true Tryz.f5.params.toList args.toList ds p:=hA0
 rw [Tryz.params5] at hA hval hsz
 obtain ⟨v0,vs0,d0,ds0,p0,q0,hargs,rfl,rfl,h0,r0⟩:=trodAll_cons hA
 obtain ⟨v1,vs1,d1,ds1,p1,q1,rfl,rfl,rfl,h1,r1⟩:=trodAll_cons r0
 obtain ⟨v2,vs2,d2,ds2,p2,q2,rfl,rfl,rfl,h2,r2⟩:=trodAll_cons r1
 obtain ⟨rfl,rfl,rfl⟩:=trodAll_nil r2
 obtain rfl:args=#[v0,v1,v2]:=by cases args;simp_all
 obtain ⟨rfl,rfl⟩:=trodVars_none hV
 obtain ⟨a0,rfl,rfl,rfl,w0⟩:=open_int Tryz.underlying5 (hval 0 5 v0 rfl rfl) h0
 obtain ⟨a1,rfl,rfl,rfl,w1⟩:=open_int Tryz.underlying5 (hval 1 5 v1 rfl rfl) h1
 have lt2:∀ x∈p2,x.block<W.heap.size:=by obtain ⟨m,hm⟩:=h2;exact DataW.trod_lt m _ _ _ hm
 obtain ⟨A2,n2,c2,R2,rfl,s2⟩:=open_steps (weights_at hsz (j:=2) rfl rfl) (hval 2 22 v2 rfl rfl) h2
 clear hA0 hval0
 refine (walk W (tabs_of_laid hL) w0 w1 s2).mono fun e W' ⟨he,bel⟩=>?_
 subst he
 exact ⟨_,rfl,_,_,_,[],_,[],hW',trodAll_mk1 (shut_bool Tryz.underlying4 _),(trodAll_cons_mk (shut_int Tryz.underlying5 w0) (trodAll_cons_mk (shut_int Tryz.underlying5 w1) (trodAll_cons_mk (Below.trod laidOut (by kernel_rfl) (of_decide_eq_true (by kernel_rfl)) h2 bel lt2) trodAll_mk0))),rfl,bel.frame _,fun h=>by cases h⟩
theorem over:Rows.emulRightRow.holds Tryz.pinned (OpenSpec.ofChange Rows.emulRightSpec) :=
 OpenClaim.holds_of_wide 5 Tryz.f5 rfl rfl rfl rfl rfl rfl rfl ⟨rfl,rfl,rfl,rfl,rfl⟩ rfl rfl rfl rfl rfl (by kernel_rfl) Tryz.func5 (by kernel_rfl)
  (of_decide_eq_true (by kernel_rfl)) (by unfold Func.isWrapper;first | (rw [if_pos (by decide +kernel)];kernel_rfl) | (rw [if_neg (by decide +kernel)];exact ⟨rfl,rfl⟩))
  (fun os started H enc _=>lifted os started H enc)
theorem proved:Rows.EmulRightCardSaid :=
 Claim7.holds_tied_plain_at .later [] [.data,.data,.pinned] true Rows.emulRightCard.stood.harness false
  over (fun _ h=>by cases h) (by kernel_rfl) (fun _ h=>by cases h) emulRight_row_tie rfl ⟨rfl,rfl⟩ (by kernel_rfl) rfl
  (fun f fn hf hfn=>by
   obtain rfl:f=5:=Option.some.inj ((show Tryz.prog.funcNamed "spyglass/spyglasslaw12.EmulRight"=some 5 by kernel_rfl).symm.trans hf) |>.symm
   obtain rfl:fn=Tryz.f5:=(Option.some.inj (Tryz.func5.symm.trans hfn)).symm
   exact ⟨by kernel_rfl,fun j t ht=>by
    rw [Tryz.params5] at ht
    have hm:t∈[5,5,22]:=by simpa using Array.mem_of_getElem? ht
    have hall:([5,5,22].all fun u=>!Tryz.prog.wantsStandIn u)=true:=by kernel_rfl
    exact (show Tryz.prog.wantsStandIn t=false by simpa using List.all_eq_true.1 hall t hm)⟩)
  (by kernel_rfl)
end Go.Proofs.YtlcipgdnpilkfaaGreatDoor.emulRight
