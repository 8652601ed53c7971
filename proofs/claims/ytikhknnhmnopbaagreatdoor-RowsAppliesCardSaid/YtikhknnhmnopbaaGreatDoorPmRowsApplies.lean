/-
  Proved: RowsApplies answers true for every screen and all bytes, over the tables that the library and the program lay (a tied card).
-/
import Derived.Test.YtikhknnhmnopbaaGreatDoorCards
import Derived.Test.YtikhknnhmnopbaaGreatDoorTie
import Derived.SevenTiedAt
import Derived.WalkKit
import Derived.Deep.RegionHeld3
import Derived.Deep.DeepCutAuto
import Derived.Test.YtikhknnhmnopbaaGreatDoorPm01
import Derived.Test.YtikhknnhmnopbaaGreatDoorPm24
import Derived.Test.YtikhknnhmnopbaaGreatDoorPm27
import Derived.Test.YtikhknnhmnopbaaGreatDoorPm28
import Derived.Test.YtikhknnhmnopbaaGreatDoorPm29
namespace Go.Proofs.YtikhknnhmnopbaaGreatDoor.rowsApplies
open Go.ChangeShapes Go.WideShapes Go.ChangeAt Go.RowKit
set_option maxHeartbeats 6400000 in
set_option maxRecDepth 100000 in
theorem walk {s:ScR} {S:Sc} {dA:Option Addr} {dn dc:Nat} {d:List Int} (w:World) (hT:Tabs w) (h:ScIn w s S∧(PosC S.cells∧StC S.cells∧0≤S.mouse)) (hs:Sb w dA dn d) (hu:U8s d) (_:dn≤140737488351232) (hcc:dn≤dc∧dc≤maxLen) :
  Calls Tryz.prog 3 #[.agg (scrA s),.slice dA dn dc] w fun e w'=>e=.returned (.bool true)∧Below w.heap.size w w':=by
 have HT:=Lib.hid (fun w' (hb':Below w.heap.size w w')=>hT.below hb' (Nat.le_refl _))
 have HI:=Lib.hid h.1
 have HP:=Lib.hid h.2
 have HD:=Lib.hid (And.intro hs hu)
 have hcd:=hcc.1
 obtain ⟨b,hb⟩:∃ b,b=w.heap.size:=⟨_,rfl⟩
 obtain ⟨w1,hw1⟩:∃ w1,w1=w.alloc (.cells (scrA s) 25):=⟨_,rfl⟩
 have H1:=Lib.hid (show Sx w1 b s∧Below w.heap.size w w1 from by
  rw [hw1,hb]
  exact ⟨Sx.new w s,(Below.refl _ _).alloc (Nat.le_refl _) _⟩)
 have HBW:=Lib.hid (show w.heap.size=b from hb.symm)
 obtain ⟨G,hG⟩:∃ G,greatS s=G:=⟨_,rfl⟩
 have PG:=Lib.hid (great16_any s w1)
 rw [hG] at PG
 have HG:=Lib.hid hG
 clear h hT hG hs hu hcc
 obtain ⟨a0,a1,a2,a3,a4,a5,a6,a7,a8,_⟩:=sx_cells H1.out.1
 unfold scrA at hw1 PG ⊢
 go_enter Tryz.func3,Tryz.ntmps3
 go_upto_region 1 with fail
 rw [← hw1,← hb]
 clear hw1 hb
 go_wp2_with fail
 refine PG.out.mono ?_
 rintro e w2 ⟨rfl,hb2⟩
 have H2:=Lib.hid (show Sx w2 b s∧Below w.heap.size w w2 from ⟨H1.out.1.below hb2,H1.out.2.trans (hb2.mono H1.out.2.size)⟩)
 clear hb2 H1 PG a0 a1 a2 a3 a4 a5 a6 a7 a8
 cases G
 rotate_left
 · go_wp2_with fail
   refine (fixed16_any (HT.out _ H2.out.2)).mono ?_
   rintro e w9 ⟨rfl,hb9⟩
   have Z9:=Lib.hid (Below.trans H2.out.2 (hb9.mono (Below.size H2.out.2)))
   clear hb9
   go_wp2_with fail
   go_ret
   exact ⟨rfl,Z9.out⟩
 have HN:=Lib.hid (great_no HG.out)
 clear HG
 by_cases hdl:65536<dn
 · go_wp2_with fail
   refine (fixed16_any (HT.out _ H2.out.2)).mono ?_
   rintro e w9 ⟨rfl,hb9⟩
   have Z9:=Lib.hid (Below.trans H2.out.2 (hb9.mono (Below.size H2.out.2)))
   clear hb9
   go_wp2_with fail
   go_ret
   exact ⟨rfl,Z9.out⟩
 have HNB:=Lib.hid (show s.n≤60000∧s.m≤60000 from by have:=HN.out;omega)
 have P0:=Lib.hid (show ∀ w',Below w2.heap.size w2 w'→Calls Tryz.prog 6 #[] w' fun e w''=>e=.returned (.bool true)∧Below w'.heap.size w' w'' from fun w' hb=>fixed16_any (HT.out _ (H2.out.2.trans (hb.mono H2.out.2.size))))
 have PX:=Lib.hid (show ∀ w',Below w2.heap.size w2 w'→Calls Tryz.prog 7 #[.agg (scrA s)] w' fun e w''=>Below w'.heap.size w' w''∧∃ s',e=.returned (.agg (scrA s'))∧Cpy w'' s' S s from fun w' hb=>cpy_any ((HI.out.below H2.out.2).below hb) HNB.out.1 HNB.out.2)
 have PO:=Lib.hid (show ∀ w',Below w2.heap.size w2 w'→Calls Tryz.prog 8 #[.slice dA dn dc] w' fun e w''=>Below w'.heap.size w' w''∧∃ g:Nat,e=.returned (.slice (some ⟨g,0,none⟩) dn dn)∧Sb w'' (some ⟨g,0,none⟩) dn d∧w'.heap.size≤g from fun w' hb=>by
  refine (copy_any ((HD.out.1.below H2.out.2).below hb) (by omega)).mono ?_
  rintro e w'' ⟨g,rfl,hown,hbz⟩
  exact ⟨hbz,g,rfl,Sb.own hown,(own_block hown).1⟩)
 unfold scrA at PX
 obtain ⟨a0,a1,a2,a3,a4,a5,a6,a7,a8,_⟩:=sx_cells H2.out.1
 have hb0:Below w2.heap.size w2 w2:=Below.refl _ _
 go_wp2_with fail
 refine (PX.out _ hb0).mono ?_
 rintro e w3 ⟨hb3,s5,rfl,hcz⟩
 have H3:=Lib.hid (show Below w2.heap.size w2 w3∧Cpy w3 s5 S s from ⟨hb3,hcz⟩)
 clear hb3 hcz hb0 a0 a1 a2 a3 a4 a5 a6 a7 a8
 go_wp2_with fail
 refine (PO.out _ H3.out.1).mono ?_
 rintro e w3b ⟨hb3,g,rfl,hoz,hgz⟩
 obtain ⟨bx,hbx⟩:∃ q,q=w3b.heap.size:=⟨_,rfl⟩
 obtain ⟨w4,hw4⟩:∃ q,q=w3b.alloc (.cells (scrA s5) 25):=⟨_,rfl⟩
 have H4:=Lib.hid (show Sx w4 b s∧Below w.heap.size w w4∧Cpy w4 s5 S s∧Sx w4 bx s5∧Sb w4 (some ⟨g,0,none⟩) dn d from by
  have hbz:Below w3b.heap.size w3b w4:=by rw [hw4];exact (Below.refl _ _).alloc (Nat.le_refl _) _
  have h34:Below w3.heap.size w3 w4:=hb3.trans (hbz.mono hb3.size)
  have h24:Below w2.heap.size w2 w4:=H3.out.1.trans (h34.mono H3.out.1.size)
  exact ⟨H2.out.1.below h24,H2.out.2.trans (h24.mono H2.out.2.size),H3.out.2.below h34,by rw [hw4,hbx];exact Sx.new w3b s5,hoz.below hbz⟩)
 clear hb3 hoz hgz H3 PX PO P0 H2
 unfold scrA at hw4
 go_upto_region 4 with fail
 rw [← hw4,← hbx]
 clear hw4 hbx
 have hdn:dn≤65536:=by omega
 obtain ⟨E,hE⟩:∃ E,(applyS S d).2=E:=⟨_,rfl⟩
 obtain ⟨R,hR⟩:∃ R,(applyS S d).1=R:=⟨_,rfl⟩
 have HER:=Lib.hid (show applyS S d=(R,E) from by rw [← hE,← hR])
 clear hE hR
 have PA:=Lib.hid (show ∀ w',Below w4.heap.size w4 w'→Calls Tryz.prog 9 #[.agg (scrA s5),.slice (some ⟨g,0,none⟩) dn dn] w' fun e w''=>Below w'.heap.size w' w''∧∃ s',e=.returned (.tuple #[.agg (scrA s'),.int .i64 E])∧ScOwn w'.heap.size w'' s' R from fun w' hb=>by
  have h:=cApply_any (dc:=dn) (HT.out _ (H4.out.2.1.trans (hb.mono H4.out.2.1.size))) (Got.mk (H4.out.2.2.1.sc.below hb) HP.out.1 HP.out.2.2 (by have:=HNB.out;have:=H4.out.2.2.1.n;omega) (by have:=HNB.out;have:=H4.out.2.2.1.m;omega)) (H4.out.2.2.2.2.below hb) HD.out.2 (by omega)
  unfold ApEnd at h
  rw [HER.out] at h
  exact h)
 unfold scrA at PA
 have hb0:Below w4.heap.size w4 w4:=Below.refl _ _
 obtain ⟨a0,a1,a2,a3,a4,a5,a6,a7,a8,_⟩:=sx_cells H4.out.2.2.2.1
 go_wp2_with fail
 refine (PA.out _ hb0).mono ?_
 rintro e w4b ⟨hb4,s',rfl,hoz⟩
 obtain ⟨bs,hbs⟩:∃ q,q=w4b.heap.size:=⟨_,rfl⟩
 obtain ⟨w5,hw5⟩:∃ q,q=w4b.alloc (.cells (scrA s') 25):=⟨_,rfl⟩
 have H5:=Lib.hid (show Below w4.heap.size w4 w5∧Sx w5 bs s'∧ScOwn w4.heap.size w5 s' R from by
  have hbz:Below w4b.heap.size w4b w5:=by rw [hw5];exact (Below.refl _ _).alloc (Nat.le_refl _) _
  exact ⟨hb4.trans (hbz.mono hb4.size),by rw [hw5,hbs];exact Sx.new w4b s',hoz.below hbz⟩)
 clear hb0 hb4 hoz PA a0 a1 a2 a3 a4 a5 a6 a7 a8
 unfold scrA at hw5
 go_upto_region 5 with fail
 rw [← hw5,← hbs]
 clear hw5 hbs
 have PR:=Lib.hid (show ∀ w',Below w5.heap.size w5 w'→Calls Tryz.prog 10 #[.agg (scrA s),.slice dA dn dc] w' fun e w''=>Below w'.heap.size w' w''∧∃ s',e=.returned (.tuple #[.agg (scrA s'),.int .i64 E])∧ScIn w'' s' R∧s'.n≤60000∧s'.m=0∧(s'.n=0∨∃ q,s'.A=some ⟨q,0,none⟩∧Rw ceV 43 w'' q R.cells) from fun w' hb=>by
  have hbw:Below w.heap.size w w':=(H4.out.2.1.trans (H5.out.1.mono H4.out.2.1.size)).trans (hb.mono (Nat.le_trans H4.out.2.1.size H5.out.1.size))
  have h:=rApply_any (c:=dc) (Got.mk (HI.out.below hbw) HP.out.1 HP.out.2.2 HNB.out.1 HNB.out.2) (HD.out.1.below hbw) HD.out.2 (by omega) hcd
  unfold AppEnd at h
  rw [HER.out] at h
  exact h)
 unfold scrA at PR
 have hb0:Below w5.heap.size w5 w5:=Below.refl _ _
 obtain ⟨a0,a1,a2,a3,a4,a5,a6,a7,a8,_⟩:=sx_cells (H4.out.1.below H5.out.1)
 go_wp2_with fail
 refine (PR.out _ hb0).mono ?_
 rintro e w5b ⟨hb5,sw,rfl,hoz,hnz⟩
 obtain ⟨bw,hbw⟩:∃ q,q=w5b.heap.size:=⟨_,rfl⟩
 obtain ⟨w6,hw6⟩:∃ q,q=w5b.alloc (.cells (scrA sw) 25):=⟨_,rfl⟩
 have H6:=Lib.hid (show Below w4.heap.size w4 w6∧Sx w6 bs s'∧ScOwn w4.heap.size w6 s' R∧Sx w6 bw sw∧ScIn w6 sw R∧(sw.n≤60000∧sw.m=0) from by
  have hbz:Below w5b.heap.size w5b w6:=by rw [hw6];exact (Below.refl _ _).alloc (Nat.le_refl _) _
  have h56:Below w5.heap.size w5 w6:=hb5.trans (hbz.mono hb5.size)
  exact ⟨H5.out.1.trans (h56.mono H5.out.1.size),H5.out.2.1.below h56,H5.out.2.2.below h56,by rw [hw6,hbw];exact Sx.new w5b sw,hoz.below hbz,hnz.1,hnz.2.1⟩)
 clear hb0 hb5 hoz hnz PR H5 a0 a1 a2 a3 a4 a5 a6 a7 a8
 unfold scrA at hw6
 go_upto_region 6 with fail
 rw [← hw6,← hbw]
 clear hw6 hbw
 have H46:=Lib.hid (show Below w.heap.size w w6 from H4.out.2.1.trans (H6.out.1.mono H4.out.2.1.size))
 go_wp2_with fail
 refine (fixed16_any (HT.out _ H46.out)).mono ?_
 rintro e w7 ⟨rfl,hb7⟩
 have H7:=Lib.hid (show Below w4.heap.size w4 w7∧Sx w7 bs s'∧ScOwn w4.heap.size w7 s' R∧Sx w7 bw sw∧ScIn w7 sw R from ⟨H6.out.1.trans (hb7.mono H6.out.1.size),H6.out.2.1.below hb7,H6.out.2.2.1.below hb7,H6.out.2.2.2.1.below hb7,H6.out.2.2.2.2.1.below hb7⟩)
 have HSN:=Lib.hid H6.out.2.2.2.2.2
 clear hb7 H6 H46
 have PS:=Lib.hid (refSameS_any H7.out.2.2.1.sc H7.out.2.2.2.2 (by have:=H7.out.2.2.1.n;omega) HSN.out.1 (by have:=H7.out.2.2.1.m;omega) (by have:=HSN.out.2;omega))
 have hEE:(E != E)=false:=by simp
 obtain ⟨a0,a1,a2,a3,a4,a5,a6,a7,a8,_⟩:=sx_cells H7.out.2.1
 obtain ⟨d0,d1,d2,d3,d4,d5,d6,d7,d8,_⟩:=sx_cells H7.out.2.2.2.1
 unfold scrA at PS
 go_wp2_with fail
 refine PS.out.mono ?_
 rintro e w8 ⟨rfl,hb8⟩
 have HW:=Lib.hid (show Wk w4 w8 bs s' R.cells R.links from ⟨H7.out.2.1.below hb8,H7.out.2.2.1.cx.below hb8,H7.out.2.2.1.tx.below hb8,H7.out.1.trans (hb8.mono H7.out.1.size)⟩)
 have hn3:s'.n≤1920:=H7.out.2.2.1.n
 clear hb8 PS H7 a0 a1 a2 a3 a4 a5 a6 a7 a8 d0 d1 d2 d3 d4 d5 d6 d7 d8 hEE
 go_upto_region 8 with fail
 have c2:=(sx_cells HW.out.sx).c2
 go_wp2_with fail
 clear c2
 go_loopw [52] (fun i wr=>∃ (k:Nat) (L:List Ce),k≤s'.n∧i=.int .i64 k∧Wk w4 wr bs s' L R.links) (fun i _=>s'.n-(intOf i).toNat)
 case atStart=>exact ⟨0,_,Nat.zero_le _,rfl,HW.out⟩
 case round =>
  obtain ⟨k,L,hk,rfl,hX⟩:=hrel
  have Y:=Lib.hid hX
  clear hX HW
  by_cases hlt:k<s'.n
  · have hkl:(k:Int)<(s'.n:Int):=by omega
    obtain ⟨q,hA,r0,f0,hWk⟩:=Y.out.cell hlt 0
    have HK:=Lib.hid (show ∀ z,∃ L',Wk w4 (wr.setCell ⟨q,k*6,none⟩ (.int .i32 z)) bs s' L' R.links from fun z=>by
     obtain ⟨g',e,_,_,h⟩:=Y.out.cell hlt z
     rw [hA] at e
     injection e with e
     injection e with e
     subst e
     exact ⟨_,h⟩)
    have c2:=(sx_cells Y.out.sx).c2
    rw [hA] at c2
    have HAA:=Lib.hid hA
    clear hWk hA
    go_wp2_with fail
    go_roundw
    case rel=>exact (HK.out _).elim fun L' h=>⟨k+1,L',by omega,by go_num,h⟩
    case measure=>simp [intOf];omega
  · have HB:=Lib.hid Y.out.bel
    have H9:=Lib.hid (show Sx wr b s∧Sx wr bx s5∧Cpy wr s5 S s∧Sb wr (some ⟨g,0,none⟩) dn d from ⟨H4.out.1.below HB.out,H4.out.2.2.2.1.below HB.out,H4.out.2.2.1.below HB.out,H4.out.2.2.2.2.below HB.out⟩)
    have HBW9:=Lib.hid (show Below w.heap.size w wr from H4.out.2.1.trans (HB.out.mono H4.out.2.1.size))
    have PS:=Lib.hid (refSameS_any H9.out.2.2.1.sc (HI.out.below HBW9.out) (by have:=HNB.out;have:=H9.out.2.2.1.n;omega) HNB.out.1 (by have:=HNB.out;have:=H9.out.2.2.1.m;omega) HNB.out.2)
    obtain ⟨a0,a1,a2,a3,a4,a5,a6,a7,a8,_⟩:=sx_cells H9.out.1
    obtain ⟨d0,d1,d2,d3,d4,d5,d6,d7,d8,_⟩:=sx_cells H9.out.2.1
    clear Y H4 hk
    unfold scrA at PS
    go_wp2_with fail
    refine PS.out.mono ?_
    rintro e w9 ⟨rfl,hb9⟩
    have H10:=Lib.hid (show Below w.heap.size w w9∧Sb w9 (some ⟨g,0,none⟩) dn d from ⟨HBW9.out.trans (hb9.mono HBW9.out.size),H9.out.2.2.2.below hb9⟩)
    clear hb9 PS H9 HBW9 a0 a1 a2 a3 a4 a5 a6 a7 a8 d0 d1 d2 d3 d4 d5 d6 d7 d8
    have PB:=Lib.hid (refSame_any (c:=dn) (c':=dc) H10.out.2 (HD.out.1.below H10.out.1) (by omega) (by omega))
    rw [decide_eq_true (rfl:d=d)] at PB
    go_wp2_with fail
    refine PB.out.mono ?_
    rintro e w10 ⟨rfl,nq,rfl⟩
    go_wp2_with fail
    go_ret
    exact ⟨rfl,belowN H10.out.1 nq⟩
set_option maxRecDepth 100000 in
theorem lifted (os:Os) (started:os.Started) (H:Type) (enc:TypeId × Value→H) :
  ReturnsInHanded {} Tryz.checked os 3 .any (fun w args=>(Rows.rowsAppliesSpec.pre enc Tryz.prog Tryz.f3 [] false w args∧laidMetH Tryz.prog laidL3 w)∧sizedMet enc Tryz.prog Tryz.f3 (OpenSpec.ofChange Rows.rowsAppliesSpec) false w args)
   (Rows.rowsAppliesSpec.post enc Tryz.prog Tryz.f3 false true false false):=by
 refine returnsInHanded_of_change_and (C:=Tryz.checked) (X:=fun w _=>laidMetH Tryz.prog laidL3 w) (fun _ _ _ hh h=>h.of_heap hh) own started (by kernel_rfl) Tryz.func3
  (ChangeSpec.witness_shaped (enc:=enc) (C:=Tryz.checked) (os:=os) (X:=fun w _=>laidMetH Tryz.prog laidL3 w) false (World.laidAll Tryz.prog os laidL3) #[.agg (scrA scN),.slice none 0 0] 8 (World.laidAll_os _ _ _) (start_shaped3 os) (by kernel_rfl) (by kernel_rfl) (by kernel_rfl) (start_met3 os _)) ?_
 intro W base args ds gs before hval0 hW _ hsz0 hL _
 have hsz:(DataW.weightsEach Tryz.prog (Tryz.f3.params.toList ++ Rows.rowsAppliesSpec.plain.varTypes Tryz.prog) (ds ++ gs)).all (·≤reachBytes)=true:=hsz0
 clear hsz0
 have hval:∀ (j:Nat) t v,Tryz.f3.params[j]?=some t→args[j]?=some v→Value.okWide Tryz.prog W .any base t v:=hval0
 have hW':=hW
 obtain ⟨p,q,hA0,hV,rfl,_,_⟩:=hW
 have hA:DataW.TrodAll enc Tryz.prog W 0 (fun _=>true) true Tryz.f3.params.toList args.toList ds p:=hA0
 rw [Tryz.params3] at hA hval hsz
 obtain ⟨v0,vs0,d0,ds0,p0,q0,hargs,rfl,rfl,h0,r0⟩:=trodAll_cons hA
 obtain ⟨v1,vs1,d1,ds1,p1,q1,rfl,rfl,rfl,h1,r1⟩:=trodAll_cons r0
 obtain ⟨rfl,rfl,rfl⟩:=trodAll_nil r1
 obtain rfl:args=#[v0,v1]:=by cases args;simp_all
 obtain ⟨rfl,rfl⟩:=trodVars_none hV
 have lt0:∀ x∈p0,x.block<W.heap.size:=by obtain ⟨m,hm⟩:=h0;exact DataW.trod_lt m _ _ _ hm
 obtain ⟨s0,S0,rfl,s0⟩:=open_screenR (weights_at hsz (j:=0) rfl rfl) (hval 0 25 v0 rfl rfl) h0
 have lt1:∀ x∈p1,x.block<W.heap.size:=by obtain ⟨m,hm⟩:=h1;exact DataW.trod_lt m _ _ _ hm
 obtain ⟨A1,n1,c1,z1,rfl,s1,u1,l1,g1⟩:=open_bytes_c (hval 1 26 v1 rfl rfl) h1
 have m1:=g1 _ _ 1 hsz rfl rfl
 clear hA0 hval0
 refine (walk W (tabs_of_laid3 hL) s0 s1 u1 m1 l1).mono fun e W' ⟨he,bel⟩=>?_
 subst he
 exact ⟨_,rfl,_,_,_,[],_,[],hW',trodAll_mk1 (shut_bool Tryz.underlying4 _),(trodAll_cons_mk (Below.trod laidOut (by kernel_rfl) (of_decide_eq_true (by kernel_rfl)) h0 bel lt0) (trodAll_cons_mk (Below.trod laidOut (by kernel_rfl) (of_decide_eq_true (by kernel_rfl)) h1 bel lt1) trodAll_mk0)),rfl,bel.frame _,fun h=>by cases h⟩
theorem over:Rows.rowsAppliesRow.holds Tryz.pinned (OpenSpec.ofChange Rows.rowsAppliesSpec) :=
 OpenClaim.holds_of_wide 3 Tryz.f3 rfl rfl rfl rfl rfl rfl rfl ⟨rfl,rfl,rfl,rfl,rfl⟩ rfl rfl rfl rfl rfl (by kernel_rfl) Tryz.func3 (by kernel_rfl)
  (of_decide_eq_true (by kernel_rfl)) (by unfold Func.isWrapper;first | (rw [if_pos (by decide +kernel)];kernel_rfl) | (rw [if_neg (by decide +kernel)];exact ⟨rfl,rfl⟩))
  (fun os started H enc _=>lifted os started H enc)
theorem proved:Rows.RowsAppliesCardSaid :=
 Claim7.holds_tied_plain_at .later [] [.data,.data,.pinned] true Rows.rowsAppliesCard.stood.harness false
  over (fun _ h=>by cases h) (by kernel_rfl) (fun _ h=>by cases h) rowsApplies_row_tie rfl ⟨rfl,rfl⟩ (by kernel_rfl) rfl
  (fun f fn hf hfn=>by
   obtain rfl:f=3:=Option.some.inj ((show Tryz.prog.funcNamed "spyglass/spyglasslaw16.RowsApplies"=some 3 by kernel_rfl).symm.trans hf) |>.symm
   obtain rfl:fn=Tryz.f3:=(Option.some.inj (Tryz.func3.symm.trans hfn)).symm
   exact ⟨by kernel_rfl,fun j t ht=>by
    rw [Tryz.params3] at ht
    have hm:t∈[25,26]:=by simpa using Array.mem_of_getElem? ht
    have hall:([25,26].all fun u=>!Tryz.prog.wantsStandIn u)=true:=by kernel_rfl
    exact (show Tryz.prog.wantsStandIn t=false by simpa using List.all_eq_true.1 hall t hm)⟩)
  (by kernel_rfl)
end Go.Proofs.YtikhknnhmnopbaaGreatDoor.rowsApplies
