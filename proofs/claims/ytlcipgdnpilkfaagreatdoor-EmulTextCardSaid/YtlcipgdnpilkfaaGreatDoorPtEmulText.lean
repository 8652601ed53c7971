/-
  Proved: EmulText answers true for every number of columns and all runes, over the tables that the library and the program lay (a tied card).
-/
import Derived.Test.YtlcipgdnpilkfaaGreatDoorCards
import Derived.Test.YtlcipgdnpilkfaaGreatDoorTie
import Derived.SevenTiedAt
import Derived.WalkKit
import Derived.Test.YtlcipgdnpilkfaaGreatDoorPt01
import Derived.Test.YtlcipgdnpilkfaaGreatDoorPt50
namespace Go.Proofs.YtlcipgdnpilkfaaGreatDoor.emulText
open Go.ChangeShapes Go.WideShapes Go.ChangeAt Go.RowKit
set_option maxHeartbeats 6400000 in
set_option maxRecDepth 100000 in
theorem walk {cols:Int} {A:Option Addr} {n c:Nat} {zs:List Int} (w:World) (hT:Tabs w) (hc0:(Lit.int .u8 cols).wf=true) (hs:Ik .i32 w A n zs∧(∀ z∈zs,-2147483648≤z∧z≤2147483647)∧(n≤c∧c≤maxLen)) :
  Calls Tryz.prog 8 #[.int .u8 cols,.slice A n c] w fun e w'=>e=.returned (.bool true)∧Below w.heap.size w w':=by
 have HU:=Lib.hid (show (0≤cols∧cols≤255)∧((0:Int)≤0∧(0:Int)≤255) from ⟨bounds_u8 hc0,by omega⟩)
 have H:=Lib.hid hs
 have HT:=Lib.hid hT
 clear hs hT hc0
 go_enter Tryz.func8,Tryz.ntmps8
 go_wp2_with fail
 refine (begin12_any (w0:=w) HT.out (Below.refl _ _) HU.out.1 HU.out.2).mono ?_
 rintro e wa1 ⟨hb,g1,x1,y1,rfl,hB⟩
 obtain ⟨es1,hes⟩:∃ es,es=(rtV y1).toArray:=⟨_,rfl⟩
 have HE1:=Lib.hid (show es1.size=116∧es1.all (·.oneCell')=true from by
  have hys:y1.t.tabs.length=80:=by rw [hB.rt.t];rfl
  rw [hes]
  exact ⟨by rw [List.size_toArray];exact rtV_len hys,rt_one _⟩)
 rw [← hes]
 obtain ⟨b1,hbb⟩:∃ b,b=wa1.heap.size:=⟨_,rfl⟩
 obtain ⟨wb1,hw⟩:∃ w',w'=wa1.alloc (.cells (rtV rt0).toArray 42):=⟨_,rfl⟩
 have HC1:=Lib.hid (show Below wa1.heap.size wa1 wb1∧RtB wb1 b1 rt0∧b1=wa1.heap.size from ⟨by rw [hw];exact (Below.refl _ _).alloc (Nat.le_refl _) _,by rw [hw,hbb];exact heap_alloc_new wa1 _,hbb⟩)
 have HA1:=Lib.hid (And.intro hb hB)
 clear hb hB hes
 go_upto_region 2 with (first | (refine wpList_store_row rfl 42 (.tmp 6) (.tmp 18) rfl b1 es1 (by rw [hbb];rfl) rfl 42 (rtV rt0).toArray (by rw [zeroRT,← hw];exact HC1.out.2.1) (by rw [HE1.out.1];exact infoRT1) (by rw [HE1.out.1];rfl) HE1.out.2 ?_))
 rw [zeroRT,← hw,← hbb]
 clear hw hbb
 obtain ⟨wc1,hw⟩:∃ w',w'=wb1.setRow b1 es1:=⟨_,rfl⟩
 have HD1:=Lib.hid (show Below wa1.heap.size wa1 wc1 from by
  rw [hw]
  exact below_setRow HC1.out.1 (Nat.le_of_eq HC1.out.2.2.symm) _)
 rw [← hw]
 clear hw
 have X1:=Lib.hid (show Lw w wc1 g1 x1 (tmNew (colsN cols) 1)∧Below w.heap.size w wc1 from ⟨HA1.out.2.lw.below HD1.out,HA1.out.1.trans (HD1.out.mono HA1.out.1.size)⟩)
 clear HA1 HC1 HD1 HE1
 go_wp2_with fail
 obtain ⟨C,hC⟩:∃ C,colsN cols=C:=⟨_,rfl⟩
 rw [hC] at X1
 have hCr:1≤C∧C≤80:=by rw [← hC];exact colsN_rng cols
 have HC80:=Lib.hid (show (cols % 80).toNat+1=C∧0≤cols∧cols≤255 from ⟨hC,HU.out.1⟩)
 have hw2:∀ r:Int,widthS r=0∨widthS r=1∨widthS r=2:=width_012
 obtain ⟨T1,hT1⟩:∃ T1,T1=tmRow C [] 0:=⟨_,rfl⟩
 rw [tmRow_new,← hT1] at X1
 go_loopw [8,9,24] (fun xv v i wr=>∃ (k m d:Nat) (B:Option Addr) (y:CT) (W:List Ce) (q:Int),k≤n∧k≤81∧i=.int .i64 k∧xv=.int .i64 m∧v=.slice B m d∧W.length=m∧W=lettsS (zs.take k)∧m<C∧Lw w wr g1 y (tmRow C W q)∧RwL w wr g1 y B m d W) (fun _ _ i _=>n-(intOf i).toNat)
 case atStart=>exact ⟨0,0,0,none,x1,[],0,Nat.zero_le _,by omega,rfl,rfl,rfl,rfl,by simp [lettsS],by omega,hT1 ▸ X1.out.1,RwL.nil _ _ _ _⟩
 case round =>
  obtain ⟨k,m,d,B,y,W,q,hk,hk2,rfl,rfl,rfl,hWl,hW,hmC,hL,hR⟩:=hrel
  have X:=Lib.hid (And.intro hL (And.intro hR (And.intro hWl hW)))
  clear hL hR hWl hW X1
  by_cases hlt:k<n
  · have hs:=H.out.1.below X.out.1.bel
    obtain ⟨ad,hA⟩:∃ ad,A=some ad:=by obtain ⟨ad,e,_⟩:=hs.at_ (by omega);exact ⟨ad,e⟩
    subst hA
    have hcell:=hs.cell hlt
    have hkl:k<zs.length:=by rw [hs.len];exact hlt
    obtain ⟨z,hz⟩:∃ z,z=zs.getD k 0:=⟨_,rfl⟩
    rw [← hz] at hcell
    have HZ:=Lib.hid (show zs.take (k+1)=zs.take k ++ [z] from by rw [hz,getD_lt hkl];exact List.take_succ_eq_append_getElem hkl)
    clear hz hs hkl
    go_wp2_with fail
    refine (refWid_any z wr).mono ?_
    rintro e w3 ⟨rfl,rfl⟩
    obtain ⟨J,hJ⟩:∃ J:Nat,J+1=C:=⟨C-1,by omega⟩
    have m1:cols.tmod 80=(J:Int):=by have:=HC80.out;rw [Int.tmod_eq_emod_of_nonneg this.2.1];omega
    have hcz:IntKind.i64.wrap cols=cols:=by clear m1;have:=HC80.out;rw [IntKind.wrap_i64];omega
    have hcz2:wrap64 cols=cols:=by clear hcz m1;have:=HC80.out;unfold wrap64;omega
    have HNJ:=Lib.hid hJ
    have hJb:J≤100:=by clear m1 hcz hcz2;omega
    clear hJ
    by_cases hk80:k≤80
    case neg =>
     have hk81:k=81:=by clear m1 hcz hcz2;omega
     go_wp2_with fail
     clear m1 hcz hcz2
     refine (screen_lw X.out.1).mono ?_
     rintro e w5 ⟨hb5,s,rfl,hs⟩
     have hsc:=text_screen C (zs.take k) q
     rw [← X.out.2.2.2] at hsc
     have hex:s.x=(m:Int):=by rw [← hs.sc.x,hsc.2.1,X.out.2.2.1]
     have hey:s.y=0:=by rw [← hs.sc.y,hsc.2.2]
     have hen:s.n=C:=by
      have h1:=hs.sc.cells.len
      rw [hsc.1,List.length_append,X.out.2.2.1] at h1
      simp [blanks0] at h1
      omega
     have htk:(tmRow C W q).screen.cells.take m=W:=by rw [hsc.1,← X.out.2.2.1,List.take_left]
     have hsk:m≤s.k:=by have:=hs.sc.nk;omega
     obtain ⟨b9,hb9⟩:∃ b,b=w5.heap.size:=⟨_,rfl⟩
     obtain ⟨w6,hw6⟩:∃ w',w'=w5.alloc (.cells #[.int .i64 0,.int .i64 0,.slice none 0 0,.int .i64 0,.int .i64 0,.bool false,.int .u8 0,.string ⟨#[]⟩,.slice none 0 0] 56):=⟨_,rfl⟩
     have H6:=Lib.hid (show Sx w6 b9 scN∧Below w5.heap.size w5 w6∧b9=w5.heap.size from ⟨by rw [hw6,hb9];exact Sx.new w5 scN,by rw [hw6];exact (Below.refl _ _).alloc (Nat.le_refl _) _,hb9⟩)
     have Y5:=Lib.hid (show Below w.heap.size w w5∧Vs ceV w5 s.A s.n (tmRow C W q).screen.cells∧RwL w w5 g1 y B m d W∧(tmRow C W q).screen.cells.take m=W from ⟨X.out.1.bel.trans (hb5.mono X.out.1.bel.size),hs.sc.cells,X.out.2.1.below hb5,htk⟩)
     have HE:=Lib.hid (And.intro hex (And.intro hey (And.intro hen (show W.length=m from X.out.2.2.1))))
     clear hb5 hs hsc hex hey hen htk X
     go_upto_region 18 with (refine wpList_store_V rfl 56 (.tmp 13) (.tmp 69) rfl scF_len one_sc info56 b9 0 0 s (scrA s) (by rw [hb9];rfl) rfl rfl rfl 56 [scN] (by rw [← hw6];exact H6.out.1) (by decide) ?_;intro w7 hR7 hg7)
     rw [← hw6] at hg7
     rw [← hb9]
     have Y7:=Lib.hid (show Sx w7 b9 s∧Below w.heap.size w w7∧Vs ceV w7 s.A m W∧Vs ceV w7 B m W from by
      have h57:Below w5.heap.size w5 w7:=H6.out.2.1.grown hg7 H6.out.2.1.size (fun q' e=>by injection e with e;rw [← e];exact Nat.le_of_eq H6.out.2.2.symm)
      refine ⟨hR7,Y5.out.1.trans (h57.mono Y5.out.1.size),?_,(own_vs HE.out.2.2.2 Y5.out.2.2.1.own).below h57⟩
      have:=(Y5.out.2.1.below h57).front ceV_len (k:=m) (by rw [HE.out.2.2.1];omega)
      rw [Y5.out.2.2.2] at this
      exact this)
     clear hR7 hg7 hw6 hb9 H6 Y5
     obtain ⟨_,_,p2,p3,p4,_⟩:=sx_cells Y7.out.1
     rw [HE.out.1] at p3
     rw [HE.out.2.1] at p4
     rw [HE.out.2.2.1] at p2
     obtain ⟨K,hK⟩:∃ K:Nat,K+1=C:=⟨C-1,by omega⟩
     have hJ0:wrap64 (1+(K:Int))=(C:Int):=by unfold wrap64;omega
     have hJ1:1+(K:Int)=(C:Int):=by omega
     have m1:cols.tmod 80=(K:Int):=by clear hJ0;have:=HC80.out;rw [Int.tmod_eq_emod_of_nonneg this.2.1];omega
     have hcz:IntKind.i64.wrap cols=cols:=by clear m1 hJ0;have:=HC80.out;rw [IntKind.wrap_i64];omega
     have hKb:K≤100:=by clear m1 hJ0 hcz;omega
     clear hK
     clear HE
     go_wp2_with fail
     refine (sameC_any Y7.out.2.2.1 Y7.out.2.2.2 (by clear hJ0 hJ1 m1 hcz;omega) (by clear hJ0 hJ1 m1 hcz;omega)).mono ?_
     rintro e w8 ⟨rfl,qq,hw8⟩
     have Y8:=Lib.hid (show Below w.heap.size w w8 from by rw [hw8];exact belowN Y7.out.2.1 qq)
     rw [decide_eq_true (rfl:W=W)]
     clear hw8
     go_wp2_with fail
     go_ret
     exact ⟨rfl,Y8.out⟩
    rcases hw2 z with hV | hV | hV
    · rw [hV]
      have HVe:=Lib.hid hV
      clear hV
      go_wp2_with fail
      clear m1 hcz hcz2
      refine (screen_lw X.out.1).mono ?_
      rintro e w5 ⟨hb5,s,rfl,hs⟩
      have hsc:=text_screen C (zs.take k) q
      rw [← X.out.2.2.2] at hsc
      have hex:s.x=(m:Int):=by rw [← hs.sc.x,hsc.2.1,X.out.2.2.1]
      have hey:s.y=0:=by rw [← hs.sc.y,hsc.2.2]
      have hen:s.n=C:=by
       have h1:=hs.sc.cells.len
       rw [hsc.1,List.length_append,X.out.2.2.1] at h1
       simp [blanks0] at h1
       omega
      have htk:(tmRow C W q).screen.cells.take m=W:=by rw [hsc.1,← X.out.2.2.1,List.take_left]
      have hsk:m≤s.k:=by have:=hs.sc.nk;omega
      obtain ⟨b9,hb9⟩:∃ b,b=w5.heap.size:=⟨_,rfl⟩
      obtain ⟨w6,hw6⟩:∃ w',w'=w5.alloc (.cells #[.int .i64 0,.int .i64 0,.slice none 0 0,.int .i64 0,.int .i64 0,.bool false,.int .u8 0,.string ⟨#[]⟩,.slice none 0 0] 56):=⟨_,rfl⟩
      have H6:=Lib.hid (show Sx w6 b9 scN∧Below w5.heap.size w5 w6∧b9=w5.heap.size from ⟨by rw [hw6,hb9];exact Sx.new w5 scN,by rw [hw6];exact (Below.refl _ _).alloc (Nat.le_refl _) _,hb9⟩)
      have Y5:=Lib.hid (show Below w.heap.size w w5∧Vs ceV w5 s.A s.n (tmRow C W q).screen.cells∧RwL w w5 g1 y B m d W∧(tmRow C W q).screen.cells.take m=W from ⟨X.out.1.bel.trans (hb5.mono X.out.1.bel.size),hs.sc.cells,X.out.2.1.below hb5,htk⟩)
      have HE:=Lib.hid (And.intro hex (And.intro hey (And.intro hen (show W.length=m from X.out.2.2.1))))
      clear hb5 hs hsc hex hey hen htk X
      go_upto_region 18 with (refine wpList_store_V rfl 56 (.tmp 13) (.tmp 69) rfl scF_len one_sc info56 b9 0 0 s (scrA s) (by rw [hb9];rfl) rfl rfl rfl 56 [scN] (by rw [← hw6];exact H6.out.1) (by decide) ?_;intro w7 hR7 hg7)
      rw [← hw6] at hg7
      rw [← hb9]
      have Y7:=Lib.hid (show Sx w7 b9 s∧Below w.heap.size w w7∧Vs ceV w7 s.A m W∧Vs ceV w7 B m W from by
       have h57:Below w5.heap.size w5 w7:=H6.out.2.1.grown hg7 H6.out.2.1.size (fun q' e=>by injection e with e;rw [← e];exact Nat.le_of_eq H6.out.2.2.symm)
       refine ⟨hR7,Y5.out.1.trans (h57.mono Y5.out.1.size),?_,(own_vs HE.out.2.2.2 Y5.out.2.2.1.own).below h57⟩
       have:=(Y5.out.2.1.below h57).front ceV_len (k:=m) (by rw [HE.out.2.2.1];omega)
       rw [Y5.out.2.2.2] at this
       exact this)
      clear hR7 hg7 hw6 hb9 H6 Y5
      obtain ⟨_,_,p2,p3,p4,_⟩:=sx_cells Y7.out.1
      rw [HE.out.1] at p3
      rw [HE.out.2.1] at p4
      rw [HE.out.2.2.1] at p2
      obtain ⟨K,hK⟩:∃ K:Nat,K+1=C:=⟨C-1,by omega⟩
      have hJ0:wrap64 (1+(K:Int))=(C:Int):=by unfold wrap64;omega
      have hJ1:1+(K:Int)=(C:Int):=by omega
      have m1:cols.tmod 80=(K:Int):=by clear hJ0;have:=HC80.out;rw [Int.tmod_eq_emod_of_nonneg this.2.1];omega
      have hcz:IntKind.i64.wrap cols=cols:=by clear m1 hJ0;have:=HC80.out;rw [IntKind.wrap_i64];omega
      have hKb:K≤100:=by clear m1 hJ0 hcz;omega
      clear hK
      clear HE
      go_wp2_with fail
      refine (sameC_any Y7.out.2.2.1 Y7.out.2.2.2 (by clear hJ0 hJ1 m1 hcz;omega) (by clear hJ0 hJ1 m1 hcz;omega)).mono ?_
      rintro e w8 ⟨rfl,qq,hw8⟩
      have Y8:=Lib.hid (show Below w.heap.size w w8 from by rw [hw8];exact belowN Y7.out.2.1 qq)
      rw [decide_eq_true (rfl:W=W)]
      clear hw8
      go_wp2_with fail
      go_ret
      exact ⟨rfl,Y8.out⟩
    · rw [hV]
      have HVe:=Lib.hid hV
      clear hV
      by_cases hfit:m+1≤J
      case neg =>
       go_wp2_with fail
       clear m1 hcz hcz2
       refine (screen_lw X.out.1).mono ?_
       rintro e w5 ⟨hb5,s,rfl,hs⟩
       have hsc:=text_screen C (zs.take k) q
       rw [← X.out.2.2.2] at hsc
       have hex:s.x=(m:Int):=by rw [← hs.sc.x,hsc.2.1,X.out.2.2.1]
       have hey:s.y=0:=by rw [← hs.sc.y,hsc.2.2]
       have hen:s.n=C:=by
        have h1:=hs.sc.cells.len
        rw [hsc.1,List.length_append,X.out.2.2.1] at h1
        simp [blanks0] at h1
        omega
       have htk:(tmRow C W q).screen.cells.take m=W:=by rw [hsc.1,← X.out.2.2.1,List.take_left]
       have hsk:m≤s.k:=by have:=hs.sc.nk;omega
       obtain ⟨b9,hb9⟩:∃ b,b=w5.heap.size:=⟨_,rfl⟩
       obtain ⟨w6,hw6⟩:∃ w',w'=w5.alloc (.cells #[.int .i64 0,.int .i64 0,.slice none 0 0,.int .i64 0,.int .i64 0,.bool false,.int .u8 0,.string ⟨#[]⟩,.slice none 0 0] 56):=⟨_,rfl⟩
       have H6:=Lib.hid (show Sx w6 b9 scN∧Below w5.heap.size w5 w6∧b9=w5.heap.size from ⟨by rw [hw6,hb9];exact Sx.new w5 scN,by rw [hw6];exact (Below.refl _ _).alloc (Nat.le_refl _) _,hb9⟩)
       have Y5:=Lib.hid (show Below w.heap.size w w5∧Vs ceV w5 s.A s.n (tmRow C W q).screen.cells∧RwL w w5 g1 y B m d W∧(tmRow C W q).screen.cells.take m=W from ⟨X.out.1.bel.trans (hb5.mono X.out.1.bel.size),hs.sc.cells,X.out.2.1.below hb5,htk⟩)
       have HE:=Lib.hid (And.intro hex (And.intro hey (And.intro hen (show W.length=m from X.out.2.2.1))))
       clear hb5 hs hsc hex hey hen htk X
       go_upto_region 18 with (refine wpList_store_V rfl 56 (.tmp 13) (.tmp 69) rfl scF_len one_sc info56 b9 0 0 s (scrA s) (by rw [hb9];rfl) rfl rfl rfl 56 [scN] (by rw [← hw6];exact H6.out.1) (by decide) ?_;intro w7 hR7 hg7)
       rw [← hw6] at hg7
       rw [← hb9]
       have Y7:=Lib.hid (show Sx w7 b9 s∧Below w.heap.size w w7∧Vs ceV w7 s.A m W∧Vs ceV w7 B m W from by
        have h57:Below w5.heap.size w5 w7:=H6.out.2.1.grown hg7 H6.out.2.1.size (fun q' e=>by injection e with e;rw [← e];exact Nat.le_of_eq H6.out.2.2.symm)
        refine ⟨hR7,Y5.out.1.trans (h57.mono Y5.out.1.size),?_,(own_vs HE.out.2.2.2 Y5.out.2.2.1.own).below h57⟩
        have:=(Y5.out.2.1.below h57).front ceV_len (k:=m) (by rw [HE.out.2.2.1];omega)
        rw [Y5.out.2.2.2] at this
        exact this)
       clear hR7 hg7 hw6 hb9 H6 Y5
       obtain ⟨_,_,p2,p3,p4,_⟩:=sx_cells Y7.out.1
       rw [HE.out.1] at p3
       rw [HE.out.2.1] at p4
       rw [HE.out.2.2.1] at p2
       obtain ⟨K,hK⟩:∃ K:Nat,K+1=C:=⟨C-1,by omega⟩
       have hJ0:wrap64 (1+(K:Int))=(C:Int):=by unfold wrap64;omega
       have hJ1:1+(K:Int)=(C:Int):=by omega
       have m1:cols.tmod 80=(K:Int):=by clear hJ0;have:=HC80.out;rw [Int.tmod_eq_emod_of_nonneg this.2.1];omega
       have hcz:IntKind.i64.wrap cols=cols:=by clear m1 hJ0;have:=HC80.out;rw [IntKind.wrap_i64];omega
       have hKb:K≤100:=by clear m1 hJ0 hcz;omega
       clear hK
       clear HE
       go_wp2_with fail
       refine (sameC_any Y7.out.2.2.1 Y7.out.2.2.2 (by clear hJ0 hJ1 m1 hcz;omega) (by clear hJ0 hJ1 m1 hcz;omega)).mono ?_
       rintro e w8 ⟨rfl,qq,hw8⟩
       have Y8:=Lib.hid (show Below w.heap.size w w8 from by rw [hw8];exact belowN Y7.out.2.1 qq)
       rw [decide_eq_true (rfl:W=W)]
       clear hw8
       go_wp2_with fail
       go_ret
       exact ⟨rfl,Y8.out⟩
      go_wp2_with fail
      refine (do_lw HT.out X.out.1 (bareA 1 z 0) (bare_in _ _ _ _ _ _)).mono ?_
      rintro e w4 ⟨rfl,y4,hL,hk2⟩
      have hnj:m+1<C:=by have:=HNJ.out;clear m1 hcz hcz2;omega
      rw [doA_print,print_fit (.inl HVe.out) (by rw [X.out.2.2.1,HVe.out];clear m1 hcz hcz2;omega)] at hL hk2
      have Y:=Lib.hid (show Lw w w4 g1 y4 (tmRow C (W ++ lettS z pn0) z)∧RwL w w4 g1 y4 B m d W from ⟨hL,X.out.2.1.step hk2⟩)
      have HW:=Lib.hid (show W ++ lettS z pn0=lettsS (zs.take (k+1)) from by rw [HZ.out,X.out.2.2.2];simp [lettsS])
      have HWl:=Lib.hid X.out.2.2.1
      clear hL hk2 X
      have hm1:m≤100:=by clear m1 hcz hcz2;omega
      go_upto_region 13 with (refine wpList_app_cell Y.out.1 Y.out.2 (by clear m1 hcz hcz2;omega) rfl (.tmp 50) (.tmp 56) rfl rfl ⟨z,0,pn0⟩ rfl rfl ?_;intro B5 d5 w5 hL5 hR5 hb5)
      have Y5:=Lib.hid (And.intro hL5 hR5)
      clear hL5 hR5 hb5 Y
      go_wp2_with fail
      go_roundw
      case rel=>exact ⟨k+1,m+1,d5,B5,y4,W ++ lettS z pn0,z,by clear m1 hcz hcz2;omega,by clear m1 hcz hcz2;omega,by go_num,by go_num,rfl,by rw [List.length_append,HWl.out];unfold lettS;rw [if_pos HVe.out];rfl,HW.out,hnj,Y5.out.1,by unfold lettS;rw [if_pos HVe.out];exact Y5.out.2⟩
      case measure=>simp [intOf];omega
    · rw [hV]
      have HVe:=Lib.hid hV
      clear hV
      by_cases hfit:m+2≤J
      case neg =>
       go_wp2_with fail
       clear m1 hcz hcz2
       refine (screen_lw X.out.1).mono ?_
       rintro e w5 ⟨hb5,s,rfl,hs⟩
       have hsc:=text_screen C (zs.take k) q
       rw [← X.out.2.2.2] at hsc
       have hex:s.x=(m:Int):=by rw [← hs.sc.x,hsc.2.1,X.out.2.2.1]
       have hey:s.y=0:=by rw [← hs.sc.y,hsc.2.2]
       have hen:s.n=C:=by
        have h1:=hs.sc.cells.len
        rw [hsc.1,List.length_append,X.out.2.2.1] at h1
        simp [blanks0] at h1
        omega
       have htk:(tmRow C W q).screen.cells.take m=W:=by rw [hsc.1,← X.out.2.2.1,List.take_left]
       have hsk:m≤s.k:=by have:=hs.sc.nk;omega
       obtain ⟨b9,hb9⟩:∃ b,b=w5.heap.size:=⟨_,rfl⟩
       obtain ⟨w6,hw6⟩:∃ w',w'=w5.alloc (.cells #[.int .i64 0,.int .i64 0,.slice none 0 0,.int .i64 0,.int .i64 0,.bool false,.int .u8 0,.string ⟨#[]⟩,.slice none 0 0] 56):=⟨_,rfl⟩
       have H6:=Lib.hid (show Sx w6 b9 scN∧Below w5.heap.size w5 w6∧b9=w5.heap.size from ⟨by rw [hw6,hb9];exact Sx.new w5 scN,by rw [hw6];exact (Below.refl _ _).alloc (Nat.le_refl _) _,hb9⟩)
       have Y5:=Lib.hid (show Below w.heap.size w w5∧Vs ceV w5 s.A s.n (tmRow C W q).screen.cells∧RwL w w5 g1 y B m d W∧(tmRow C W q).screen.cells.take m=W from ⟨X.out.1.bel.trans (hb5.mono X.out.1.bel.size),hs.sc.cells,X.out.2.1.below hb5,htk⟩)
       have HE:=Lib.hid (And.intro hex (And.intro hey (And.intro hen (show W.length=m from X.out.2.2.1))))
       clear hb5 hs hsc hex hey hen htk X
       go_upto_region 18 with (refine wpList_store_V rfl 56 (.tmp 13) (.tmp 69) rfl scF_len one_sc info56 b9 0 0 s (scrA s) (by rw [hb9];rfl) rfl rfl rfl 56 [scN] (by rw [← hw6];exact H6.out.1) (by decide) ?_;intro w7 hR7 hg7)
       rw [← hw6] at hg7
       rw [← hb9]
       have Y7:=Lib.hid (show Sx w7 b9 s∧Below w.heap.size w w7∧Vs ceV w7 s.A m W∧Vs ceV w7 B m W from by
        have h57:Below w5.heap.size w5 w7:=H6.out.2.1.grown hg7 H6.out.2.1.size (fun q' e=>by injection e with e;rw [← e];exact Nat.le_of_eq H6.out.2.2.symm)
        refine ⟨hR7,Y5.out.1.trans (h57.mono Y5.out.1.size),?_,(own_vs HE.out.2.2.2 Y5.out.2.2.1.own).below h57⟩
        have:=(Y5.out.2.1.below h57).front ceV_len (k:=m) (by rw [HE.out.2.2.1];omega)
        rw [Y5.out.2.2.2] at this
        exact this)
       clear hR7 hg7 hw6 hb9 H6 Y5
       obtain ⟨_,_,p2,p3,p4,_⟩:=sx_cells Y7.out.1
       rw [HE.out.1] at p3
       rw [HE.out.2.1] at p4
       rw [HE.out.2.2.1] at p2
       obtain ⟨K,hK⟩:∃ K:Nat,K+1=C:=⟨C-1,by omega⟩
       have hJ0:wrap64 (1+(K:Int))=(C:Int):=by unfold wrap64;omega
       have hJ1:1+(K:Int)=(C:Int):=by omega
       have m1:cols.tmod 80=(K:Int):=by clear hJ0;have:=HC80.out;rw [Int.tmod_eq_emod_of_nonneg this.2.1];omega
       have hcz:IntKind.i64.wrap cols=cols:=by clear m1 hJ0;have:=HC80.out;rw [IntKind.wrap_i64];omega
       have hKb:K≤100:=by clear m1 hJ0 hcz;omega
       clear hK
       clear HE
       go_wp2_with fail
       refine (sameC_any Y7.out.2.2.1 Y7.out.2.2.2 (by clear hJ0 hJ1 m1 hcz;omega) (by clear hJ0 hJ1 m1 hcz;omega)).mono ?_
       rintro e w8 ⟨rfl,qq,hw8⟩
       have Y8:=Lib.hid (show Below w.heap.size w w8 from by rw [hw8];exact belowN Y7.out.2.1 qq)
       rw [decide_eq_true (rfl:W=W)]
       clear hw8
       go_wp2_with fail
       go_ret
       exact ⟨rfl,Y8.out⟩
      go_wp2_with fail
      refine (do_lw HT.out X.out.1 (bareA 1 z 0) (bare_in _ _ _ _ _ _)).mono ?_
      rintro e w4 ⟨rfl,y4,hL,hk2⟩
      have hnj:m+2<C:=by have:=HNJ.out;clear m1 hcz hcz2;omega
      rw [doA_print,print_fit (.inr HVe.out) (by rw [X.out.2.2.1,HVe.out];clear m1 hcz hcz2;omega)] at hL hk2
      have Y:=Lib.hid (show Lw w w4 g1 y4 (tmRow C (W ++ lettS z pn0) z)∧RwL w w4 g1 y4 B m d W from ⟨hL,X.out.2.1.step hk2⟩)
      have HW:=Lib.hid (show W ++ lettS z pn0=lettsS (zs.take (k+1)) from by rw [HZ.out,X.out.2.2.2];simp [lettsS])
      have HWl:=Lib.hid X.out.2.2.1
      clear hL hk2 X
      have hm1:m≤100:=by clear m1 hcz hcz2;omega
      go_upto_region 13 with (refine wpList_app_cell Y.out.1 Y.out.2 (by clear m1 hcz hcz2;omega) rfl (.tmp 50) (.tmp 56) rfl rfl ⟨z,1,pn0⟩ rfl rfl ?_;intro B5 d5 w5 hL5 hR5 hb5)
      have Y5:=Lib.hid (And.intro hL5 hR5)
      clear hL5 hR5 hb5 Y
      go_upto_region 14 with fail
      go_upto_region 15 with (refine wpList_app_cell Y5.out.1 Y5.out.2 (by clear m1 hcz hcz2;omega) rfl (.tmp 60) (.tmp 62) rfl rfl ⟨0,2,pn0⟩ rfl rfl ?_;intro B6 d6 w6 hL6 hR6 hb6)
      have Y6:=Lib.hid (And.intro hL6 hR6)
      clear hL6 hR6 hb6 Y5
      go_wp2_with fail
      go_roundw
      case rel=>exact ⟨k+1,m+2,d6,B6,y4,W ++ lettS z pn0,z,by clear m1 hcz hcz2;omega,by clear m1 hcz hcz2;omega,by go_num,by go_num,rfl,by rw [List.length_append,HWl.out];unfold lettS;rw [if_neg (by rw [HVe.out];decide),if_pos HVe.out];rfl,HW.out,hnj,Y6.out.1,by unfold lettS;rw [if_neg (by rw [HVe.out];decide),if_pos HVe.out];have:=Y6.out.2;rw [List.append_assoc] at this;exact this⟩
      case measure=>simp [intOf];omega
  · obtain rfl:k=n:=by omega
    obtain ⟨J,hJ⟩:∃ J:Nat,J+1=C:=⟨C-1,by omega⟩
    have m1:cols.tmod 80=(J:Int):=by have:=HC80.out;rw [Int.tmod_eq_emod_of_nonneg this.2.1];omega
    have hcz:IntKind.i64.wrap cols=cols:=by clear m1;have:=HC80.out;rw [IntKind.wrap_i64];omega
    have hcz2:wrap64 cols=cols:=by clear hcz m1;have:=HC80.out;unfold wrap64;omega
    have hJb:J≤100:=by clear m1 hcz hcz2;omega
    clear hJ
    go_wp2_with fail
    clear m1 hcz hcz2
    refine (screen_lw X.out.1).mono ?_
    rintro e w5 ⟨hb5,s,rfl,hs⟩
    have hsc:=text_screen C (zs.take k) q
    rw [← X.out.2.2.2] at hsc
    have hex:s.x=(m:Int):=by rw [← hs.sc.x,hsc.2.1,X.out.2.2.1]
    have hey:s.y=0:=by rw [← hs.sc.y,hsc.2.2]
    have hen:s.n=C:=by
     have h1:=hs.sc.cells.len
     rw [hsc.1,List.length_append,X.out.2.2.1] at h1
     simp [blanks0] at h1
     omega
    have htk:(tmRow C W q).screen.cells.take m=W:=by rw [hsc.1,← X.out.2.2.1,List.take_left]
    have hsk:m≤s.k:=by have:=hs.sc.nk;omega
    obtain ⟨b9,hb9⟩:∃ b,b=w5.heap.size:=⟨_,rfl⟩
    obtain ⟨w6,hw6⟩:∃ w',w'=w5.alloc (.cells #[.int .i64 0,.int .i64 0,.slice none 0 0,.int .i64 0,.int .i64 0,.bool false,.int .u8 0,.string ⟨#[]⟩,.slice none 0 0] 56):=⟨_,rfl⟩
    have H6:=Lib.hid (show Sx w6 b9 scN∧Below w5.heap.size w5 w6∧b9=w5.heap.size from ⟨by rw [hw6,hb9];exact Sx.new w5 scN,by rw [hw6];exact (Below.refl _ _).alloc (Nat.le_refl _) _,hb9⟩)
    have Y5:=Lib.hid (show Below w.heap.size w w5∧Vs ceV w5 s.A s.n (tmRow C W q).screen.cells∧RwL w w5 g1 y B m d W∧(tmRow C W q).screen.cells.take m=W from ⟨X.out.1.bel.trans (hb5.mono X.out.1.bel.size),hs.sc.cells,X.out.2.1.below hb5,htk⟩)
    have HE:=Lib.hid (And.intro hex (And.intro hey (And.intro hen (show W.length=m from X.out.2.2.1))))
    clear hb5 hs hsc hex hey hen htk X
    go_upto_region 18 with (refine wpList_store_V rfl 56 (.tmp 13) (.tmp 69) rfl scF_len one_sc info56 b9 0 0 s (scrA s) (by rw [hb9];rfl) rfl rfl rfl 56 [scN] (by rw [← hw6];exact H6.out.1) (by decide) ?_;intro w7 hR7 hg7)
    rw [← hw6] at hg7
    rw [← hb9]
    have Y7:=Lib.hid (show Sx w7 b9 s∧Below w.heap.size w w7∧Vs ceV w7 s.A m W∧Vs ceV w7 B m W from by
     have h57:Below w5.heap.size w5 w7:=H6.out.2.1.grown hg7 H6.out.2.1.size (fun q' e=>by injection e with e;rw [← e];exact Nat.le_of_eq H6.out.2.2.symm)
     refine ⟨hR7,Y5.out.1.trans (h57.mono Y5.out.1.size),?_,(own_vs HE.out.2.2.2 Y5.out.2.2.1.own).below h57⟩
     have:=(Y5.out.2.1.below h57).front ceV_len (k:=m) (by rw [HE.out.2.2.1];omega)
     rw [Y5.out.2.2.2] at this
     exact this)
    clear hR7 hg7 hw6 hb9 H6 Y5
    obtain ⟨_,_,p2,p3,p4,_⟩:=sx_cells Y7.out.1
    rw [HE.out.1] at p3
    rw [HE.out.2.1] at p4
    rw [HE.out.2.2.1] at p2
    obtain ⟨K,hK⟩:∃ K:Nat,K+1=C:=⟨C-1,by omega⟩
    have hJ0:wrap64 (1+(K:Int))=(C:Int):=by unfold wrap64;omega
    have hJ1:1+(K:Int)=(C:Int):=by omega
    have m1:cols.tmod 80=(K:Int):=by clear hJ0;have:=HC80.out;rw [Int.tmod_eq_emod_of_nonneg this.2.1];omega
    have hcz:IntKind.i64.wrap cols=cols:=by clear m1 hJ0;have:=HC80.out;rw [IntKind.wrap_i64];omega
    have hKb:K≤100:=by clear m1 hJ0 hcz;omega
    clear hK
    clear HE
    go_wp2_with fail
    refine (sameC_any Y7.out.2.2.1 Y7.out.2.2.2 (by clear hJ0 hJ1 m1 hcz;omega) (by clear hJ0 hJ1 m1 hcz;omega)).mono ?_
    rintro e w8 ⟨rfl,qq,hw8⟩
    have Y8:=Lib.hid (show Below w.heap.size w w8 from by rw [hw8];exact belowN Y7.out.2.1 qq)
    rw [decide_eq_true (rfl:W=W)]
    clear hw8
    go_wp2_with fail
    go_ret
    exact ⟨rfl,Y8.out⟩
set_option maxRecDepth 100000 in
theorem lifted (os:Os) (started:os.Started) (H:Type) (enc:TypeId × Value→H) :
  ReturnsInHanded {} Tryz.checked os 8 .any (fun w args=>(Rows.emulTextSpec.pre enc Tryz.prog Tryz.f8 [] false w args∧laidMetH Tryz.prog laidL w)∧sizedMet enc Tryz.prog Tryz.f8 (OpenSpec.ofChange Rows.emulTextSpec) false w args)
   (Rows.emulTextSpec.post enc Tryz.prog Tryz.f8 false true false false):=by
 refine returnsInHanded_of_change_and (C:=Tryz.checked) (X:=fun w _=>laidMetH Tryz.prog laidL w) (fun _ _ _ hh h=>h.of_heap hh) own started (by kernel_rfl) Tryz.func8
  (ChangeSpec.witness_shaped (enc:=enc) (C:=Tryz.checked) (os:=os) (X:=fun w _=>laidMetH Tryz.prog laidL w) false (World.laidAll Tryz.prog os laidL) #[.int .u8 0,.slice none 0 0] 8 (World.laidAll_os _ _ _) (start_shaped os) (by kernel_rfl) (by kernel_rfl) (by kernel_rfl) (start_met os _)) ?_
 intro W base args ds gs before hval0 hW _ hsz0 hL _
 have hsz:(DataW.weightsEach Tryz.prog (Tryz.f8.params.toList ++ Rows.emulTextSpec.plain.varTypes Tryz.prog) (ds ++ gs)).all (·≤reachBytes)=true:=hsz0
 clear hsz0
 have hval:∀ (j:Nat) t v,Tryz.f8.params[j]?=some t→args[j]?=some v→Value.okWide Tryz.prog W .any base t v:=hval0
 have hW':=hW
 obtain ⟨p,q,hA0,hV,rfl,_,_⟩:=hW
 have hA:DataW.TrodAll enc Tryz.prog W 0 (fun _=>true) true Tryz.f8.params.toList args.toList ds p:=hA0
 rw [Tryz.params8] at hA hval hsz
 obtain ⟨v0,vs0,d0,ds0,p0,q0,hargs,rfl,rfl,h0,r0⟩:=trodAll_cons hA
 obtain ⟨v1,vs1,d1,ds1,p1,q1,rfl,rfl,rfl,h1,r1⟩:=trodAll_cons r0
 obtain ⟨rfl,rfl,rfl⟩:=trodAll_nil r1
 obtain rfl:args=#[v0,v1]:=by cases args;simp_all
 obtain ⟨rfl,rfl⟩:=trodVars_none hV
 obtain ⟨a0,rfl,rfl,rfl,w0⟩:=open_int Tryz.underlying5 (hval 0 5 v0 rfl rfl) h0
 have lt1:∀ x∈p1,x.block<W.heap.size:=by obtain ⟨m,hm⟩:=h1;exact DataW.trod_lt m _ _ _ hm
 obtain ⟨A1,n1,c1,z1,rfl,s1⟩:=open_i32s (hval 1 72 v1 rfl rfl) h1
 clear hA0 hval0
 refine (walk W (tabs_of_laid hL) w0 s1).mono fun e W' ⟨he,bel⟩=>?_
 subst he
 exact ⟨_,rfl,_,_,_,[],_,[],hW',trodAll_mk1 (shut_bool Tryz.underlying4 _),(trodAll_cons_mk (shut_int Tryz.underlying5 w0) (trodAll_cons_mk (Below.trod laidOut (by kernel_rfl) (of_decide_eq_true (by kernel_rfl)) h1 bel lt1) trodAll_mk0)),rfl,bel.frame _,fun h=>by cases h⟩
theorem over:Rows.emulTextRow.holds Tryz.pinned (OpenSpec.ofChange Rows.emulTextSpec) :=
 OpenClaim.holds_of_wide 8 Tryz.f8 rfl rfl rfl rfl rfl rfl rfl ⟨rfl,rfl,rfl,rfl,rfl⟩ rfl rfl rfl rfl rfl (by kernel_rfl) Tryz.func8 (by kernel_rfl)
  (of_decide_eq_true (by kernel_rfl)) (by unfold Func.isWrapper;first | (rw [if_pos (by decide +kernel)];kernel_rfl) | (rw [if_neg (by decide +kernel)];exact ⟨rfl,rfl⟩))
  (fun os started H enc _=>lifted os started H enc)
theorem proved:Rows.EmulTextCardSaid :=
 Claim7.holds_tied_plain_at .later [] [.data,.data,.pinned] true Rows.emulTextCard.stood.harness false
  over (fun _ h=>by cases h) (by kernel_rfl) (fun _ h=>by cases h) emulText_row_tie rfl ⟨rfl,rfl⟩ (by kernel_rfl) rfl
  (fun f fn hf hfn=>by
   obtain rfl:f=8:=Option.some.inj ((show Tryz.prog.funcNamed "spyglass/spyglasslaw12.EmulText"=some 8 by kernel_rfl).symm.trans hf) |>.symm
   obtain rfl:fn=Tryz.f8:=(Option.some.inj (Tryz.func8.symm.trans hfn)).symm
   exact ⟨by kernel_rfl,fun j t ht=>by
    rw [Tryz.params8] at ht
    have hm:t∈[5,72]:=by simpa using Array.mem_of_getElem? ht
    have hall:([5,72].all fun u=>!Tryz.prog.wantsStandIn u)=true:=by kernel_rfl
    exact (show Tryz.prog.wantsStandIn t=false by simpa using List.all_eq_true.1 hall t hm)⟩)
  (by kernel_rfl)
end Go.Proofs.YtlcipgdnpilkfaaGreatDoor.emulText
