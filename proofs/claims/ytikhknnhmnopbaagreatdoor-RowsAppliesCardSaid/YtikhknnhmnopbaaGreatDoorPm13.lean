/-
  Part 13 of what the laws of emul want: LinksRight, EmulRight, EmulNils, EmulLinkS, EmulOtherS, EmulLead, EmulFd, EmulScrS, ProjCells, GridSm, EmulRefScr, ProjScreen.
-/
import Derived.Deep.DeepCutAuto
import Derived.Laws.EntriesVeiled
import Derived.WalkKit
import Derived.Deep.RegionWith
import Derived.Laws.Strings
import Derived.Deep.RegionHeld3
import Derived.Deep.QuietTactic
import Derived.Laws.Rows
import Derived.Laws.BitsAllLaws
import Derived.WalkSpells
import Derived.BigQuiet
import Derived.Handy
import Derived.Test.YtikhknnhmnopbaaGreatDoorRows
import Derived.Lib.LaidU8
import Derived.Lib.LaidTab
import Derived.LaidMore
import Derived.Lay
import Derived.Stop.Joined
import Derived.Handed
import Derived.Deep.CutBlock
import Derived.Test.YtikhknnhmnopbaaGreatDoorPm01
import Derived.Test.YtikhknnhmnopbaaGreatDoorPm02
import Derived.Test.YtikhknnhmnopbaaGreatDoorPm04
import Derived.Test.YtikhknnhmnopbaaGreatDoorPm06
import Derived.Test.YtikhknnhmnopbaaGreatDoorPm07
import Derived.Test.YtikhknnhmnopbaaGreatDoorPm09
import Derived.Test.YtikhknnhmnopbaaGreatDoorPm10
import Derived.Test.YtikhknnhmnopbaaGreatDoorPm11
import Derived.Test.YtikhknnhmnopbaaGreatDoorPm12
namespace Go.Proofs.YtikhknnhmnopbaaGreatDoor
open Go.RowKit
theorem retBR {a b:Bool} (h:a=b):Ending.returned (.bool a)=.returned (.bool b):=by rw [h]
theorem comeS_append (m:Nat) (xs ys:List Ce):comeS m (xs ++ ys)=(comeS m xs).bind fun k=>comeS k ys:=by
 induction xs generalizing m with
 | nil=>rfl
 | cons a xs ih =>
  rw [List.cons_append,comeS,comeS]
  split
  · rfl
  · exact ih _
theorem comeS_step {cs:List Ce} {k t:Nat} (hk:k<cs.length) (h:comeS 0 (cs.take k)=some t):comeS 0 (cs.take (k+1))=if (t:Int)+1<(cAt cs k).p.lk then none else some (max t (cAt cs k).p.lk.toNat):=by
 rw [List.take_succ_eq_append_getElem hk,comeS_snoc,h,cAt_lt hk]
 rfl
theorem comeS_none {cs:List Ce} {k:Nat} (h:comeS 0 (cs.take k)=none):comeS 0 cs=none:=by
 rw [← List.take_append_drop k cs,comeS_append,h]
 rfl
theorem ord_long {cs:List Ce} {l:List ByteArray} (h:¬ l.length≤16):ordC cs l=false:=by unfold ordC;rw [decide_eq_false h];rfl
theorem ord_bad {cs:List Ce} {l:List ByteArray} {s:ByteArray} (hs:s∈l) (h:mayT s=false):ordC cs l=false:=by
 unfold ordC
 rw [decide_eq_false (show ¬ ∀ s∈l,mayT s=true from fun x=>by rw [x s hs] at h;cases h)]
 simp
theorem ord_twice {cs:List Ce} {l:List ByteArray} (h:¬ l.Nodup):ordC cs l=false:=by
 unfold ordC
 rw [decide_eq_false h]
 simp
theorem ord_come {cs:List Ce} {l:List ByteArray} (h:comeS 0 cs=none):ordC cs l=false:=by unfold ordC;rw [h];simp
theorem ord_all {cs:List Ce} {l:List ByteArray} {t:Nat} (h1:l.length≤16) (h2:∀ s∈l,mayT s=true) (h3:l.Nodup) (h4:comeS 0 cs=some t):ordC cs l=decide ((t:Int)=(l.length:Int)):=by
 unfold ordC
 rw [decide_eq_true h1,decide_eq_true h2,decide_eq_true h3,h4]
 simp only [Bool.and_true,Bool.true_and,Option.some.injEq]
 rw [decide_eq_decide]
 omega
theorem nodup_take_snoc {l:List ByteArray} {k:Nat} (hk:k<l.length) (h:(l.take k).Nodup) (hn:sAt l k ∉ l.take k):(l.take (k+1)).Nodup:=by
 rw [take_snocT hk,List.nodup_append]
 refine ⟨h,by simp,fun x hx y hy e=>hn ?_⟩
 rw [← List.mem_singleton.1 hy,← e]
 exact hx
set_option maxHeartbeats 4000000 in
theorem lRight_any {w:World} {A A':Option Addr} {n c m c':Nat} {cs:List Ce} {L:List ByteArray} (h:Vs ceV w A n cs) (h':Vs stV w A' m L) (hl:∀ x∈cs,0≤x.p.lk∧x.p.lk≤65535) (hs:∀ s∈L,s.size≤140737488351232) (hn:n≤60000) (hm:m≤60000) (hmc:m≤c') :
  Calls Tryz.prog 55 #[.slice A n c,.slice A' m c'] w fun e w'=>e=.returned (.bool (ordC cs L))∧Below w.heap.size w w':=by
 obtain rfl:=h.len
 obtain rfl:=h'.len
 have H:=Lib.hid (And.intro h h')
 have HL:=Lib.hid (And.intro hl hs)
 clear h h' hl hs
 by_cases h16:L.length≤16
 · go_enter Tryz.func55,Tryz.ntmps55
   go_wp2
   go_loop [16] (fun i=>∃ k:Nat,k≤L.length∧i=.int .i64 k∧(∀ s∈L.take k,mayT s=true)∧(L.take k).Nodup) (fun i=>L.length-(intOf i).toNat)
   case atStart=>exact ⟨0,Nat.zero_le _,rfl,by simp,by simp⟩
   case round =>
    obtain ⟨k,hk,rfl,h1,h2⟩:=hrel
    have Y:=Lib.hid (And.intro h1 h2)
    clear h1 h2
    by_cases hlt:k<L.length
    · obtain ⟨ad,rfl⟩:=H.out.2.addr (by omega)
      have hc:=H.out.2.str hlt
      have hx:=HL.out.2 _ (sAt_mem hlt)
      have HM:=Lib.hid (sAt_mem hlt)
      have HT:=Lib.hid (take_snocT hlt)
      have HND:=Lib.hid (nodup_take_snoc hlt Y.out.2)
      have HF:=Lib.hid (H.out.2.front stV_len (k:=k) hk)
      have hin:Hid (sAt L k∈L.take k→¬ L.Nodup):=Lib.hid (fun hi hd=>not_in_take hd hlt hi)
      generalize sAt L k=x at hc hx HM HT HND hin
      go_wp2_with fail
      refine (mayT_any x _ hx).mono ?_
      rintro e w' ⟨rfl,rfl⟩
      cases hmx:mayT x
      · have X:Hid (ordC cs L=false):=Lib.hid (ord_bad HM.out hmx)
        clear hmx
        go_wp2_with fail
        go_ret
        exact ⟨retBR X.out.symm,Below.refl _ _⟩
      · have HMX:=Lib.hid hmx
        clear hmx
        go_wp2_with fail
        refine (hasT_any HF.out x (by omega)).mono ?_
        rintro e w' ⟨rfl,rfl⟩
        by_cases hp:x∈L.take k
        · have X:Hid (ordC cs L=false):=Lib.hid (ord_twice (hin.out hp))
          have e1:decide (0≤placeI (L.take k) x)=true:=by
           obtain ⟨j,_,e,_,_⟩:=placeI_mem hp
           rw [e];simp
          rw [e1]
          clear e1 hp
          go_wp2_with fail
          go_ret
          exact ⟨retBR X.out.symm,Below.refl _ _⟩
        · have e1:decide (0≤placeI (L.take k) x)=false:=by rw [placeI_none.2 hp];decide
          rw [e1]
          have HP:=Lib.hid hp
          clear e1 hp
          go_wp2_with fail
          go_round
          case rel =>
           refine ⟨k+1,by omega,by go_num,?_,HND.out HP.out⟩
           rw [HT.out]
           intro s hs
           rcases List.mem_append.1 hs with hs | hs
           · exact Y.out.1 s hs
           · rw [List.mem_singleton.1 hs];exact HMX.out
          case measure=>simp [intOf];omega
    · have e:L.take k=L:=List.take_of_length_le (by omega)
      rw [e] at Y
      clear e
      go_wp2_with fail
      go_loopw [7,34] (fun o i wr=>∃ (k t:Nat),k≤cs.length∧t≤65535∧i=.int .i64 k∧o=.int .i64 t∧comeS 0 (cs.take k)=some t∧Below w.heap.size w wr) (fun _ i _=>cs.length-(intOf i).toNat)
      case atStart=>exact ⟨0,0,Nat.zero_le _,by omega,rfl,rfl,rfl,Below.refl _ _⟩
      case round =>
       obtain ⟨k,t,hk,ht,rfl,rfl,hcm,hb⟩:=hrel
       have Z:=Lib.hid (And.intro hcm hb)
       clear hcm hb
       by_cases hlt:k<cs.length
       · obtain ⟨ad,rfl⟩:=H.out.1.addr (by omega)
         obtain ⟨hc0,hc1,hc2,hc3,hc4,hc5⟩:=(H.out.1.below Z.out.2).six hlt
         have hlk:=HL.out.1 (cAt cs k) (by rw [cAt_lt hlt];exact List.getElem_mem _)
         have HC:=Lib.hid (comeS_step hlt Z.out.1)
         generalize cAt cs k=x at hc0 hc1 hc2 hc3 hc4 hc5 hlk HC
         obtain ⟨q,hq⟩:∃ q:Nat,x.p.lk=(q:Int):=⟨x.p.lk.toNat,by omega⟩
         rw [hq] at hc5 hlk HC
         have hq1:q≤65535:=by omega
         have HB1:=Lib.hid (Z.out.2.alloc Z.out.2.size (.cells #[.int .i32 x.r,.int .u8 x.wd,.int .u32 x.p.fg,.int .u32 x.p.bg,.int .u8 x.p.st,.int .u16 q] 43))
         clear hlk hq
         by_cases hgt:(t:Int)+1<(q:Int)
         · have X:Hid (ordC cs L=false):=Lib.hid (ord_come (comeS_none (HC.out.trans (if_pos hgt))))
           go_wp2_with fail
           go_ret
           exact ⟨retBR X.out.symm,HB1.out⟩
         · have HC1:Hid (comeS 0 (cs.take (k+1))=some (max t q)):=Lib.hid (HC.out.trans (if_neg hgt))
           have hmax:max (t:Int) (q:Int)=((max t q:Nat):Int):=by omega
           have htq:max t q≤65535:=by omega
           generalize max t q=t' at HC1 hmax htq
           go_wp2_with fail
           go_roundw
           case rel=>exact ⟨k+1,t',by omega,htq,by go_num,rfl,HC1.out,HB1.out⟩
           case measure=>simp [intOf];omega
       · have e:cs.take k=cs:=List.take_of_length_le (by omega)
         have X:Hid (ordC cs L=decide ((t:Int)=(L.length:Int))):=Lib.hid (ord_all h16 Y.out.1 Y.out.2 (by rw [← e];exact Z.out.1))
         clear e
         go_wp2_with fail
         go_ret
         exact ⟨retBR (X.out.trans (by first | rfl | (rw [Bool.eq_iff_iff];simp))).symm,Z.out.2⟩
 · have X:Hid (ordC cs L=false):=Lib.hid (ord_long h16)
   have hgt:(16:Int)<(L.length:Int):=by omega
   go_enter Tryz.func55,Tryz.ntmps55
   go_wp2_with fail
   go_ret
   exact ⟨retBR X.out.symm,Below.refl _ _⟩
open Go.RowKit
structure ScR where
 c:Int
 r:Int
 A:Option Addr
 n:Nat
 k:Nat
 x:Int
 y:Int
 hid:Bool
 mouse:Int
 ttl:ByteArray
 T:Option Addr
 m:Nat
 q:Nat
def scrA (s:ScR):Array Value:=#[.int .i64 s.c,.int .i64 s.r,.slice s.A s.n s.k,.int .i64 s.x,.int .i64 s.y,.bool s.hid,.int .u8 s.mouse,.string s.ttl,.slice s.T s.m s.q]
structure ScIn (w:World) (s:ScR) (S:Sc):Prop where
 c:S.c=s.c
 r:S.r=s.r
 x:S.x=s.x
 y:S.y=s.y
 hid:S.hid=s.hid
 mouse:S.mouse=s.mouse
 ttl:S.title=sL s.ttl
 cells:Vs ceV w s.A s.n S.cells
 links:Vs stV w s.T s.m S.links
 nk:s.n≤s.k
 n9:s.n≤9223372036854775807
 mq:s.m≤s.q
 lk:∀ x∈S.cells,0≤x.p.lk∧x.p.lk≤65535
 sz:∀ u∈S.links,u.size≤140737488351232
 tz:s.ttl.size≤140737488351232
theorem ScIn.below {w w':World} {s:ScR} {S:Sc} (h:ScIn w s S) (hb:Below w.heap.size w w'):ScIn w' s S:={ h with cells:=h.cells.below hb,links:=h.links.below hb }
theorem right_is (S:Sc):rightSc S=(gridMay S.c S.r S.cells && ordS S.cells S.links && tMay S.title && decide (S.mouse≤2) && decide (0≤S.x) && decide (S.x<S.c) && decide (0≤S.y) && decide (S.y<S.r)):=by
 unfold rightSc tMay
 rw [Bool.eq_iff_iff]
 simp only [Bool.and_eq_true,decide_eq_true_eq]
 constructor
 · rintro ⟨⟨⟨⟨⟨⟨h1,h2⟩,h3⟩,h4⟩,h5⟩,h6⟩,h7⟩
   exact ⟨⟨⟨⟨⟨⟨⟨h1,h2⟩,⟨⟨h5,h6⟩,h7⟩⟩,h4⟩,h3.1⟩,h3.2.1⟩,h3.2.2.1⟩,h3.2.2.2⟩
 · rintro ⟨⟨⟨⟨⟨⟨⟨h1,h2⟩,⟨⟨h5,h6⟩,h7⟩⟩,h4⟩,h8⟩,h9⟩,h10⟩,h11⟩
   exact ⟨⟨⟨⟨⟨⟨h1,h2⟩,h8,h9,h10,h11⟩,h4⟩,h5⟩,h6⟩,h7⟩
set_option maxHeartbeats 6400000 in
set_option maxRecDepth 100000 in
theorem rightT_any {w:World} {s:ScR} {S:Sc} (hT:Tabs w) (h:ScIn w s S) (hn:s.n≤60000) (hm:s.m≤60000) :
  Calls Tryz.prog 29 #[.agg (scrA s)] w fun e w'=>e=.returned (.bool (rightSc S))∧Below w.heap.size w w':=by
 have HR:=Lib.hid (right_is S)
 generalize rightSc S=RS at HR ⊢
 have HT:=Lib.hid hT
 have HS:=Lib.hid h
 obtain ⟨b,hb⟩:∃ b,b=w.heap.size:=⟨_,rfl⟩
 obtain ⟨w1,hw1⟩:∃ w1,w1=w.alloc (.cells (scrA s) 25):=⟨_,rfl⟩
 obtain ⟨w2,hw2⟩:∃ w2,w2=w1.alloc (.cells (gV s.c s.r s.A s.n s.k) 58):=⟨_,rfl⟩
 have hb1:Below w.heap.size w w1:=by rw [hw1];exact (Below.refl _ _).alloc (Nat.le_refl _) _
 have hb2:Below w.heap.size w w2:=by rw [hw2];exact hb1.alloc hb1.size _
 have h12:Below w1.heap.size w1 w2:=by rw [hw2];exact (Below.refl _ _).alloc (Nat.le_refl _) _
 have hlt:b<w1.heap.size:=by rw [hw1,hb];simp
 have H1:∀ k v,(scrA s)[k]?=some v→w1.cell? ⟨b,k,none⟩=some v:=fun k v hv=>by
  rw [hw1,hb]
  exact newCell w _ _ k hv
 have HC:=Lib.hid (show ∀ w',Below w2.heap.size w2 w'→w'.cell? ⟨b,0,none⟩=some (.int .i64 s.c)∧w'.cell? ⟨b,1,none⟩=some (.int .i64 s.r)∧w'.cell? ⟨b,2,none⟩=some (.slice s.A s.n s.k)∧w'.cell? ⟨b,3,none⟩=some (.int .i64 s.x)∧w'.cell? ⟨b,4,none⟩=some (.int .i64 s.y)∧w'.cell? ⟨b,6,none⟩=some (.int .u8 s.mouse)∧w'.cell? ⟨b,7,none⟩=some (.string s.ttl)∧w'.cell? ⟨b,8,none⟩=some (.slice s.T s.m s.q) from fun w' hb'=>by
  have hs:=h12.size
  have hc:∀ k,w'.cell? ⟨b,k,none⟩=w1.cell? ⟨b,k,none⟩:=fun k=>(hb'.cell (p:=⟨b,k,none⟩) (by show b<_;omega)).trans (h12.cell (p:=⟨b,k,none⟩) hlt)
  simp only [hc]
  exact ⟨H1 0 _ rfl,H1 1 _ rfl,H1 2 _ rfl,H1 3 _ rfl,H1 4 _ rfl,H1 6 _ rfl,H1 7 _ rfl,H1 8 _ rfl⟩)
 have c0:w1.cell? ⟨b,0,none⟩=some (.int .i64 s.c):=H1 0 _ rfl
 have c1:w1.cell? ⟨b,1,none⟩=some (.int .i64 s.r):=H1 1 _ rfl
 have c2:w1.cell? ⟨b,2,none⟩=some (.slice s.A s.n s.k):=H1 2 _ rfl
 have HBZ:=Lib.hid hb2
 have HM:=Lib.hid (gMay_any (c:=s.c) (r:=s.r) (k:=s.k) (HS.out.cells.below hb2) (HT.out.below hb2 (Nat.le_refl _)) HS.out.nk HS.out.n9)
 have HLK:=Lib.hid (fun w' (hb':Below w.heap.size w w')=>lRight_any (c:=s.k) (HS.out.cells.below hb') (HS.out.links.below hb') HS.out.lk HS.out.sz hn hm HS.out.mq)
 rw [ord_is (fun x hx=>(HS.out.lk x hx).1)] at HLK
 have HTM:=Lib.hid (fun w' (hb':Below w.heap.size w w')=>titleMay_any s.ttl (HT.out.below hb' (Nat.le_refl _)) HS.out.tz)
 rw [HS.out.c,HS.out.r,HS.out.x,HS.out.y,HS.out.mouse,HS.out.ttl] at HR
 obtain ⟨MM,hMM⟩:∃ MM,gridMay s.c s.r S.cells=MM:=⟨_,rfl⟩
 obtain ⟨OO,hOO⟩:∃ OO,ordS S.cells S.links=OO:=⟨_,rfl⟩
 obtain ⟨TT,hTT⟩:∃ TT,tMay (sL s.ttl)=TT:=⟨_,rfl⟩
 rw [hMM] at HM HR
 rw [hOO] at HLK HR
 rw [hTT] at HTM HR
 clear hT h hb1 h12 hlt H1 hMM hOO hTT hb2 hn hm
 have hgv:gV s.c s.r s.A s.n s.k=#[.int .i64 s.c,.int .i64 s.r,.slice s.A s.n s.k]:=rfl
 rw [hgv] at hw2 HM
 clear hgv
 unfold scrA at hw1 ⊢
 go_enter Tryz.func29,Tryz.ntmps29
 go_upto_region 1 with fail
 rw [← hw1,← hb]
 clear hw1 hb
 go_upto_region 2 with fail
 obtain ⟨b2,hbb⟩:∃ b2,b2=w1.heap.size:=⟨_,rfl⟩
 have HD:=Lib.hid (show w2.cell? ⟨b2,0,none⟩=some (.int .i64 s.c)∧w2.cell? ⟨b2,1,none⟩=some (.int .i64 s.r)∧w2.cell? ⟨b2,2,none⟩=some (.slice s.A s.n s.k) from by
  rw [hw2,hbb]
  exact ⟨newCell w1 _ _ 0 rfl,newCell w1 _ _ 1 rfl,newCell w1 _ _ 2 rfl⟩)
 rw [← hw2,← hbb]
 clear hw2 hbb c0 c1 c2
 obtain ⟨d0,d1,d2⟩:=HD.out
 go_wp2_with fail
 refine HM.out.mono ?_
 rintro e w3 ⟨rfl,hb3⟩
 have H3:=Lib.hid (HBZ.out.trans (hb3.mono HBZ.out.size))
 have H23:=Lib.hid hb3
 obtain ⟨a0,a1,a2,a3,a4,a6,a7,a8⟩:=HC.out w3 hb3
 clear hb3 d0 d1 d2
 cases MM
 · have E:=Lib.hid (show RS=false from by rw [HR.out];simp)
   go_wp2_with fail
   go_ret
   exact ⟨by rw [E.out];rfl,H3.out⟩
 go_wp2_with fail
 refine (HLK.out w3 H3.out).mono ?_
 rintro e w4 ⟨rfl,hb4⟩
 have H4:=Lib.hid (H3.out.trans (hb4.mono H3.out.size))
 have H24:=Lib.hid (H23.out.trans (hb4.mono H23.out.size))
 clear hb4 a0 a1 a2 a3 a4 a6 a7 a8
 obtain ⟨a0,a1,a2,a3,a4,a6,a7,a8⟩:=HC.out w4 H24.out
 cases OO
 · have E:=Lib.hid (show RS=false from by rw [HR.out];simp)
   go_wp2_with fail
   go_ret
   exact ⟨by rw [E.out];rfl,H4.out⟩
 go_wp2_with fail
 refine (HTM.out w4 H4.out).mono ?_
 rintro e w5 ⟨rfl,hb5⟩
 have H5:=Lib.hid (H4.out.trans (hb5.mono H4.out.size))
 have H25:=Lib.hid (H24.out.trans (hb5.mono H24.out.size))
 clear hb5 a0 a1 a2 a3 a4 a6 a7 a8
 obtain ⟨a0,a1,a2,a3,a4,a6,a7,a8⟩:=HC.out w5 H25.out
 cases TT
 · have E:=Lib.hid (show RS=false from by rw [HR.out];simp)
   go_wp2_with fail
   go_ret
   exact ⟨by rw [E.out];rfl,H5.out⟩
 by_cases hm:s.mouse≤2
 case neg =>
  have E:=Lib.hid (show RS=false from by rw [HR.out,decide_eq_false hm];simp)
  go_wp2_with fail
  go_ret
  exact ⟨by rw [E.out];rfl,H5.out⟩
 by_cases hx0:0≤s.x
 case neg =>
  have E:=Lib.hid (show RS=false from by rw [HR.out,decide_eq_false hx0];simp)
  go_wp2_with fail
  go_ret
  exact ⟨by rw [E.out];rfl,H5.out⟩
 by_cases hx1:s.x<s.c
 case neg =>
  have E:=Lib.hid (show RS=false from by rw [HR.out,decide_eq_false hx1];simp)
  go_wp2_with fail
  go_ret
  exact ⟨by rw [E.out];rfl,H5.out⟩
 by_cases hy0:0≤s.y
 case neg =>
  have E:=Lib.hid (show RS=false from by rw [HR.out,decide_eq_false hy0];simp)
  go_wp2_with fail
  go_ret
  exact ⟨by rw [E.out];rfl,H5.out⟩
 by_cases hy1:s.y<s.r
 case neg =>
  have E:=Lib.hid (show RS=false from by rw [HR.out,decide_eq_false hy1];simp)
  go_wp2_with fail
  go_ret
  exact ⟨by rw [E.out,decide_eq_false (Int.not_lt.2 hy1)];rfl,H5.out⟩
 have E:=Lib.hid (show RS=true from by rw [HR.out,decide_eq_true hm,decide_eq_true hx0,decide_eq_true hx1,decide_eq_true hy0,decide_eq_true hy1];rfl)
 go_wp2_with fail
 go_ret
 exact ⟨by rw [E.out];rfl,H5.out⟩
open Go.RowKit
section
variable {B:Nat} {w:World} {g:Nat} {x:CT} {A:Option Addr} {n c:Nat} {ps:List Int}
theorem scZ_one:scZ.all (·.oneCell')=true:=by
 rw [Array.all_eq_true_iff_forall_mem]
 intro v hv
 simp only [scZ,List.mem_toArray,List.mem_cons,List.not_mem_nil,or_false] at hv
 rcases hv with rfl | rfl | rfl | rfl | rfl | rfl | rfl | rfl | rfl<;>rfl
set_option maxRecDepth 100000 in
theorem screenNil_any (w:World):Calls Tryz.prog 51 #[.pointer none] w fun e w'=>e=.returned (.agg scZ)∧Below w.heap.size w w':=by
 obtain ⟨w1,hw1⟩:∃ w1,w1=w.alloc (.cells scZ 25):=⟨_,rfl⟩
 have H1:=Lib.hid (show Below w.heap.size w w1∧w1.heap[w.heap.size]?=some (.cells scZ 25 (0,0)) from by rw [hw1];exact ⟨(Below.refl _ _).alloc (Nat.le_refl _) _,heap_alloc_new w _⟩)
 unfold scZ at hw1
 go_enter Tryz.func51,Tryz.ntmps51
 go_upto_region 1 with fail
 rw [← hw1]
 clear hw1
 go_wp2_with (refine wpList_store_row rfl 25 (.tmp 2) (.tmp 8) rfl w.heap.size scZ rfl rfl 25 scZ H1.out.2 info56 rfl scZ_one ?_)
 refine bodyPost_ret (results_cell_row rfl _ _ w.heap.size 25 scZ (0,0) _ rfl (setRow_heap w1 _ _ _ _ _ H1.out.2) Tryz.underlying25 rfl info56) rfl ?_
 exact ⟨rfl,below_setRow H1.out.1 (Nat.le_refl _) _⟩
end
def PRow (P:Int→Prop) (L:List Ce):Prop:=∀ c∈L,P c.p.lk
def PRws (P:Int→Prop) (LL:Rws):Prop:=∀ L∈LL,PRow P L
section
variable {P:Int→Prop} {L M:List Ce} {LL:Rws}
theorem prow_rep {n:Nat} {c:Ce} (h:P c.p.lk):PRow P (List.replicate n c):=fun d hd=>by rw [List.eq_of_mem_replicate hd];exact h
theorem prws_blank (h0:P 0) (c r:Nat):PRws P (blankR c r):=fun L hL=>by rw [List.eq_of_mem_replicate hL];exact prow_rep h0
theorem prws_flat (h:PRws P LL):∀ c∈LL.flatten,P c.p.lk:=fun c hc=>by
 obtain ⟨L,hL,hc⟩:=List.mem_flatten.1 hc
 exact h L hL c hc
end
theorem leads_inv {t:List ByteArray} {n:Int} (h:leadsS t n≠eT):∃ k:Nat,n=(k:Int)+1∧k<t.length∧sAt t k≠eT:=by
 by_cases h1:n<1∨(t.length:Int)<n
 · exact absurd (leads_out h1) h
 · refine ⟨n.toNat-1,by omega,by omega,fun e=>h ?_⟩
   unfold leadsS textI
   rw [if_neg h1,e,if_neg (by rw [eT_not];simp)]
/-! ### Links that lead somewhere -/
def LkP (tb:List ByteArray) (n:Int):Prop:=n=0∨leadsS tb n≠eT
structure LkOk (t:Tm):Prop where
 main:PRws (LkP t.table) t.main
 other:PRws (LkP t.table) t.other
 pen:LkP t.table t.now.pen.lk
 sav:LkP t.table t.sav.pen.lk
namespace LkOk
variable {t u:Tm}
theorem shown (h:LkOk t):PRws (LkP t.table) t.shown:=by unfold Tm.shown;split;exact h.other;exact h.main
theorem fresh (c r:Nat):LkOk (tmNew c r):=⟨prws_blank (.inl rfl) c r,prws_blank (.inl rfl) c r,.inl rfl,.inl rfl⟩
end LkOk
open Go.RowKit
section
variable {B:Nat} {w:World} {g:Nat} {x:CT}
theorem LkP.rng {tb:List ByteArray} {n:Int} (h:LkP tb n) (ht:tb.length≤16):0≤n∧n≤65535:=by
 rcases h with rfl | h
 · omega
 · obtain ⟨k,rfl,hk,_⟩:=leads_inv h
   omega
end
open Go.RowKit
theorem u8_nil:U8s []:=fun z hz=>by cases hz
structure Sane (t:Tm):Prop where
 lk:LkOk t
 tx:U8s t.p.tx
namespace Sane
variable {t:Tm}
theorem fresh (c r:Nat):Sane (tmNew c r):=⟨LkOk.fresh c r,u8_nil⟩
end Sane
open Go.RowKit
theorem numI_rng (l:List ByteArray) (s:ByteArray):0≤numI l s∧numI l s≤l.length:=by
 unfold numI
 have h1:=placeI_ge l s
 have h2:=placeI_lt l s
 split<;>omega
section
variable {B:Nat} {w:World} {g:Nat} {x:CT}
structure ScOwn (base:Nat) (w:World) (s:ScR) (S:Sc):Prop where
 sc:ScIn w s S
 cx:Cx base w s.A s.n s.k S.cells
 tx:Tx base w s.T s.m s.q S.links
 n:s.n≤1920
 m:s.m≤16
theorem ScOwn.below {base:Nat} {w w':World} {s:ScR} {S:Sc} (h:ScOwn base w s S) (hb:Below w.heap.size w w'):ScOwn base w' s S:=⟨h.sc.below hb,h.cx.below hb,h.tx.below hb,h.n,h.m⟩
theorem screenS_any (h:Cz B w g x) (hs:Sane x.t):Calls Tryz.prog 51 #[.pointer (some ⟨g,0,none⟩)] w fun e w'=>Below w.heap.size w w'∧∃ s:ScR,e=.returned (.agg (scrA s))∧ScOwn w.heap.size w' s x.t.screen:=by
 have htb:=h.ok.tbl
 refine (screen_any h fun ce hce=>(prws_flat hs.lk.shown ce hce).rng htb).mono ?_
 rintro e w' ⟨hb,A,c,A',c',rfl,hc,ht⟩
 have hl:=canonL_le x.t.shown.flatten x.t.table
 have hcl:(canonC x.t.shown.flatten x.t.table).length≤1920:=by rw [canonC_len,h.ok.shown.box.flen];exact h.ok.shown.small
 have hml:=h.ok.title
 have htl:x.ttl.size≤64:=by rw [← sL_len,h.tl];exact hml.1
 refine ⟨hb,⟨x.t.c,x.t.r,A,_,c,x.t.now.x,x.t.now.y,x.t.hid,x.t.mouse,x.ttl,A',_,c'⟩,rfl,⟨⟨rfl,rfl,rfl,rfl,rfl,rfl,h.tl.symm,hc.vs,ht.vs,hc.le,by show (canonC _ _).length≤_;omega,ht.le,?_,?_,by show x.ttl.size≤_;omega⟩,hc,ht,hcl,by show (canonL _ _).length≤16;omega⟩⟩
 · intro y hy
   obtain ⟨z,_,rfl⟩:=List.mem_map.1 hy
   have:=numI_rng (canonL x.t.shown.flatten x.t.table) (leadsS x.t.table z.p.lk)
   show 0≤numI _ _∧numI _ _≤65535
   omega
 · intro u hu
   have:=h.bs u (canonL_may hu).2
   omega
structure ScC (w:World) (b:Nat) (s:ScR):Prop where
 c0:w.cell? ⟨b,0,none⟩=some (.int .i64 s.c)
 c1:w.cell? ⟨b,1,none⟩=some (.int .i64 s.r)
 c2:w.cell? ⟨b,2,none⟩=some (.slice s.A s.n s.k)
 c3:w.cell? ⟨b,3,none⟩=some (.int .i64 s.x)
 c4:w.cell? ⟨b,4,none⟩=some (.int .i64 s.y)
 c5:w.cell? ⟨b,5,none⟩=some (.bool s.hid)
 c6:w.cell? ⟨b,6,none⟩=some (.int .u8 s.mouse)
 c7:w.cell? ⟨b,7,none⟩=some (.string s.ttl)
 c8:w.cell? ⟨b,8,none⟩=some (.slice s.T s.m s.q)
 lt:b<w.heap.size
theorem ScC.new (w:World) (s:ScR):ScC (w.alloc (.cells (scrA s) 25)) w.heap.size s :=
 ⟨newCell w _ _ 0 rfl,newCell w _ _ 1 rfl,newCell w _ _ 2 rfl,newCell w _ _ 3 rfl,newCell w _ _ 4 rfl,newCell w _ _ 5 rfl,newCell w _ _ 6 rfl,newCell w _ _ 7 rfl,newCell w _ _ 8 rfl,by simp⟩
theorem ScC.keep {w w':World} {b:Nat} {s:ScR} (h:ScC w b s) (hs:w.heap.size≤w'.heap.size) (hb:w'.heap[b]?=w.heap[b]?):ScC w' b s:=by
 have hc:∀ k,w'.cell? ⟨b,k,none⟩=w.cell? ⟨b,k,none⟩:=fun k=>World.cell?_of_block hb
 exact ⟨(hc 0).trans h.c0,(hc 1).trans h.c1,(hc 2).trans h.c2,(hc 3).trans h.c3,(hc 4).trans h.c4,(hc 5).trans h.c5,(hc 6).trans h.c6,(hc 7).trans h.c7,(hc 8).trans h.c8,Nat.lt_of_lt_of_le h.lt hs⟩
theorem ScC.below {w w':World} {b:Nat} {s:ScR} (h:ScC w b s) (hb:Below w.heap.size w w'):ScC w' b s:=h.keep hb.size (hb.block b h.lt)
end
open Go.RowKit
abbrev Cb (w:World) (g:Nat) (x:Ce):Prop:=Rw ceV 43 w g [x]
theorem Cb.new (w:World) (x:Ce):Cb (w.alloc (.cells (ceA x) 43)) w.heap.size x:=made_rw (f:=ceV) w 43 [x]
theorem Cb.all {w:World} {g:Nat} {x:Ce} (h:Cb w g x):w.cell? ⟨g,0,none⟩=some (.int .i32 x.r)∧w.cell? ⟨g,1,none⟩=some (.int .u8 x.wd)∧w.cell? ⟨g,2,none⟩=some (.int .u32 x.p.fg)∧w.cell? ⟨g,3,none⟩=some (.int .u32 x.p.bg)∧w.cell? ⟨g,4,none⟩=some (.int .u8 x.p.st)∧w.cell? ⟨g,5,none⟩=some (.int .u16 x.p.lk) :=
 ⟨h.cell (j:=0) rfl,h.cell (j:=1) rfl,h.cell (j:=2) rfl,h.cell (j:=3) rfl,h.cell (j:=4) rfl,h.cell (j:=5) rfl⟩
theorem Cx.grownP {base:Nat} {w w':World} {A:Option Addr} {n c:Nat} {L:List Ce} (h:Cx base w A n c L) {row:Option Nat} (hg:w.grownBy w' row) (hne:0<n→∀ g,A=some ⟨g,0,none⟩→row≠some g):Cx base w' A n c L :=
 ⟨h.len,h.le,h.max,fun hn=>by obtain ⟨g,e,hb,hR⟩:=h.own hn;exact ⟨g,e,hb,hR.grown hg (hne hn g e)⟩⟩
open Go.RowKit
theorem two_new (w:World) (c r:Int) (A:Option Addr) (n k:Nat) (c' r':Int) (A':Option Addr) (n' k':Nat) :
  G3 ((w.alloc (.cells (gV c r A n k) 58)).alloc (.cells (gV c' r' A' n' k') 58)) w.heap.size c r A n k ∧
  G3 ((w.alloc (.cells (gV c r A n k) 58)).alloc (.cells (gV c' r' A' n' k') 58)) (w.heap.size+1) c' r' A' n' k' ∧
  Below w.heap.size w ((w.alloc (.cells (gV c r A n k) 58)).alloc (.cells (gV c' r' A' n' k') 58)):=by
 have h2:=g3_new (w.alloc (.cells (gV c r A n k) 58)) c' r' A' n' k' 58
 rw [alloc_size] at h2
 exact ⟨(g3_new w c r A n k 58).below (below1 _ _),h2,(below1 w _).alloc (below1 w _).size _⟩
set_option maxHeartbeats 1600000 in
theorem sameG_any {w:World} {A A':Option Addr} {n n' k k':Nat} {c r c' r':Int} {L L':List Ce} (h:Vs ceV w A n L) (h':Vs ceV w A' n' L') (hn:n≤1000000) (hn':n'≤9223372036854775807) {B:Bool} (hB:decide (c=c'∧r=r'∧L=L')=B) :
  Calls Tryz.prog 23 #[.agg (gV c r A n k),.agg (gV c' r' A' n' k')] w fun e w'=>e=.returned (.bool B)∧Below w.heap.size w w':=by
 obtain ⟨w0,hw0⟩:∃ w0,w0=(w.alloc (.cells (gV c r A n k) 58)).alloc (.cells (gV c' r' A' n' k') 58):=⟨_,rfl⟩
 obtain ⟨b,hbe⟩:∃ b,b=w.heap.size:=⟨_,rfl⟩
 have H:=Lib.hid (show G3 w0 b c r A n k∧G3 w0 (b+1) c' r' A' n' k'∧Below w.heap.size w w0∧Vs ceV w0 A n L∧Vs ceV w0 A' n' L' from by
  obtain ⟨h1,h2,h3⟩:=two_new w c r A n k c' r' A' n' k'
  rw [hw0,hbe]
  exact ⟨h1,h2,h3,h.below h3,h'.below h3⟩)
 clear h h'
 obtain ⟨c0,c1,c2,_⟩:=H.out.1
 obtain ⟨d0,d1,d2,_⟩:=H.out.2.1
 unfold gV at hw0
 by_cases e1:c=c'
 · subst e1
   by_cases e2:r=r'
   · subst e2
     obtain ⟨B2,hB2⟩:∃ B2,decide (L=L')=B2:=⟨_,rfl⟩
     have HB:=Lib.hid (show B2=B from by rw [← hB,← hB2];simp)
     have HB2:=Lib.hid hB2
     clear hB hB2
     go_enter Tryz.func23,Tryz.ntmps23
     unfold gV
     go_upto_region 1 with fail
     rw [← hw0,← hbe]
     clear hw0 hbe
     go_wp2_with fail
     refine (sameC_any H.out.2.2.2.1 H.out.2.2.2.2 hn hn').mono ?_
     rintro e w1 ⟨rfl,q,rfl⟩
     rw [HB2.out]
     clear c0 c1 c2 d0 d1 d2
     go_wp2_with fail
     go_ret
     exact ⟨by rw [HB.out];rfl,belowN H.out.2.2.1 q⟩
   · have HB:=Lib.hid (show B=false from by rw [← hB];simp [e2])
     have e3:(r == r')=false:=by simpa using e2
     clear hB
     go_enter Tryz.func23,Tryz.ntmps23
     unfold gV
     go_upto_region 1 with fail
     rw [← hw0,← hbe]
     clear hw0 hbe
     go_wp2_with fail
     go_ret
     exact ⟨by rw [HB.out];rfl,H.out.2.2.1⟩
 · have HB:=Lib.hid (show B=false from by rw [← hB];simp [e1])
   have e3:(c == c')=false:=by simpa using e1
   clear hB
   go_enter Tryz.func23,Tryz.ntmps23
   unfold gV
   go_upto_region 1 with fail
   rw [← hw0,← hbe]
   clear hw0 hbe
   go_wp2_with fail
   go_ret
   exact ⟨by rw [HB.out];rfl,H.out.2.2.1⟩
open Go.RowKit
theorem sL_inj {a b:ByteArray} (h:sL a=sL b):a=b:=by
 apply ByteArray.ext
 rw [← Array.toList_inj]
 have hf:Function.Injective (fun b:UInt8=>(b.toNat:Int)):=fun a b e=>UInt8.toNat_inj.1 (Int.ofNat.inj e)
 exact (List.map_inj_right fun x y e=>hf e).1 h
section
variable {w:World} {s s':ScR} {S:Sc}
theorem ScIn.alike (h:ScIn w s S) (k:ScIn w s' S):∃ A n q T m p,s'={ s with A:=A,n:=n,k:=q,T:=T,m:=m,q:=p }:=by
 obtain ⟨c,r,A,n,kk,x,y,hid,mo,ttl,T,m,q⟩:=s
 obtain ⟨c',r',A',n',kk',x',y',hid',mo',ttl',T',m',q'⟩:=s'
 have e1:=h.c.symm.trans k.c
 have e2:=h.r.symm.trans k.r
 have e3:=h.x.symm.trans k.x
 have e4:=h.y.symm.trans k.y
 have e5:=h.hid.symm.trans k.hid
 have e6:=h.mouse.symm.trans k.mouse
 have e7:=sL_inj (h.ttl.symm.trans k.ttl)
 simp only at e1 e2 e3 e4 e5 e6 e7
 subst e1 e2 e3 e4 e5 e6 e7
 exact ⟨A',n',kk',T',m',q',rfl⟩
set_option maxHeartbeats 6400000 in
set_option maxRecDepth 100000 in
theorem refSameS_any (h:ScIn w s S) (k:ScIn w s' S) (hn:s.n≤60000) (hn':s'.n≤60000) (hm:s.m≤60000) (hm':s'.m≤60000) :
  Calls Tryz.prog 11 #[.agg (scrA s),.agg (scrA s')] w fun e w'=>e=.returned (.bool true)∧Below w.heap.size w w':=by
 obtain ⟨A,n,q,T,m,p,rfl⟩:=h.alike k
 obtain ⟨b,hb⟩:∃ b,b=w.heap.size:=⟨_,rfl⟩
 obtain ⟨w1,hw1⟩:∃ w1,w1=w.alloc (.cells (scrA s) 25):=⟨_,rfl⟩
 obtain ⟨w2,hw2⟩:∃ w2,w2=w1.alloc (.cells (scrA { s with A:=A,n:=n,k:=q,T:=T,m:=m,q:=p }) 25):=⟨_,rfl⟩
 have h1:Below w.heap.size w w1:=by rw [hw1];exact (Below.refl _ _).alloc (Nat.le_refl _) _
 have h12:Below w1.heap.size w1 w2:=by rw [hw2];exact (Below.refl _ _).alloc (Nat.le_refl _) _
 have hsz:w1.heap.size=b+1:=by rw [hw1,hb];simp
 have H2:=Lib.hid (show ScC w2 b s∧ScC w2 (b+1) { s with A:=A,n:=n,k:=q,T:=T,m:=m,q:=p }∧Below w.heap.size w w2 from ⟨by
  have:=ScC.new w s
  rw [← hw1,← hb] at this
  exact this.below h12,by
  have:=ScC.new w1 { s with A:=A,n:=n,k:=q,T:=T,m:=m,q:=p }
  rw [← hw2,hsz] at this
  exact this,h1.trans (h12.mono h1.size)⟩)
 have HB:=Lib.hid (show b<w2.heap.size∧b+1<w2.heap.size from ⟨H2.out.1.lt,H2.out.2.1.lt⟩)
 have HI:=Lib.hid (And.intro (h.below H2.out.2.2) (k.below H2.out.2.2))
 replace hn':n≤60000:=hn'
 replace hm':m≤60000:=hm'
 have HLT:=Lib.hid (sameT_any (A':=T) (n':=m) (c:=s.q) (c':=p) HI.out.1.links HI.out.2.links (by omega) (by omega))
 rw [decide_eq_true rfl] at HLT
 have HG:=Lib.hid (fun w' (hb':Below w2.heap.size w2 w')=>sameG_any (A':=A) (n':=n) (c:=0) (r:=0) (c':=0) (r':=0) (k:=s.k) (k':=q) (HI.out.1.cells.below hb') (HI.out.2.cells.below hb') (by omega) (by omega) (B:=true) (decide_eq_true ⟨rfl,rfl,rfl⟩))
 clear h k hn hn' hm hm' h1 h12
 obtain ⟨a0,a1,a2,a3,a4,a5,a6,a7,a8,_⟩:=H2.out.1
 obtain ⟨d0,d1,d2,d3,d4,d5,d6,d7,d8,_⟩:=H2.out.2.1
 have S8:=Lib.hid (show ∀ w',Below w2.heap.size w2 w'→w'.cell? ⟨b,2,none⟩=some (.slice s.A s.n s.k)∧w'.cell? ⟨b+1,2,none⟩=some (.slice A n q) from fun w' hb'=>⟨(hb'.cell (p:=⟨b,2,none⟩) HB.out.1).trans H2.out.1.c2,(hb'.cell (p:=⟨b+1,2,none⟩) HB.out.2).trans H2.out.2.1.c2⟩)
 unfold scrA at hw1 hw2 ⊢
 simp only at hw2 d0 d1 d2 d3 d4 d5 d6 d7 d8 ⊢
 unfold gV at HG
 go_enter Tryz.func11,Tryz.ntmps11
 go_upto_region 1 with fail
 rw [← hw1,← hw2,← hb]
 clear hw1 hw2 hb hsz
 go_wp2_with fail
 refine HLT.out.mono fun e1 w3 ⟨hE,q1,hw3⟩=>?_
 subst hE
 have h3:Below w2.heap.size w2 w3∧True:=⟨by rw [hw3];exact belowN (Below.refl _ _) q1,trivial⟩
 clear hw3
 obtain ⟨e2,f2⟩:=S8.out _ h3.1
 have HG':=HG.out _ h3.1
 clear HG
 go_wp2_with fail
 refine HG'.mono fun e4 w4 ⟨hE,h4⟩=>?_
 subst hE
 go_wp2_with fail
 go_ret
 exact ⟨rfl,H2.out.2.2.trans ((h3.1.trans (h4.mono h3.1.size)).mono H2.out.2.2.size)⟩
def scN:ScR:=⟨0,0,none,0,0,0,0,false,0,⟨#[]⟩,none,0,0⟩
def scF (s:ScR):List Value:=[.int .i64 s.c,.int .i64 s.r,.slice s.A s.n s.k,.int .i64 s.x,.int .i64 s.y,.bool s.hid,.int .u8 s.mouse,.string s.ttl,.slice s.T s.m s.q]
theorem scF_len (s:ScR):(scF s).length=9:=rfl
theorem one_sc (L:List ScR):∀ v∈rowV scF L,v.oneCell'=true:=by
 induction L with
 | nil=>intro v hv;cases hv
 | cons c L ih =>
  intro v hv
  simp only [rowV,List.mem_append] at hv
  rcases hv with hv | hv
  · simp only [scF,List.mem_cons,List.not_mem_nil,or_false] at hv
    rcases hv with rfl | rfl | rfl | rfl | rfl | rfl | rfl | rfl | rfl<;>rfl
  · exact ih v hv
abbrev Sx (w:World) (g:Nat) (s:ScR):Prop:=Rw scF 25 w g [s]
theorem Sx.new (w:World) (s:ScR):Sx (w.alloc (.cells (scrA s) 25)) w.heap.size s:=made_rw (f:=scF) w 25 [s]
theorem sx_cells {w:World} {g:Nat} {s:ScR} (h:Sx w g s):ScC w g s :=
 ⟨h.cell (j:=0) rfl,h.cell (j:=1) rfl,h.cell (j:=2) rfl,h.cell (j:=3) rfl,h.cell (j:=4) rfl,h.cell (j:=5) rfl,h.cell (j:=6) rfl,h.cell (j:=7) rfl,h.cell (j:=8) rfl,h.lt⟩
theorem sx_setA {w:World} {g:Nat} {s:ScR} (h:Sx w g s) (A:Option Addr) (n k:Nat):Sx (w.setCell ⟨g,2,none⟩ (.slice A n k)) g { s with A:=A,n:=n,k:=k }:=by
 obtain ⟨r,h⟩:=h
 exact ⟨r,by rw [heap_setCell_same w g 2 _ _ _ h];rfl⟩
theorem sx_setT {w:World} {g:Nat} {s:ScR} (h:Sx w g s) (A:Option Addr) (n k:Nat):Sx (w.setCell ⟨g,8,none⟩ (.slice A n k)) g { s with T:=A,m:=n,q:=k }:=by
 obtain ⟨r,h⟩:=h
 exact ⟨r,by rw [heap_setCell_same w g 8 _ _ _ h];rfl⟩
end
open Go.RowKit
structure S2 (w w1:World) (b:Nat) (s q:ScR):Prop where
 b1:Sx w1 b s
 b2:Sx w1 (b+1) q
 bel:Below w.heap.size w w1
 lo:w.heap.size≤b
section
variable {w w1 w2:World} {b:Nat} {s s' q:ScR}
theorem S2.lt (h:S2 w w1 b s q):b+2≤w1.heap.size:=h.b2.lt
theorem S2.on (h:S2 w w1 b s q) (hb:Below w1.heap.size w1 w2):S2 w w2 b s q:=⟨h.b1.below hb,h.b2.below hb,h.bel.trans (hb.mono h.bel.size),h.lo⟩
end
theorem zero_in (w:World):ScIn w scN scZero :=
 ⟨rfl,rfl,rfl,rfl,rfl,rfl,rfl,Vs.nil _ _,Vs.nil _ _,Nat.le_refl _,by show 0≤_;omega,Nat.le_refl _,(fun _ h=>by cases h),(fun _ h=>by cases h),by show (0:Nat)≤_;omega⟩
theorem zero_own (base:Nat) (w:World):ScOwn base w scN scZero :=
 ⟨zero_in w,⟨rfl,Nat.le_refl _,by unfold maxLen;show 0≤_;omega,fun h=>absurd h (Nat.lt_irrefl 0)⟩,Tx.nil _ _,by show 0≤_;omega,by show 0≤_;omega⟩
theorem ScOwn.lower {base B:Nat} {w:World} {s:ScR} {S:Sc} (h:ScOwn base w s S) (hB:B≤base):ScOwn B w s S:=⟨h.sc,h.cx.lower hB,h.tx.lower hB,h.n,h.m⟩
theorem ScOwn.grown {base:Nat} {w w':World} {s:ScR} {S:Sc} (h:ScOwn base w s S) {g:Nat} (hg:w.grownBy w' (some g)) (hl:g<base):ScOwn base w' s S:=by
 have h1:=h.cx.grownP hg (fun hn k e=>by obtain ⟨g',e',hb,_⟩:=h.cx.own hn;rw [e] at e';injection e' with e';injection e' with e';intro e2;injection e2 with e2;omega)
 have h2:Tx base w' s.T s.m s.q S.links:=h.tx.grown hg (fun k e e2=>by injection e2 with e2;have:=h.tx.ownB k (by rw [e];rfl);omega)
 exact ⟨{ h.sc with cells:=h1.vs,links:=h2.vs },h1,h2,h.n,h.m⟩
end Go.Proofs.YtikhknnhmnopbaaGreatDoor
