/-
  Part 34 of what the laws of emul want: LinksRight, EmulRight, EmulAgain, EmulLinkS.
-/
import Derived.Test.YtlcipgdnpilkfaaGreatDoorPo13
import Derived.Test.YtlcipgdnpilkfaaGreatDoorPo14
import Derived.Test.YtlcipgdnpilkfaaGreatDoorPo15
import Derived.Test.YtlcipgdnpilkfaaGreatDoorPo28
import Derived.Test.YtlcipgdnpilkfaaGreatDoorPo32
import Derived.Test.YtlcipgdnpilkfaaGreatDoorPo33
namespace Go.Proofs.YtlcipgdnpilkfaaGreatDoor
open Go.RowKit
theorem retBR {a b:Bool} (h:a=b):Ending.returned (.bool a)=.returned (.bool b):=by rw [h]
theorem comeS_append (m:Nat) (xs ys:List Ce):comeS m (xs ++ ys)=(comeS m xs).bind fun k=>comeS k ys:=by
 induction xs generalizing m with
 | nil=>rfl
 | cons a xs ih =>
  rw [List.cons_append,comeS,comeS]
  split
  · rfl
  · exact ih _
theorem comeS_step {cs:List Ce} {k t:Nat} (hk:k<cs.length) (h:comeS 0 (cs.take k)=some t):comeS 0 (cs.take (k+1))=if (t:Int)+1<(cAt cs k).p.lk then none else some (max t (cAt cs k).p.lk.toNat):=by
 rw [List.take_succ_eq_append_getElem hk,comeS_snoc,h,cAt_lt hk]
 rfl
theorem comeS_none {cs:List Ce} {k:Nat} (h:comeS 0 (cs.take k)=none):comeS 0 cs=none:=by
 rw [← List.take_append_drop k cs,comeS_append,h]
 rfl
theorem ord_long {cs:List Ce} {l:List ByteArray} (h:¬ l.length≤16):ordC cs l=false:=by unfold ordC;rw [decide_eq_false h];rfl
theorem ord_bad {cs:List Ce} {l:List ByteArray} {s:ByteArray} (hs:s∈l) (h:mayT s=false):ordC cs l=false:=by
 unfold ordC
 rw [decide_eq_false (show ¬ ∀ s∈l,mayT s=true from fun x=>by rw [x s hs] at h;cases h)]
 simp
theorem ord_twice {cs:List Ce} {l:List ByteArray} (h:¬ l.Nodup):ordC cs l=false:=by
 unfold ordC
 rw [decide_eq_false h]
 simp
theorem ord_come {cs:List Ce} {l:List ByteArray} (h:comeS 0 cs=none):ordC cs l=false:=by unfold ordC;rw [h];simp
theorem ord_all {cs:List Ce} {l:List ByteArray} {t:Nat} (h1:l.length≤16) (h2:∀ s∈l,mayT s=true) (h3:l.Nodup) (h4:comeS 0 cs=some t):ordC cs l=decide ((t:Int)=(l.length:Int)):=by
 unfold ordC
 rw [decide_eq_true h1,decide_eq_true h2,decide_eq_true h3,h4]
 simp only [Bool.and_true,Bool.true_and,Option.some.injEq]
 rw [decide_eq_decide]
 omega
theorem nodup_take_snoc {l:List ByteArray} {k:Nat} (hk:k<l.length) (h:(l.take k).Nodup) (hn:sAt l k ∉ l.take k):(l.take (k+1)).Nodup:=by
 rw [take_snocT hk,List.nodup_append]
 refine ⟨h,by simp,fun x hx y hy e=>hn ?_⟩
 rw [← List.mem_singleton.1 hy,← e]
 exact hx
set_option maxHeartbeats 4000000 in
theorem lRight_any {w:World} {A A':Option Addr} {n c m c':Nat} {cs:List Ce} {L:List ByteArray} (h:Vs ceV w A n cs) (h':Vs stV w A' m L) (hl:∀ x∈cs,0≤x.p.lk∧x.p.lk≤65535) (hs:∀ s∈L,s.size≤140737488351232) (hn:n≤60000) (hm:m≤60000) (hmc:m≤c') :
  Calls Tryz.prog 63 #[.slice A n c,.slice A' m c'] w fun e w'=>e=.returned (.bool (ordC cs L))∧Below w.heap.size w w':=by
 obtain rfl:=h.len
 obtain rfl:=h'.len
 have H:=Lib.hid (And.intro h h')
 have HL:=Lib.hid (And.intro hl hs)
 clear h h' hl hs
 by_cases h16:L.length≤16
 · go_enter Tryz.func63,Tryz.ntmps63
   go_wp2
   go_loop [16] (fun i=>∃ k:Nat,k≤L.length∧i=.int .i64 k∧(∀ s∈L.take k,mayT s=true)∧(L.take k).Nodup) (fun i=>L.length-(intOf i).toNat)
   case atStart=>exact ⟨0,Nat.zero_le _,rfl,by simp,by simp⟩
   case round =>
    obtain ⟨k,hk,rfl,h1,h2⟩:=hrel
    have Y:=Lib.hid (And.intro h1 h2)
    clear h1 h2
    by_cases hlt:k<L.length
    · obtain ⟨ad,rfl⟩:=H.out.2.addr (by omega)
      have hc:=H.out.2.str hlt
      have hx:=HL.out.2 _ (sAt_mem hlt)
      have HM:=Lib.hid (sAt_mem hlt)
      have HT:=Lib.hid (take_snocT hlt)
      have HND:=Lib.hid (nodup_take_snoc hlt Y.out.2)
      have HF:=Lib.hid (H.out.2.front stV_len (k:=k) hk)
      have hin:Hid (sAt L k∈L.take k→¬ L.Nodup):=Lib.hid (fun hi hd=>not_in_take hd hlt hi)
      generalize sAt L k=x at hc hx HM HT HND hin
      go_wp2_with fail
      refine (mayT_any x _ hx).mono ?_
      rintro e w' ⟨rfl,rfl⟩
      cases hmx:mayT x
      · have X:Hid (ordC cs L=false):=Lib.hid (ord_bad HM.out hmx)
        clear hmx
        go_wp2_with fail
        go_ret
        exact ⟨retBR X.out.symm,Below.refl _ _⟩
      · have HMX:=Lib.hid hmx
        clear hmx
        go_wp2_with fail
        refine (hasT_any HF.out x (by omega)).mono ?_
        rintro e w' ⟨rfl,rfl⟩
        by_cases hp:x∈L.take k
        · have X:Hid (ordC cs L=false):=Lib.hid (ord_twice (hin.out hp))
          have e1:decide (0≤placeI (L.take k) x)=true:=by
           obtain ⟨j,_,e,_,_⟩:=placeI_mem hp
           rw [e];simp
          rw [e1]
          clear e1 hp
          go_wp2_with fail
          go_ret
          exact ⟨retBR X.out.symm,Below.refl _ _⟩
        · have e1:decide (0≤placeI (L.take k) x)=false:=by rw [placeI_none.2 hp];decide
          rw [e1]
          have HP:=Lib.hid hp
          clear e1 hp
          go_wp2_with fail
          go_round
          case rel =>
           refine ⟨k+1,by omega,by go_num,?_,HND.out HP.out⟩
           rw [HT.out]
           intro s hs
           rcases List.mem_append.1 hs with hs | hs
           · exact Y.out.1 s hs
           · rw [List.mem_singleton.1 hs];exact HMX.out
          case measure=>simp [intOf];omega
    · have e:L.take k=L:=List.take_of_length_le (by omega)
      rw [e] at Y
      clear e
      go_wp2_with fail
      go_loopw [7,34] (fun o i wr=>∃ (k t:Nat),k≤cs.length∧t≤65535∧i=.int .i64 k∧o=.int .i64 t∧comeS 0 (cs.take k)=some t∧Below w.heap.size w wr) (fun _ i _=>cs.length-(intOf i).toNat)
      case atStart=>exact ⟨0,0,Nat.zero_le _,by omega,rfl,rfl,rfl,Below.refl _ _⟩
      case round =>
       obtain ⟨k,t,hk,ht,rfl,rfl,hcm,hb⟩:=hrel
       have Z:=Lib.hid (And.intro hcm hb)
       clear hcm hb
       by_cases hlt:k<cs.length
       · obtain ⟨ad,rfl⟩:=H.out.1.addr (by omega)
         obtain ⟨hc0,hc1,hc2,hc3,hc4,hc5⟩:=(H.out.1.below Z.out.2).six hlt
         have hlk:=HL.out.1 (cAt cs k) (by rw [cAt_lt hlt];exact List.getElem_mem _)
         have HC:=Lib.hid (comeS_step hlt Z.out.1)
         generalize cAt cs k=x at hc0 hc1 hc2 hc3 hc4 hc5 hlk HC
         obtain ⟨q,hq⟩:∃ q:Nat,x.p.lk=(q:Int):=⟨x.p.lk.toNat,by omega⟩
         rw [hq] at hc5 hlk HC
         have hq1:q≤65535:=by omega
         have HB1:=Lib.hid (Z.out.2.alloc Z.out.2.size (.cells #[.int .i32 x.r,.int .u8 x.wd,.int .u32 x.p.fg,.int .u32 x.p.bg,.int .u8 x.p.st,.int .u16 q] 66))
         clear hlk hq
         by_cases hgt:(t:Int)+1<(q:Int)
         · have X:Hid (ordC cs L=false):=Lib.hid (ord_come (comeS_none (HC.out.trans (if_pos hgt))))
           go_wp2_with fail
           go_ret
           exact ⟨retBR X.out.symm,HB1.out⟩
         · have HC1:Hid (comeS 0 (cs.take (k+1))=some (max t q)):=Lib.hid (HC.out.trans (if_neg hgt))
           have hmax:max (t:Int) (q:Int)=((max t q:Nat):Int):=by omega
           have htq:max t q≤65535:=by omega
           generalize max t q=t' at HC1 hmax htq
           go_wp2_with fail
           go_roundw
           case rel=>exact ⟨k+1,t',by omega,htq,by go_num,rfl,HC1.out,HB1.out⟩
           case measure=>simp [intOf];omega
       · have e:cs.take k=cs:=List.take_of_length_le (by omega)
         have X:Hid (ordC cs L=decide ((t:Int)=(L.length:Int))):=Lib.hid (ord_all h16 Y.out.1 Y.out.2 (by rw [← e];exact Z.out.1))
         clear e
         go_wp2_with fail
         go_ret
         exact ⟨retBR (X.out.trans (by first | rfl | (rw [Bool.eq_iff_iff];simp))).symm,Z.out.2⟩
 · have X:Hid (ordC cs L=false):=Lib.hid (ord_long h16)
   have hgt:(16:Int)<(L.length:Int):=by omega
   go_enter Tryz.func63,Tryz.ntmps63
   go_wp2_with fail
   go_ret
   exact ⟨retBR X.out.symm,Below.refl _ _⟩
open Go.RowKit
structure ScR where
 c:Int
 r:Int
 A:Option Addr
 n:Nat
 k:Nat
 x:Int
 y:Int
 hid:Bool
 mouse:Int
 ttl:ByteArray
 T:Option Addr
 m:Nat
 q:Nat
def scrA (s:ScR):Array Value:=#[.int .i64 s.c,.int .i64 s.r,.slice s.A s.n s.k,.int .i64 s.x,.int .i64 s.y,.bool s.hid,.int .u8 s.mouse,.string s.ttl,.slice s.T s.m s.q]
structure ScIn (w:World) (s:ScR) (S:Sc):Prop where
 c:S.c=s.c
 r:S.r=s.r
 x:S.x=s.x
 y:S.y=s.y
 hid:S.hid=s.hid
 mouse:S.mouse=s.mouse
 ttl:S.title=sL s.ttl
 cells:Vs ceV w s.A s.n S.cells
 links:Vs stV w s.T s.m S.links
 nk:s.n≤s.k
 n9:s.n≤9223372036854775807
 mq:s.m≤s.q
 lk:∀ x∈S.cells,0≤x.p.lk∧x.p.lk≤65535
 sz:∀ u∈S.links,u.size≤140737488351232
 tz:s.ttl.size≤140737488351232
theorem ScIn.below {w w':World} {s:ScR} {S:Sc} (h:ScIn w s S) (hb:Below w.heap.size w w'):ScIn w' s S:={ h with cells:=h.cells.below hb,links:=h.links.below hb }
theorem right_is (S:Sc):rightSc S=(gridMay S.c S.r S.cells && ordS S.cells S.links && tMay S.title && decide (S.mouse≤2) && decide (0≤S.x) && decide (S.x<S.c) && decide (0≤S.y) && decide (S.y<S.r)):=by
 unfold rightSc tMay
 rw [Bool.eq_iff_iff]
 simp only [Bool.and_eq_true,decide_eq_true_eq]
 constructor
 · rintro ⟨⟨⟨⟨⟨⟨h1,h2⟩,h3⟩,h4⟩,h5⟩,h6⟩,h7⟩
   exact ⟨⟨⟨⟨⟨⟨⟨h1,h2⟩,⟨⟨h5,h6⟩,h7⟩⟩,h4⟩,h3.1⟩,h3.2.1⟩,h3.2.2.1⟩,h3.2.2.2⟩
 · rintro ⟨⟨⟨⟨⟨⟨⟨h1,h2⟩,⟨⟨h5,h6⟩,h7⟩⟩,h4⟩,h8⟩,h9⟩,h10⟩,h11⟩
   exact ⟨⟨⟨⟨⟨⟨h1,h2⟩,h8,h9,h10,h11⟩,h4⟩,h5⟩,h6⟩,h7⟩
set_option maxHeartbeats 6400000 in
set_option maxRecDepth 100000 in
theorem rightT_any {w:World} {s:ScR} {S:Sc} (hT:Tabs w) (h:ScIn w s S) (hn:s.n≤60000) (hm:s.m≤60000) :
  Calls Tryz.prog 22 #[.agg (scrA s)] w fun e w'=>e=.returned (.bool (rightSc S))∧Below w.heap.size w w':=by
 have HR:=Lib.hid (right_is S)
 generalize rightSc S=RS at HR ⊢
 have HT:=Lib.hid hT
 have HS:=Lib.hid h
 obtain ⟨b,hb⟩:∃ b,b=w.heap.size:=⟨_,rfl⟩
 obtain ⟨w1,hw1⟩:∃ w1,w1=w.alloc (.cells (scrA s) 56):=⟨_,rfl⟩
 obtain ⟨w2,hw2⟩:∃ w2,w2=w1.alloc (.cells (gV s.c s.r s.A s.n s.k) 26):=⟨_,rfl⟩
 have hb1:Below w.heap.size w w1:=by rw [hw1];exact (Below.refl _ _).alloc (Nat.le_refl _) _
 have hb2:Below w.heap.size w w2:=by rw [hw2];exact hb1.alloc hb1.size _
 have h12:Below w1.heap.size w1 w2:=by rw [hw2];exact (Below.refl _ _).alloc (Nat.le_refl _) _
 have hlt:b<w1.heap.size:=by rw [hw1,hb];simp
 have H1:∀ k v,(scrA s)[k]?=some v→w1.cell? ⟨b,k,none⟩=some v:=fun k v hv=>by
  rw [hw1,hb]
  exact newCell w _ _ k hv
 have HC:=Lib.hid (show ∀ w',Below w2.heap.size w2 w'→w'.cell? ⟨b,0,none⟩=some (.int .i64 s.c)∧w'.cell? ⟨b,1,none⟩=some (.int .i64 s.r)∧w'.cell? ⟨b,2,none⟩=some (.slice s.A s.n s.k)∧w'.cell? ⟨b,3,none⟩=some (.int .i64 s.x)∧w'.cell? ⟨b,4,none⟩=some (.int .i64 s.y)∧w'.cell? ⟨b,6,none⟩=some (.int .u8 s.mouse)∧w'.cell? ⟨b,7,none⟩=some (.string s.ttl)∧w'.cell? ⟨b,8,none⟩=some (.slice s.T s.m s.q) from fun w' hb'=>by
  have hs:=h12.size
  have hc:∀ k,w'.cell? ⟨b,k,none⟩=w1.cell? ⟨b,k,none⟩:=fun k=>(hb'.cell (p:=⟨b,k,none⟩) (by show b<_;omega)).trans (h12.cell (p:=⟨b,k,none⟩) hlt)
  simp only [hc]
  exact ⟨H1 0 _ rfl,H1 1 _ rfl,H1 2 _ rfl,H1 3 _ rfl,H1 4 _ rfl,H1 6 _ rfl,H1 7 _ rfl,H1 8 _ rfl⟩)
 have c0:w1.cell? ⟨b,0,none⟩=some (.int .i64 s.c):=H1 0 _ rfl
 have c1:w1.cell? ⟨b,1,none⟩=some (.int .i64 s.r):=H1 1 _ rfl
 have c2:w1.cell? ⟨b,2,none⟩=some (.slice s.A s.n s.k):=H1 2 _ rfl
 have HBZ:=Lib.hid hb2
 have HM:=Lib.hid (gMay_any (c:=s.c) (r:=s.r) (k:=s.k) (HS.out.cells.below hb2) (HT.out.below hb2 (Nat.le_refl _)) HS.out.nk HS.out.n9)
 have HLK:=Lib.hid (fun w' (hb':Below w.heap.size w w')=>lRight_any (c:=s.k) (HS.out.cells.below hb') (HS.out.links.below hb') HS.out.lk HS.out.sz hn hm HS.out.mq)
 rw [ord_is (fun x hx=>(HS.out.lk x hx).1)] at HLK
 have HTM:=Lib.hid (fun w' (hb':Below w.heap.size w w')=>titleMay_any s.ttl (HT.out.below hb' (Nat.le_refl _)) HS.out.tz)
 rw [HS.out.c,HS.out.r,HS.out.x,HS.out.y,HS.out.mouse,HS.out.ttl] at HR
 obtain ⟨MM,hMM⟩:∃ MM,gridMay s.c s.r S.cells=MM:=⟨_,rfl⟩
 obtain ⟨OO,hOO⟩:∃ OO,ordS S.cells S.links=OO:=⟨_,rfl⟩
 obtain ⟨TT,hTT⟩:∃ TT,tMay (sL s.ttl)=TT:=⟨_,rfl⟩
 rw [hMM] at HM HR
 rw [hOO] at HLK HR
 rw [hTT] at HTM HR
 clear hT h hb1 h12 hlt H1 hMM hOO hTT hb2 hn hm
 have hgv:gV s.c s.r s.A s.n s.k=#[.int .i64 s.c,.int .i64 s.r,.slice s.A s.n s.k]:=rfl
 rw [hgv] at hw2 HM
 clear hgv
 unfold scrA at hw1 ⊢
 go_enter Tryz.func22,Tryz.ntmps22
 go_upto_region 1 with fail
 rw [← hw1,← hb]
 clear hw1 hb
 go_upto_region 2 with fail
 obtain ⟨b2,hbb⟩:∃ b2,b2=w1.heap.size:=⟨_,rfl⟩
 have HD:=Lib.hid (show w2.cell? ⟨b2,0,none⟩=some (.int .i64 s.c)∧w2.cell? ⟨b2,1,none⟩=some (.int .i64 s.r)∧w2.cell? ⟨b2,2,none⟩=some (.slice s.A s.n s.k) from by
  rw [hw2,hbb]
  exact ⟨newCell w1 _ _ 0 rfl,newCell w1 _ _ 1 rfl,newCell w1 _ _ 2 rfl⟩)
 rw [← hw2,← hbb]
 clear hw2 hbb c0 c1 c2
 obtain ⟨d0,d1,d2⟩:=HD.out
 go_wp2_with fail
 refine HM.out.mono ?_
 rintro e w3 ⟨rfl,hb3⟩
 have H3:=Lib.hid (HBZ.out.trans (hb3.mono HBZ.out.size))
 have H23:=Lib.hid hb3
 obtain ⟨a0,a1,a2,a3,a4,a6,a7,a8⟩:=HC.out w3 hb3
 clear hb3 d0 d1 d2
 cases MM
 · have E:=Lib.hid (show RS=false from by rw [HR.out];simp)
   go_wp2_with fail
   go_ret
   exact ⟨by rw [E.out];rfl,H3.out⟩
 go_wp2_with fail
 refine (HLK.out w3 H3.out).mono ?_
 rintro e w4 ⟨rfl,hb4⟩
 have H4:=Lib.hid (H3.out.trans (hb4.mono H3.out.size))
 have H24:=Lib.hid (H23.out.trans (hb4.mono H23.out.size))
 clear hb4 a0 a1 a2 a3 a4 a6 a7 a8
 obtain ⟨a0,a1,a2,a3,a4,a6,a7,a8⟩:=HC.out w4 H24.out
 cases OO
 · have E:=Lib.hid (show RS=false from by rw [HR.out];simp)
   go_wp2_with fail
   go_ret
   exact ⟨by rw [E.out];rfl,H4.out⟩
 go_wp2_with fail
 refine (HTM.out w4 H4.out).mono ?_
 rintro e w5 ⟨rfl,hb5⟩
 have H5:=Lib.hid (H4.out.trans (hb5.mono H4.out.size))
 have H25:=Lib.hid (H24.out.trans (hb5.mono H24.out.size))
 clear hb5 a0 a1 a2 a3 a4 a6 a7 a8
 obtain ⟨a0,a1,a2,a3,a4,a6,a7,a8⟩:=HC.out w5 H25.out
 cases TT
 · have E:=Lib.hid (show RS=false from by rw [HR.out];simp)
   go_wp2_with fail
   go_ret
   exact ⟨by rw [E.out];rfl,H5.out⟩
 by_cases hm:s.mouse≤2
 case neg =>
  have E:=Lib.hid (show RS=false from by rw [HR.out,decide_eq_false hm];simp)
  go_wp2_with fail
  go_ret
  exact ⟨by rw [E.out];rfl,H5.out⟩
 by_cases hx0:0≤s.x
 case neg =>
  have E:=Lib.hid (show RS=false from by rw [HR.out,decide_eq_false hx0];simp)
  go_wp2_with fail
  go_ret
  exact ⟨by rw [E.out];rfl,H5.out⟩
 by_cases hx1:s.x<s.c
 case neg =>
  have E:=Lib.hid (show RS=false from by rw [HR.out,decide_eq_false hx1];simp)
  go_wp2_with fail
  go_ret
  exact ⟨by rw [E.out];rfl,H5.out⟩
 by_cases hy0:0≤s.y
 case neg =>
  have E:=Lib.hid (show RS=false from by rw [HR.out,decide_eq_false hy0];simp)
  go_wp2_with fail
  go_ret
  exact ⟨by rw [E.out];rfl,H5.out⟩
 by_cases hy1:s.y<s.r
 case neg =>
  have E:=Lib.hid (show RS=false from by rw [HR.out,decide_eq_false hy1];simp)
  go_wp2_with fail
  go_ret
  exact ⟨by rw [E.out,decide_eq_false (Int.not_lt.2 hy1)];rfl,H5.out⟩
 have E:=Lib.hid (show RS=true from by rw [HR.out,decide_eq_true hm,decide_eq_true hx0,decide_eq_true hx1,decide_eq_true hy0,decide_eq_true hy1];rfl)
 go_wp2_with fail
 go_ret
 exact ⟨by rw [E.out];rfl,H5.out⟩
open Go.RowKit
section
variable {B:Nat} {w:World} {g:Nat} {x:CT} {A:Option Addr} {n c:Nat} {ps:List Int}
theorem Cz.lastC (h:Cz B w g x):w.cell? ⟨g,111,none⟩=some (.int .i32 x.t.last):=by
 have hl:(ctH x).length=29:=rfl
 have hm:(x.t.tabs.map Value.bool).length=80:=by rw [List.length_map];exact h.ok.tabs
 refine h.cell ?_
 rw [ctV_is,List.getElem?_append_right (by rw [hl];omega),List.getElem?_append_right (by rw [hl,hm];omega),hl,hm]
 rfl
set_option maxRecDepth 100000 in
set_option maxHeartbeats 1600000 in
theorem again_of (hT:Tabs w) (h:Cz B w g x) (hN:Nm w (CB g x) A n c ps) (hP:∀ (w':World) (y:CT),Tabs w'→Cz B w' g y→Calls Tryz.prog 50 #[.pointer (some ⟨g,0,none⟩),.int .i32 y.t.last] w' (CzP B g y (y.t.print y.t.last) w')):Calls Tryz.prog 181 #[.pointer (some ⟨g,0,none⟩),.slice A n c] w (CzP B g x (Dd.again.run ps x.t) w):=by
 have HT:=Lib.hid hT
 have HZ:=Lib.hid h
 have HPR:=Lib.hid hP
 have n1:=hN.one 0
 have HM:=Lib.hid hN
 have HC:=Lib.hid (show ∀ w',Below w.heap.size w w'→Calls Tryz.prog 159 #[.slice A n c,.int .i64 0] w' fun e w''=>e=.returned (.int .i64 (numP ps 0 1))∧w''=w' from fun w' hb=>count_any (HM.out.below hb) 0 (by omega))
 show Calls _ _ _ _ (CzP B g x (iterS (fun t=>t.print t.last) (min (numP ps 0 1).toNat (x.t.r*x.t.c)) x.t) w)
 generalize numP ps 0 1=N at HC n1 ⊢
 obtain ⟨k0,hk0⟩:∃ k0:Nat,min N.toNat (x.t.r*x.t.c)=k0:=⟨_,rfl⟩
 have hmin:min N (x.mN:Int)=(k0:Int):=by rw [h.mn];omega
 have hk1:k0≤1920:=by have:=h.ok.gm.small;have:=h.ok.gm.box.flen;omega
 rw [hk0]
 have c17:w.cell? ⟨g,17,none⟩=some (.slice (some ⟨x.mb,0,none⟩) x.mN x.mK):=h.cell rfl
 clear h hT hN hP hk0
 go_enter Tryz.func181,Tryz.ntmps181
 go_wp2_with fail
 go_quiet ((go_at_call 159;exact Calls.quiet_of_same (HC.out _ (belowN (Below.refl _ _) _))))
 generalize hw2:w.drewN nq=w2
 have H2:=Lib.hid (show Below w.heap.size w w2 from by rw [← hw2];exact belowN (Below.refl _ _) _)
 clear hw2 c17
 have K0:=Lib.hid ((CzTo.refl HZ.out).below H2.out)
 go_wp2_with fail
 go_loopw [14] (fun i wr=>∃ (k:Nat) (y:CT),k≤k0∧i=.int .i64 k∧CzTo B g x (iterS (fun t=>t.print t.last) k x.t) w wr y) (fun i _=>k0-(intOf i).toNat)
 case atStart=>exact ⟨0,x,Nat.zero_le _,rfl,K0.out⟩
 case round =>
  obtain ⟨k,y,hk,rfl,hy⟩:=hrel
  have Y:=Lib.hid hy
  clear hy
  by_cases hlt:k<k0
  · have hk2:(k:Int)<(k0:Int):=by omega
    have c111:wr.cell? ⟨g,111,none⟩=some (.int .i32 y.t.last):=Y.out.cz.lastC
    have HP2:=Lib.hid (HPR.out wr y (HT.out.out HZ.out.tab Y.out.out.bel) Y.out.cz)
    go_wp2_with fail
    refine HP2.out.mono ?_
    rintro e w3 ⟨rfl,z,hz⟩
    have Z:=Lib.hid ((Y.out.trans hz).as (show y.t.print y.t.last=iterS (fun t=>t.print t.last) (k+1) x.t from by rw [iter_succ,← Y.out.t]))
    clear hz
    go_wp2_with fail
    go_roundw
    case rel=>exact ⟨k+1,z,by omega,by go_num,Z.out⟩
    case measure=>simp [intOf];omega
  · obtain rfl:k=k0:=by omega
    go_wp2_with fail
    go_end0
    exact ⟨rfl,y,Y.out⟩
end
def PRow (P:Int→Prop) (L:List Ce):Prop:=∀ c∈L,P c.p.lk
def PRws (P:Int→Prop) (LL:Rws):Prop:=∀ L∈LL,PRow P L
section
variable {P:Int→Prop} {L M:List Ce} {LL:Rws}
theorem prow_nil:PRow P []:=fun _ h=>by cases h
theorem prow_app (h:PRow P L) (k:PRow P M):PRow P (L ++ M):=fun c hc=>(List.mem_append.1 hc).elim (h c) (k c)
theorem prow_rep {n:Nat} {c:Ce} (h:P c.p.lk):PRow P (List.replicate n c):=fun d hd=>by rw [List.eq_of_mem_replicate hd];exact h
theorem prow_set (h:PRow P L) {k:Nat} {c:Ce} (hc:P c.p.lk):PRow P (L.set k c):=fun d hd=>by
 rcases List.mem_or_eq_of_mem_set hd with hd | rfl
 · exact h d hd
 · exact hc
theorem prow_take (h:PRow P L) (k:Nat):PRow P (L.take k):=fun c hc=>h c (List.mem_of_mem_take hc)
theorem prow_drop (h:PRow P L) (k:Nat):PRow P (L.drop k):=fun c hc=>h c (List.mem_of_mem_drop hc)
theorem prow_cut (h:PRow P L) (h0:P 0) (x:Nat):PRow P (cutS L x):=by
 unfold cutS
 split
 · exact prow_set (prow_set h h0) h0
 · exact h
theorem prow_over (h:PRow P L) (k:PRow P M) (x:Nat):PRow P (overS L x M):=prow_app (prow_take h _) (prow_app k (prow_drop h _))
theorem prow_lett {p:Pn} (hp:P p.lk) (r:Int):PRow P (lettS r p):=by
 unfold lettS
 split
 · intro c hc;rw [List.mem_singleton.1 hc];exact hp
 · split
   · intro c hc
     simp only [List.mem_cons,List.not_mem_nil,or_false] at hc
     rcases hc with rfl | rfl<;>exact hp
   · exact prow_nil
theorem prow_put (h:PRow P L) (h0:P 0) {p:Pn} (hp:P p.lk) (x r:Int):PRow P (putS L x r p):=by
 unfold putS
 dsimp only
 split
 · exact prow_over (prow_cut (prow_cut h h0 _) h0 _) (prow_lett hp r) _
 · exact h
theorem prow_erase (h:PRow P L) (h0:P 0) (a b:Int) (p:Pn):PRow P (eraseS L a b p):=by
 unfold eraseS
 dsimp only
 split
 · exact prow_over (prow_cut (prow_cut h h0 _) h0 _) (prow_rep h0) _
 · exact h
theorem prow_insert (h:PRow P L) (h0:P 0) (x n:Int) (p:Pn):PRow P (insertS L x n p):=by
 have hM:=prow_cut (prow_cut h h0 x.toNat) h0 (L.length-(min n (L.length-x)).toNat)
 unfold insertS
 dsimp only
 split
 · exact prow_over (prow_over hM (prow_take (prow_drop hM _) _) _) (prow_rep h0) _
 · exact h
theorem prow_delete (h:PRow P L) (h0:P 0) (x n:Int) (p:Pn):PRow P (deleteS L x n p):=by
 have hM:=prow_cut (prow_cut h h0 x.toNat) h0 (x.toNat+(min n (L.length-x)).toNat)
 unfold deleteS
 dsimp only
 split
 · exact prow_over (prow_over hM (prow_drop hM _) _) (prow_rep h0) _
 · exact h
theorem prws_at (h:PRws P LL) (y:Nat):PRow P (lAt LL y):=by
 by_cases hy:y<LL.length
 · rw [lAt_lt hy];exact h _ (List.getElem_mem hy)
 · rw [lAt_ge (by omega)];exact prow_nil
theorem prws_map {r:Nat} {f:Nat→List Ce} (h:∀ y,PRow P (f y)):PRws P ((List.range r).map f):=fun L hL=>by
 obtain ⟨y,_,rfl⟩:=List.mem_map.1 hL
 exact h y
theorem prws_row (h:PRws P LL) {f:List Ce→List Ce} (hf:∀ L,PRow P L→PRow P (f L)) (y:Int):PRws P (inRowS f y LL):=by
 unfold inRowS
 split
 · intro L hL
   rcases List.mem_or_eq_of_mem_set hL with hL | rfl
   · exact h L hL
   · exact hf _ (prws_at h _)
 · exact h
theorem prws_clear (h:PRws P LL) (h0:P 0) (c:Nat) (a b:Int) (p:Pn):PRws P (clearS c LL a b p):=prws_map fun y=>prow_erase (prws_at h y) h0 _ _ p
theorem prws_scroll (h:PRws P LL) (h0:P 0) (c:Nat) (a b n:Int) (p:Pn):PRws P (scrollS c LL a b n p):=by
 unfold scrollS
 split
 · exact h
 · refine prws_map fun y=>?_
   unfold scrollAt
   split
   · split
     · exact prws_at h _
     · exact prow_rep h0
   · exact prws_at h y
theorem prws_blank (h0:P 0) (c r:Nat):PRws P (blankR c r):=fun L hL=>by rw [List.eq_of_mem_replicate hL];exact prow_rep h0
theorem prws_flat (h:PRws P LL):∀ c∈LL.flatten,P c.p.lk:=fun c hc=>by
 obtain ⟨L,hL,hc⟩:=List.mem_flatten.1 hc
 exact h L hL c hc
end
theorem pensF_lk:∀ (f:Nat) (p:Pn) (l:List Int),(pensF f p l).lk=p.lk
 | 0,p,l=>by unfold pensF;rfl
 | f+1,p,[]=>by unfold pensF;rfl
 | f+1,p,n :: l=>by
  unfold pensF
  by_cases h0:n=0
  · rw [if_pos h0,pensF_lk f]
  rw [if_neg h0]
  by_cases h1:n=38∨n=48
  · rw [if_pos h1]
    cases hc:colourS l with
    | none=>rfl
    | some u =>
     obtain ⟨c,l'⟩:=u
     show (pensF f (if n=38 then { p with fg:=c } else { p with bg:=c }) l').lk=p.lk
     rw [pensF_lk f]
     split<;>rfl
  rw [if_neg h1,pensF_lk f]
  repeat' split
  all_goals rfl
theorem pens_lk (p:Pn) (l:List Int):(pensP p l).lk=p.lk:=by
 unfold pensP
 split<;>exact pensF_lk _ _ _
def Tm.back (t:Tm):Rws:=if t.isO then t.main else t.other
structure Stp (t u:Tm):Prop where
 tb:u.table=t.table
 o:u.isO=t.isO
 bk:u.back=t.back
 sv:u.sav=t.sav
 c:u.c=t.c
 r:u.r=t.r
 p:u.p=t.p
 lks:∀ P:Int→Prop,P 0→P t.now.pen.lk→P t.sav.pen.lk→PRws P t.shown→P u.now.pen.lk∧PRws P u.shown
namespace Stp
variable {t u v:Tm}
theorem refl (t:Tm):Stp t t:=⟨rfl,rfl,rfl,rfl,rfl,rfl,rfl,fun _ _ h1 _ h3=>⟨h1,h3⟩⟩
theorem trans (h:Stp t u) (k:Stp u v):Stp t v :=
 ⟨k.tb.trans h.tb,k.o.trans h.o,k.bk.trans h.bk,k.sv.trans h.sv,k.c.trans h.c,k.r.trans h.r,k.p.trans h.p,fun P h0 h1 h2 h3=>by
  obtain ⟨a,b⟩:=h.lks P h0 h1 h2 h3
  exact k.lks P h0 a (by rw [h.sv];exact h2) b⟩
theorem put (t:Tm) {g:Rws} (hg:∀ P:Int→Prop,P 0→P t.now.pen.lk→PRws P t.shown→PRws P g):Stp t (t.put g):=by
 have hs:(t.put g).shown=g:=by
  unfold Tm.put Tm.shown
  by_cases h:t.isO=true<;>simp [h]
 have e:(t.put g).table=t.table∧(t.put g).isO=t.isO∧(t.put g).back=t.back∧(t.put g).sav=t.sav∧(t.put g).c=t.c∧(t.put g).r=t.r∧(t.put g).p=t.p∧(t.put g).now=t.now:=by
  unfold Tm.put Tm.back
  by_cases h:t.isO=true<;>simp [h]
 obtain ⟨e1,e2,e3,e4,e5,e6,e7,e8⟩:=e
 exact ⟨e1,e2,e3,e4,e5,e6,e7,fun P h0 h1 _ h3=>by rw [e8,hs];exact ⟨h1,hg P h0 h1 h3⟩⟩
theorem scrolled (t:Tm) (a b n:Int):Stp t (t.scrolled a b n):=put t fun _ h0 _ h3=>prws_scroll h3 h0 _ _ _ _ _
theorem erased (t:Tm) (a b:Int):Stp t (t.erased a b):=put t fun _ h0 _ h3=>prws_clear h3 h0 _ _ _ _
theorem atX (t:Tm) (x:Int):Stp t (t.atX x):=⟨rfl,rfl,rfl,rfl,rfl,rfl,rfl,fun _ _ h1 _ h3=>⟨h1,h3⟩⟩
theorem atY (t:Tm) (y:Int):Stp t (t.atY y):=⟨rfl,rfl,rfl,rfl,rfl,rfl,rfl,fun _ _ h1 _ h3=>⟨h1,h3⟩⟩
theorem same (h1:u.table=t.table) (h2:u.isO=t.isO) (h3:u.main=t.main) (h4:u.other=t.other) (h5:u.sav=t.sav) (h6:u.c=t.c) (h7:u.r=t.r) (h8:u.p=t.p) (h9:u.now.pen.lk=t.now.pen.lk∨u.now.pen.lk=0∨u.now.pen.lk=t.sav.pen.lk):Stp t u:=by
 have e1:u.shown=t.shown:=by unfold Tm.shown;rw [h2,h3,h4]
 have e2:u.back=t.back:=by unfold Tm.back;rw [h2,h3,h4]
 exact ⟨h1,h2,e2,h5,h6,h7,h8,fun P p0 p1 p2 p3=>⟨by rcases h9 with e | e | e<;>rw [e]<;>assumption,by rw [e1];exact p3⟩⟩
theorem down (t:Tm):Stp t t.down:=by
 unfold Tm.down
 split
 · exact scrolled _ _ _ _
 · split
   · exact atY _ _
   · exact refl t
theorem up (t:Tm):Stp t t.up:=by
 unfold Tm.up
 split
 · exact scrolled _ _ _ _
 · split
   · exact atY _ _
   · exact refl t
theorem home (t:Tm):Stp t t.home:=(atX t 0).trans (atY _ _)
theorem restored (t:Tm):Stp t t.restored:=same rfl rfl rfl rfl rfl rfl rfl rfl (.inr (.inr rfl))
theorem letter (t:Tm) (r:Int):Stp t (t.letter r):=by
 have key:∀ u:Tm,Stp u (let t:=u.put (inRowS (fun l=>putS l u.now.x r u.now.pen) u.now.y u.shown);if t.now.x+widthS r≥t.c then { t.atX (t.c-1) with last:=r,full:=true } else { t.atX (t.now.x+widthS r) with last:=r,full:=false }):=by
  intro u
  have h2:Stp u (u.put (inRowS (fun l=>putS l u.now.x r u.now.pen) u.now.y u.shown)):=put u fun _ h0 h1 h3=>prws_row h3 (fun _ hL=>prow_put hL h0 h1 _ _) _
  dsimp only
  split
  · exact h2.trans (same rfl rfl rfl rfl rfl rfl rfl rfl (.inl rfl))
  · exact h2.trans (same rfl rfl rfl rfl rfl rfl rfl rfl (.inl rfl))
 unfold Tm.letter
 dsimp only
 split
 · exact (put t fun _ h0 _ h3=>prws_row h3 (fun _ hL=>prow_insert hL h0 _ _ _) _).trans (key _)
 · exact key _
theorem print (t:Tm) (r:Int):Stp t (t.print r):=by
 unfold Tm.print
 dsimp only
 split
 · exact refl t
 · split
   · exact ((atX t 0).trans (down _)).trans (letter _ r)
   · split
     · exact refl t
     · exact letter t r
theorem tab (t:Tm):Stp t t.tab:=atX t _
theorem tabBack (t:Tm):Stp t t.tabBack:=atX t _
theorem c0 (t:Tm) (b:Int):Stp t (t.c0 b):=by
 unfold Tm.c0
 repeat' split
 · exact atX _ _
 · exact tab t
 · exact down t
 · exact atX _ _
 · exact refl t
theorem esc (t:Tm) {b:Int} (h1:b≠55) (h2:b≠99):Stp t (t.esc b):=by
 unfold Tm.esc
 rw [if_neg h1,if_neg h2]
 repeat' split
 · exact restored t
 · exact down t
 · exact (atX t 0).trans (down _)
 · exact up t
 · exact same rfl rfl rfl rfl rfl rfl rfl rfl (.inl rfl)
 · exact refl t
theorem iter {f:Tm→Tm} (hf:∀ t,Stp t (f t)):∀ (n:Nat) (t:Tm),Stp t (iterS f n t)
 | 0,t=>refl t
 | n+1,t=>(hf t).trans (iter hf n (f t))
theorem ite {c:Prop} [Decidable c] {a b:Tm} (ha:Stp t a) (hb:Stp t b):Stp t (if c then a else b):=by split;exact ha;exact hb
theorem edit (t:Tm) (a:AcS) (n:Int):Stp t (t.edit a n):=by
 unfold Tm.edit
 dsimp only
 repeat' with_reducible refine ite ?_ ?_
 all_goals first
  | exact refl t
  | exact erased _ _ _
  | exact scrolled _ _ _ _
  | exact (atX t 0).trans (scrolled _ _ _ _)
  | exact put t fun _ h0 _ h3=>prws_row h3 (fun _ hL=>prow_insert hL h0 _ _ _) _
  | exact put t fun _ h0 _ h3=>prws_row h3 (fun _ hL=>prow_delete hL h0 _ _ _) _
  | exact iter (fun u=>print u u.last) _ t
  | exact same rfl rfl rfl rfl rfl rfl rfl rfl (.inl rfl)
theorem csi (t:Tm) {a:AcS} (h1:a.m≠63) (h2:a.m≠33) (h3:a.fin≠115):Stp t (t.csi a):=by
 unfold Tm.csi
 dsimp only
 rw [if_neg (fun e=>h1 e.1),if_neg (fun e=>h2 e.1),if_neg h3]
 repeat' with_reducible refine ite ?_ ?_
 all_goals first
  | exact refl t
  | exact atY _ _
  | exact atX _ _
  | exact (atY t _).trans (atX _ _)
  | exact iter (fun u=>tab u) _ t
  | exact iter (fun u=>tabBack u) _ t
  | exact Stp.trans (u:={ t with top:=numP a.ps 0 1-1,bot:=min (numP a.ps 1 t.r) t.r-1 }) (same rfl rfl rfl rfl rfl rfl rfl rfl (.inl rfl)) (home _)
  | exact restored t
  | exact same rfl rfl rfl rfl rfl rfl rfl rfl (.inl (pens_lk _ _))
  | exact edit t a _
end Stp
end Go.Proofs.YtlcipgdnpilkfaaGreatDoor
