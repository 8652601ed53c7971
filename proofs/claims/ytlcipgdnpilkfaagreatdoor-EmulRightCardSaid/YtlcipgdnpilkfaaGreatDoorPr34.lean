/-
  Part 34 of what the laws of emul want: LinksRight, EmulRight, GridSm.
-/
import Derived.Test.YtlcipgdnpilkfaaGreatDoorPr13
import Derived.Test.YtlcipgdnpilkfaaGreatDoorPr15
import Derived.Test.YtlcipgdnpilkfaaGreatDoorPr16
import Derived.Test.YtlcipgdnpilkfaaGreatDoorPr32
import Derived.Test.YtlcipgdnpilkfaaGreatDoorPr33
namespace Go.Proofs.YtlcipgdnpilkfaaGreatDoor
open Go.RowKit
theorem retBR {a b:Bool} (h:a=b):Ending.returned (.bool a)=.returned (.bool b):=by rw [h]
theorem comeS_append (m:Nat) (xs ys:List Ce):comeS m (xs ++ ys)=(comeS m xs).bind fun k=>comeS k ys:=by
 induction xs generalizing m with
 | nil=>rfl
 | cons a xs ih =>
  rw [List.cons_append,comeS,comeS]
  split
  · rfl
  · exact ih _
theorem comeS_step {cs:List Ce} {k t:Nat} (hk:k<cs.length) (h:comeS 0 (cs.take k)=some t):comeS 0 (cs.take (k+1))=if (t:Int)+1<(cAt cs k).p.lk then none else some (max t (cAt cs k).p.lk.toNat):=by
 rw [List.take_succ_eq_append_getElem hk,comeS_snoc,h,cAt_lt hk]
 rfl
theorem comeS_none {cs:List Ce} {k:Nat} (h:comeS 0 (cs.take k)=none):comeS 0 cs=none:=by
 rw [← List.take_append_drop k cs,comeS_append,h]
 rfl
theorem ord_long {cs:List Ce} {l:List ByteArray} (h:¬ l.length≤16):ordC cs l=false:=by unfold ordC;rw [decide_eq_false h];rfl
theorem ord_bad {cs:List Ce} {l:List ByteArray} {s:ByteArray} (hs:s∈l) (h:mayT s=false):ordC cs l=false:=by
 unfold ordC
 rw [decide_eq_false (show ¬ ∀ s∈l,mayT s=true from fun x=>by rw [x s hs] at h;cases h)]
 simp
theorem ord_twice {cs:List Ce} {l:List ByteArray} (h:¬ l.Nodup):ordC cs l=false:=by
 unfold ordC
 rw [decide_eq_false h]
 simp
theorem ord_come {cs:List Ce} {l:List ByteArray} (h:comeS 0 cs=none):ordC cs l=false:=by unfold ordC;rw [h];simp
theorem ord_all {cs:List Ce} {l:List ByteArray} {t:Nat} (h1:l.length≤16) (h2:∀ s∈l,mayT s=true) (h3:l.Nodup) (h4:comeS 0 cs=some t):ordC cs l=decide ((t:Int)=(l.length:Int)):=by
 unfold ordC
 rw [decide_eq_true h1,decide_eq_true h2,decide_eq_true h3,h4]
 simp only [Bool.and_true,Bool.true_and,Option.some.injEq]
 rw [decide_eq_decide]
 omega
theorem nodup_take_snoc {l:List ByteArray} {k:Nat} (hk:k<l.length) (h:(l.take k).Nodup) (hn:sAt l k ∉ l.take k):(l.take (k+1)).Nodup:=by
 rw [take_snocT hk,List.nodup_append]
 refine ⟨h,by simp,fun x hx y hy e=>hn ?_⟩
 rw [← List.mem_singleton.1 hy,← e]
 exact hx
set_option maxHeartbeats 4000000 in
theorem lRight_any {w:World} {A A':Option Addr} {n c m c':Nat} {cs:List Ce} {L:List ByteArray} (h:Vs ceV w A n cs) (h':Vs stV w A' m L) (hl:∀ x∈cs,0≤x.p.lk∧x.p.lk≤65535) (hs:∀ s∈L,s.size≤140737488351232) (hn:n≤60000) (hm:m≤60000) (hmc:m≤c') :
  Calls Tryz.prog 63 #[.slice A n c,.slice A' m c'] w fun e w'=>e=.returned (.bool (ordC cs L))∧Below w.heap.size w w':=by
 obtain rfl:=h.len
 obtain rfl:=h'.len
 have H:=Lib.hid (And.intro h h')
 have HL:=Lib.hid (And.intro hl hs)
 clear h h' hl hs
 by_cases h16:L.length≤16
 · go_enter Tryz.func63,Tryz.ntmps63
   go_wp2
   go_loop [16] (fun i=>∃ k:Nat,k≤L.length∧i=.int .i64 k∧(∀ s∈L.take k,mayT s=true)∧(L.take k).Nodup) (fun i=>L.length-(intOf i).toNat)
   case atStart=>exact ⟨0,Nat.zero_le _,rfl,by simp,by simp⟩
   case round =>
    obtain ⟨k,hk,rfl,h1,h2⟩:=hrel
    have Y:=Lib.hid (And.intro h1 h2)
    clear h1 h2
    by_cases hlt:k<L.length
    · obtain ⟨ad,rfl⟩:=H.out.2.addr (by omega)
      have hc:=H.out.2.str hlt
      have hx:=HL.out.2 _ (sAt_mem hlt)
      have HM:=Lib.hid (sAt_mem hlt)
      have HT:=Lib.hid (take_snocT hlt)
      have HND:=Lib.hid (nodup_take_snoc hlt Y.out.2)
      have HF:=Lib.hid (H.out.2.front stV_len (k:=k) hk)
      have hin:Hid (sAt L k∈L.take k→¬ L.Nodup):=Lib.hid (fun hi hd=>not_in_take hd hlt hi)
      generalize sAt L k=x at hc hx HM HT HND hin
      go_wp2_with fail
      refine (mayT_any x _ hx).mono ?_
      rintro e w' ⟨rfl,rfl⟩
      cases hmx:mayT x
      · have X:Hid (ordC cs L=false):=Lib.hid (ord_bad HM.out hmx)
        clear hmx
        go_wp2_with fail
        go_ret
        exact ⟨retBR X.out.symm,Below.refl _ _⟩
      · have HMX:=Lib.hid hmx
        clear hmx
        go_wp2_with fail
        refine (hasT_any HF.out x (by omega)).mono ?_
        rintro e w' ⟨rfl,rfl⟩
        by_cases hp:x∈L.take k
        · have X:Hid (ordC cs L=false):=Lib.hid (ord_twice (hin.out hp))
          have e1:decide (0≤placeI (L.take k) x)=true:=by
           obtain ⟨j,_,e,_,_⟩:=placeI_mem hp
           rw [e];simp
          rw [e1]
          clear e1 hp
          go_wp2_with fail
          go_ret
          exact ⟨retBR X.out.symm,Below.refl _ _⟩
        · have e1:decide (0≤placeI (L.take k) x)=false:=by rw [placeI_none.2 hp];decide
          rw [e1]
          have HP:=Lib.hid hp
          clear e1 hp
          go_wp2_with fail
          go_round
          case rel =>
           refine ⟨k+1,by omega,by go_num,?_,HND.out HP.out⟩
           rw [HT.out]
           intro s hs
           rcases List.mem_append.1 hs with hs | hs
           · exact Y.out.1 s hs
           · rw [List.mem_singleton.1 hs];exact HMX.out
          case measure=>simp [intOf];omega
    · have e:L.take k=L:=List.take_of_length_le (by omega)
      rw [e] at Y
      clear e
      go_wp2_with fail
      go_loopw [7,34] (fun o i wr=>∃ (k t:Nat),k≤cs.length∧t≤65535∧i=.int .i64 k∧o=.int .i64 t∧comeS 0 (cs.take k)=some t∧Below w.heap.size w wr) (fun _ i _=>cs.length-(intOf i).toNat)
      case atStart=>exact ⟨0,0,Nat.zero_le _,by omega,rfl,rfl,rfl,Below.refl _ _⟩
      case round =>
       obtain ⟨k,t,hk,ht,rfl,rfl,hcm,hb⟩:=hrel
       have Z:=Lib.hid (And.intro hcm hb)
       clear hcm hb
       by_cases hlt:k<cs.length
       · obtain ⟨ad,rfl⟩:=H.out.1.addr (by omega)
         obtain ⟨hc0,hc1,hc2,hc3,hc4,hc5⟩:=(H.out.1.below Z.out.2).six hlt
         have hlk:=HL.out.1 (cAt cs k) (by rw [cAt_lt hlt];exact List.getElem_mem _)
         have HC:=Lib.hid (comeS_step hlt Z.out.1)
         generalize cAt cs k=x at hc0 hc1 hc2 hc3 hc4 hc5 hlk HC
         obtain ⟨q,hq⟩:∃ q:Nat,x.p.lk=(q:Int):=⟨x.p.lk.toNat,by omega⟩
         rw [hq] at hc5 hlk HC
         have hq1:q≤65535:=by omega
         have HB1:=Lib.hid (Z.out.2.alloc Z.out.2.size (.cells #[.int .i32 x.r,.int .u8 x.wd,.int .u32 x.p.fg,.int .u32 x.p.bg,.int .u8 x.p.st,.int .u16 q] 66))
         clear hlk hq
         by_cases hgt:(t:Int)+1<(q:Int)
         · have X:Hid (ordC cs L=false):=Lib.hid (ord_come (comeS_none (HC.out.trans (if_pos hgt))))
           go_wp2_with fail
           go_ret
           exact ⟨retBR X.out.symm,HB1.out⟩
         · have HC1:Hid (comeS 0 (cs.take (k+1))=some (max t q)):=Lib.hid (HC.out.trans (if_neg hgt))
           have hmax:max (t:Int) (q:Int)=((max t q:Nat):Int):=by omega
           have htq:max t q≤65535:=by omega
           generalize max t q=t' at HC1 hmax htq
           go_wp2_with fail
           go_roundw
           case rel=>exact ⟨k+1,t',by omega,htq,by go_num,rfl,HC1.out,HB1.out⟩
           case measure=>simp [intOf];omega
       · have e:cs.take k=cs:=List.take_of_length_le (by omega)
         have X:Hid (ordC cs L=decide ((t:Int)=(L.length:Int))):=Lib.hid (ord_all h16 Y.out.1 Y.out.2 (by rw [← e];exact Z.out.1))
         clear e
         go_wp2_with fail
         go_ret
         exact ⟨retBR (X.out.trans (by first | rfl | (rw [Bool.eq_iff_iff];simp))).symm,Z.out.2⟩
 · have X:Hid (ordC cs L=false):=Lib.hid (ord_long h16)
   have hgt:(16:Int)<(L.length:Int):=by omega
   go_enter Tryz.func63,Tryz.ntmps63
   go_wp2_with fail
   go_ret
   exact ⟨retBR X.out.symm,Below.refl _ _⟩
open Go.RowKit
structure ScR where
 c:Int
 r:Int
 A:Option Addr
 n:Nat
 k:Nat
 x:Int
 y:Int
 hid:Bool
 mouse:Int
 ttl:ByteArray
 T:Option Addr
 m:Nat
 q:Nat
def scrA (s:ScR):Array Value:=#[.int .i64 s.c,.int .i64 s.r,.slice s.A s.n s.k,.int .i64 s.x,.int .i64 s.y,.bool s.hid,.int .u8 s.mouse,.string s.ttl,.slice s.T s.m s.q]
structure ScIn (w:World) (s:ScR) (S:Sc):Prop where
 c:S.c=s.c
 r:S.r=s.r
 x:S.x=s.x
 y:S.y=s.y
 hid:S.hid=s.hid
 mouse:S.mouse=s.mouse
 ttl:S.title=sL s.ttl
 cells:Vs ceV w s.A s.n S.cells
 links:Vs stV w s.T s.m S.links
 nk:s.n≤s.k
 n9:s.n≤9223372036854775807
 mq:s.m≤s.q
 lk:∀ x∈S.cells,0≤x.p.lk∧x.p.lk≤65535
 sz:∀ u∈S.links,u.size≤140737488351232
 tz:s.ttl.size≤140737488351232
theorem ScIn.below {w w':World} {s:ScR} {S:Sc} (h:ScIn w s S) (hb:Below w.heap.size w w'):ScIn w' s S:={ h with cells:=h.cells.below hb,links:=h.links.below hb }
theorem right_is (S:Sc):rightSc S=(gridMay S.c S.r S.cells && ordS S.cells S.links && tMay S.title && decide (S.mouse≤2) && decide (0≤S.x) && decide (S.x<S.c) && decide (0≤S.y) && decide (S.y<S.r)):=by
 unfold rightSc tMay
 rw [Bool.eq_iff_iff]
 simp only [Bool.and_eq_true,decide_eq_true_eq]
 constructor
 · rintro ⟨⟨⟨⟨⟨⟨h1,h2⟩,h3⟩,h4⟩,h5⟩,h6⟩,h7⟩
   exact ⟨⟨⟨⟨⟨⟨⟨h1,h2⟩,⟨⟨h5,h6⟩,h7⟩⟩,h4⟩,h3.1⟩,h3.2.1⟩,h3.2.2.1⟩,h3.2.2.2⟩
 · rintro ⟨⟨⟨⟨⟨⟨⟨h1,h2⟩,⟨⟨h5,h6⟩,h7⟩⟩,h4⟩,h8⟩,h9⟩,h10⟩,h11⟩
   exact ⟨⟨⟨⟨⟨⟨h1,h2⟩,h8,h9,h10,h11⟩,h4⟩,h5⟩,h6⟩,h7⟩
set_option maxHeartbeats 6400000 in
set_option maxRecDepth 100000 in
theorem rightT_any {w:World} {s:ScR} {S:Sc} (hT:Tabs w) (h:ScIn w s S) (hn:s.n≤60000) (hm:s.m≤60000) :
  Calls Tryz.prog 22 #[.agg (scrA s)] w fun e w'=>e=.returned (.bool (rightSc S))∧Below w.heap.size w w':=by
 have HR:=Lib.hid (right_is S)
 generalize rightSc S=RS at HR ⊢
 have HT:=Lib.hid hT
 have HS:=Lib.hid h
 obtain ⟨b,hb⟩:∃ b,b=w.heap.size:=⟨_,rfl⟩
 obtain ⟨w1,hw1⟩:∃ w1,w1=w.alloc (.cells (scrA s) 56):=⟨_,rfl⟩
 obtain ⟨w2,hw2⟩:∃ w2,w2=w1.alloc (.cells (gV s.c s.r s.A s.n s.k) 26):=⟨_,rfl⟩
 have hb1:Below w.heap.size w w1:=by rw [hw1];exact (Below.refl _ _).alloc (Nat.le_refl _) _
 have hb2:Below w.heap.size w w2:=by rw [hw2];exact hb1.alloc hb1.size _
 have h12:Below w1.heap.size w1 w2:=by rw [hw2];exact (Below.refl _ _).alloc (Nat.le_refl _) _
 have hlt:b<w1.heap.size:=by rw [hw1,hb];simp
 have H1:∀ k v,(scrA s)[k]?=some v→w1.cell? ⟨b,k,none⟩=some v:=fun k v hv=>by
  rw [hw1,hb]
  exact newCell w _ _ k hv
 have HC:=Lib.hid (show ∀ w',Below w2.heap.size w2 w'→w'.cell? ⟨b,0,none⟩=some (.int .i64 s.c)∧w'.cell? ⟨b,1,none⟩=some (.int .i64 s.r)∧w'.cell? ⟨b,2,none⟩=some (.slice s.A s.n s.k)∧w'.cell? ⟨b,3,none⟩=some (.int .i64 s.x)∧w'.cell? ⟨b,4,none⟩=some (.int .i64 s.y)∧w'.cell? ⟨b,6,none⟩=some (.int .u8 s.mouse)∧w'.cell? ⟨b,7,none⟩=some (.string s.ttl)∧w'.cell? ⟨b,8,none⟩=some (.slice s.T s.m s.q) from fun w' hb'=>by
  have hs:=h12.size
  have hc:∀ k,w'.cell? ⟨b,k,none⟩=w1.cell? ⟨b,k,none⟩:=fun k=>(hb'.cell (p:=⟨b,k,none⟩) (by show b<_;omega)).trans (h12.cell (p:=⟨b,k,none⟩) hlt)
  simp only [hc]
  exact ⟨H1 0 _ rfl,H1 1 _ rfl,H1 2 _ rfl,H1 3 _ rfl,H1 4 _ rfl,H1 6 _ rfl,H1 7 _ rfl,H1 8 _ rfl⟩)
 have c0:w1.cell? ⟨b,0,none⟩=some (.int .i64 s.c):=H1 0 _ rfl
 have c1:w1.cell? ⟨b,1,none⟩=some (.int .i64 s.r):=H1 1 _ rfl
 have c2:w1.cell? ⟨b,2,none⟩=some (.slice s.A s.n s.k):=H1 2 _ rfl
 have HBZ:=Lib.hid hb2
 have HM:=Lib.hid (gMay_any (c:=s.c) (r:=s.r) (k:=s.k) (HS.out.cells.below hb2) (HT.out.below hb2 (Nat.le_refl _)) HS.out.nk HS.out.n9)
 have HLK:=Lib.hid (fun w' (hb':Below w.heap.size w w')=>lRight_any (c:=s.k) (HS.out.cells.below hb') (HS.out.links.below hb') HS.out.lk HS.out.sz hn hm HS.out.mq)
 rw [ord_is (fun x hx=>(HS.out.lk x hx).1)] at HLK
 have HTM:=Lib.hid (fun w' (hb':Below w.heap.size w w')=>titleMay_any s.ttl (HT.out.below hb' (Nat.le_refl _)) HS.out.tz)
 rw [HS.out.c,HS.out.r,HS.out.x,HS.out.y,HS.out.mouse,HS.out.ttl] at HR
 obtain ⟨MM,hMM⟩:∃ MM,gridMay s.c s.r S.cells=MM:=⟨_,rfl⟩
 obtain ⟨OO,hOO⟩:∃ OO,ordS S.cells S.links=OO:=⟨_,rfl⟩
 obtain ⟨TT,hTT⟩:∃ TT,tMay (sL s.ttl)=TT:=⟨_,rfl⟩
 rw [hMM] at HM HR
 rw [hOO] at HLK HR
 rw [hTT] at HTM HR
 clear hT h hb1 h12 hlt H1 hMM hOO hTT hb2 hn hm
 have hgv:gV s.c s.r s.A s.n s.k=#[.int .i64 s.c,.int .i64 s.r,.slice s.A s.n s.k]:=rfl
 rw [hgv] at hw2 HM
 clear hgv
 unfold scrA at hw1 ⊢
 go_enter Tryz.func22,Tryz.ntmps22
 go_upto_region 1 with fail
 rw [← hw1,← hb]
 clear hw1 hb
 go_upto_region 2 with fail
 obtain ⟨b2,hbb⟩:∃ b2,b2=w1.heap.size:=⟨_,rfl⟩
 have HD:=Lib.hid (show w2.cell? ⟨b2,0,none⟩=some (.int .i64 s.c)∧w2.cell? ⟨b2,1,none⟩=some (.int .i64 s.r)∧w2.cell? ⟨b2,2,none⟩=some (.slice s.A s.n s.k) from by
  rw [hw2,hbb]
  exact ⟨newCell w1 _ _ 0 rfl,newCell w1 _ _ 1 rfl,newCell w1 _ _ 2 rfl⟩)
 rw [← hw2,← hbb]
 clear hw2 hbb c0 c1 c2
 obtain ⟨d0,d1,d2⟩:=HD.out
 go_wp2_with fail
 refine HM.out.mono ?_
 rintro e w3 ⟨rfl,hb3⟩
 have H3:=Lib.hid (HBZ.out.trans (hb3.mono HBZ.out.size))
 have H23:=Lib.hid hb3
 obtain ⟨a0,a1,a2,a3,a4,a6,a7,a8⟩:=HC.out w3 hb3
 clear hb3 d0 d1 d2
 cases MM
 · have E:=Lib.hid (show RS=false from by rw [HR.out];simp)
   go_wp2_with fail
   go_ret
   exact ⟨by rw [E.out];rfl,H3.out⟩
 go_wp2_with fail
 refine (HLK.out w3 H3.out).mono ?_
 rintro e w4 ⟨rfl,hb4⟩
 have H4:=Lib.hid (H3.out.trans (hb4.mono H3.out.size))
 have H24:=Lib.hid (H23.out.trans (hb4.mono H23.out.size))
 clear hb4 a0 a1 a2 a3 a4 a6 a7 a8
 obtain ⟨a0,a1,a2,a3,a4,a6,a7,a8⟩:=HC.out w4 H24.out
 cases OO
 · have E:=Lib.hid (show RS=false from by rw [HR.out];simp)
   go_wp2_with fail
   go_ret
   exact ⟨by rw [E.out];rfl,H4.out⟩
 go_wp2_with fail
 refine (HTM.out w4 H4.out).mono ?_
 rintro e w5 ⟨rfl,hb5⟩
 have H5:=Lib.hid (H4.out.trans (hb5.mono H4.out.size))
 have H25:=Lib.hid (H24.out.trans (hb5.mono H24.out.size))
 clear hb5 a0 a1 a2 a3 a4 a6 a7 a8
 obtain ⟨a0,a1,a2,a3,a4,a6,a7,a8⟩:=HC.out w5 H25.out
 cases TT
 · have E:=Lib.hid (show RS=false from by rw [HR.out];simp)
   go_wp2_with fail
   go_ret
   exact ⟨by rw [E.out];rfl,H5.out⟩
 by_cases hm:s.mouse≤2
 case neg =>
  have E:=Lib.hid (show RS=false from by rw [HR.out,decide_eq_false hm];simp)
  go_wp2_with fail
  go_ret
  exact ⟨by rw [E.out];rfl,H5.out⟩
 by_cases hx0:0≤s.x
 case neg =>
  have E:=Lib.hid (show RS=false from by rw [HR.out,decide_eq_false hx0];simp)
  go_wp2_with fail
  go_ret
  exact ⟨by rw [E.out];rfl,H5.out⟩
 by_cases hx1:s.x<s.c
 case neg =>
  have E:=Lib.hid (show RS=false from by rw [HR.out,decide_eq_false hx1];simp)
  go_wp2_with fail
  go_ret
  exact ⟨by rw [E.out];rfl,H5.out⟩
 by_cases hy0:0≤s.y
 case neg =>
  have E:=Lib.hid (show RS=false from by rw [HR.out,decide_eq_false hy0];simp)
  go_wp2_with fail
  go_ret
  exact ⟨by rw [E.out];rfl,H5.out⟩
 by_cases hy1:s.y<s.r
 case neg =>
  have E:=Lib.hid (show RS=false from by rw [HR.out,decide_eq_false hy1];simp)
  go_wp2_with fail
  go_ret
  exact ⟨by rw [E.out,decide_eq_false (Int.not_lt.2 hy1)];rfl,H5.out⟩
 have E:=Lib.hid (show RS=true from by rw [HR.out,decide_eq_true hm,decide_eq_true hx0,decide_eq_true hx1,decide_eq_true hy0,decide_eq_true hy1];rfl)
 go_wp2_with fail
 go_ret
 exact ⟨by rw [E.out];rfl,H5.out⟩
open Go.RowKit
set_option maxHeartbeats 1600000 in
theorem copyG_any {w:World} {A:Option Addr} {n k:Nat} {c r:Int} {L:List Ce} (h:Vs ceV w A n L) (hn:n≤1000000) :
  Calls Tryz.prog 74 #[.agg (gV c r A n k)] w (MadeG c r L w):=by
 obtain ⟨w0,hw0⟩:∃ w0,w0=(w.alloc (.cells (gV c r A n k) 26)).alloc (.cells (gV 0 0 none 0 0) 26):=⟨_,rfl⟩
 obtain ⟨b,hbe⟩:∃ b,b=w.heap.size:=⟨_,rfl⟩
 have H:=Lib.hid (show Gb w0 b ⟨c,r,A,n,k⟩∧Gb w0 (b+1) gr0∧Below w.heap.size w w0∧Vs ceV w0 A n L∧b=w.heap.size from by
  have h3:=gb_new (w.alloc (.cells (gV c r A n k) 26)) gr0
  rw [alloc_size] at h3
  have b3:=(below1 w (.cells (gV c r A n k) 26)).alloc (below1 w _).size (.cells (gV 0 0 none 0 0) 26)
  rw [hw0,hbe]
  exact ⟨(gb_new w ⟨c,r,A,n,k⟩).below (below1 _ _),h3,b3,h.below b3,rfl⟩)
 have HL:=Lib.hid h.len
 clear h
 obtain ⟨c0,c1,c2,_⟩:=H.out.1.g3
 unfold gV at hw0
 go_enter Tryz.func74,Tryz.ntmps74
 unfold gV
 go_upto_region 1 with fail
 rw [← hw0,← hbe]
 clear hw0 hbe
 go_wp2_with fail
 refine (copyC_any H.out.2.2.2.1 hn).mono ?_
 rintro e w1 ⟨hb,g,k2,rfl,hg,hk1,hk2,hR⟩
 rw [HL.out] at hk1 ⊢
 have X:=Lib.hid (show Gb w1 b ⟨c,r,A,n,k⟩∧Gb w1 (b+1) gr0∧Below w.heap.size w w1∧Rw ceV 66 w1 g L∧w0.heap.size≤g from ⟨H.out.1.below hb,H.out.2.1.below hb,H.out.2.2.1.trans (hb.mono H.out.2.2.1.size),hR,hg⟩)
 clear hb hg hR c0 c1 c2
 obtain ⟨c0,c1,c2,_⟩:=X.out.1.g3
 have f2:=X.out.1.rw.free 2
 have hlt:=H.out.2.1.lt
 have HS:=Lib.hid (show Gb (w1.setCell ⟨b,2,none⟩ (.slice (some ⟨g,0,none⟩) n k2)) b ⟨c,r,some ⟨g,0,none⟩,n,k2⟩∧Gb (w1.setCell ⟨b,2,none⟩ (.slice (some ⟨g,0,none⟩) n k2)) (b+1) gr0∧Below w.heap.size w (w1.setCell ⟨b,2,none⟩ (.slice (some ⟨g,0,none⟩) n k2))∧Rw ceV 66 (w1.setCell ⟨b,2,none⟩ (.slice (some ⟨g,0,none⟩) n k2)) g L from by
  have hg2:w1.grownBy (w1.setCell ⟨b,2,none⟩ (.slice (some ⟨g,0,none⟩) n k2)) (some b):=⟨rfl,rfl,rfl,by simp [World.setCell],fun i _ hne=>heap_setCell_other w1 _ i _ (fun e=>hne (by rw [e]))⟩
  have h7:=X.out.2.2.2.2
  exact ⟨(heap_setCell_same w1 _ _ _ _ _ X.out.1).trans rfl,X.out.2.1.grown hg2 (by simp),X.out.2.2.1.grown hg2 X.out.2.2.1.size (by intro k hk;injection hk with hk;have:=H.out.2.2.2.2;omega),X.out.2.2.2.1.grown hg2 (by simp;omega)⟩)
 go_upto_region 2 with fail
 generalize w1.setCell ⟨b,2,none⟩ (.slice (some ⟨g,0,none⟩) n k2)=w2 at HS ⊢
 clear c0 c1 c2 f2
 obtain ⟨c0,c1,c2,_⟩:=HS.out.1.g3
 go_wp2_with (refine wpList_store_G rfl (.tmp 2) (.tmp 7) rfl (b+1) gr0 ⟨c,r,some ⟨g,0,none⟩,n,k2⟩ rfl rfl HS.out.2.1 ?_;intro w5 hG5 hg5)
 refine bodyPost_ret (retG Tryz.results74 hG5 rfl) rfl ?_
 exact ⟨HS.out.2.2.1.grown hg5 HS.out.2.2.1.size (by intro k hk;injection hk with hk;have:=H.out.2.2.2.2;omega),g,k2,by rw [HL.out],by have:=X.out.2.2.2.2;have:=H.out.2.2.1.size;omega,by rw [HL.out];exact hk1,hk2,HS.out.2.2.2.grown hg5 (by have:=X.out.2.2.2.2;simp;omega)⟩
end Go.Proofs.YtlcipgdnpilkfaaGreatDoor
