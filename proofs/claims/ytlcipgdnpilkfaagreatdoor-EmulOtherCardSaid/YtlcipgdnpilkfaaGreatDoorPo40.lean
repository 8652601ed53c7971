/-
  Part 40 of what the laws of emul want: EmulObey, EmulDo.
-/
import Derived.Test.YtlcipgdnpilkfaaGreatDoorPo23
import Derived.Test.YtlcipgdnpilkfaaGreatDoorPo28
import Derived.Test.YtlcipgdnpilkfaaGreatDoorPo30
import Derived.Test.YtlcipgdnpilkfaaGreatDoorPo37
import Derived.Test.YtlcipgdnpilkfaaGreatDoorPo38
import Derived.Test.YtlcipgdnpilkfaaGreatDoorPo39
namespace Go.Proofs.YtlcipgdnpilkfaaGreatDoor
open Go.RowKit
section
variable {B:Nat} {w:World} {g:Nat} {x:CT} {A:Option Addr} {n c:Nat} {ps:List Int}
theorem dd_in (d:Dd):FnIn d.fn:=by
 cases d
 case left=>exact fn_in Tryz.func104 (by kernel_rfl) rfl
 case tabAhead=>exact fn_in Tryz.func105 (by kernel_rfl) rfl
 case lineDown=>exact fn_in Tryz.func106 (by kernel_rfl) rfl
 case lineStart=>exact fn_in Tryz.func107 (by kernel_rfl) rfl
 case save=>exact fn_in Tryz.func108 (by kernel_rfl) rfl
 case restore=>exact fn_in Tryz.func109 (by kernel_rfl) rfl
 case nextLine=>exact fn_in Tryz.func100 (by kernel_rfl) rfl
 case lineUp=>exact fn_in Tryz.func110 (by kernel_rfl) rfl
 case setTab=>exact fn_in Tryz.func111 (by kernel_rfl) rfl
 case reset=>exact fn_in Tryz.func112 (by kernel_rfl) rfl
 case up=>exact fn_in Tryz.func162 (by kernel_rfl) rfl
 case down=>exact fn_in Tryz.func163 (by kernel_rfl) rfl
 case right=>exact fn_in Tryz.func160 (by kernel_rfl) rfl
 case startsDown=>exact fn_in Tryz.func164 (by kernel_rfl) rfl
 case startsUp=>exact fn_in Tryz.func165 (by kernel_rfl) rfl
 case toColumn=>exact fn_in Tryz.func166 (by kernel_rfl) rfl
 case toRow=>exact fn_in Tryz.func167 (by kernel_rfl) rfl
 case toPlace=>exact fn_in Tryz.func168 (by kernel_rfl) rfl
 case tabBack=>exact fn_in Tryz.func169 (by kernel_rfl) rfl
 case takeTabs=>exact fn_in Tryz.func170 (by kernel_rfl) rfl
 case setMargins=>exact fn_in Tryz.func171 (by kernel_rfl) rfl
 case insert=>exact fn_in Tryz.func172 (by kernel_rfl) rfl
 case takeOut=>exact fn_in Tryz.func173 (by kernel_rfl) rfl
 case eraseSome=>exact fn_in Tryz.func174 (by kernel_rfl) rfl
 case eraseScreen=>exact fn_in Tryz.func175 (by kernel_rfl) rfl
 case eraseRow=>exact fn_in Tryz.func176 (by kernel_rfl) rfl
 case insertRows=>exact fn_in Tryz.func177 (by kernel_rfl) rfl
 case takeOutRows=>exact fn_in Tryz.func178 (by kernel_rfl) rfl
 case scrollUp=>exact fn_in Tryz.func179 (by kernel_rfl) rfl
 case scrollDown=>exact fn_in Tryz.func180 (by kernel_rfl) rfl
 case again=>exact fn_in Tryz.func181 (by kernel_rfl) rfl
 case setPlain=>exact fn_in Tryz.func182 (by kernel_rfl) rfl
 case unsetPlain=>exact fn_in Tryz.func183 (by kernel_rfl) rfl
 case look=>exact fn_in Tryz.func184 (by kernel_rfl) rfl
 case setPrivate=>exact fn_in Tryz.func185 (by kernel_rfl) rfl
 case unsetPrivate=>exact fn_in Tryz.func186 (by kernel_rfl) rfl
 case softReset=>exact fn_in Tryz.func116 (by kernel_rfl) rfl
theorem dd_any (hT:Tabs w) (h:Cz B w g x) (hN:Nm w (CB g x) A n c ps) (hA:Calls Tryz.prog 181 #[.pointer (some ⟨g,0,none⟩),.slice A n c] w (CzP B g x (Dd.again.run ps x.t) w)) (d:Dd):Calls Tryz.prog d.fn #[.pointer (some ⟨g,0,none⟩),.slice A n c] w (CzP B g x (d.run ps x.t) w):=by
 cases d
 case left=>exact leftT_any h hN
 case tabAhead=>exact tabAhead_any h hN
 case lineDown=>exact lineDown_any hT h
 case lineStart=>exact lineStart_any h
 case save=>exact save_any h
 case restore=>exact restore_any h
 case nextLine=>exact nextLine_any hT h
 case lineUp=>exact lineUp_any hT h
 case setTab=>exact setTab_any h
 case reset=>exact resetT_any h
 case up=>exact up_any h hN
 case down=>exact down_any h hN
 case right=>exact right_any h hN
 case startsDown=>exact startsDown_any h hN
 case startsUp=>exact startsUp_any h hN
 case toColumn=>exact toColumn_any h hN
 case toRow=>exact toRow_any h hN
 case toPlace=>exact toPlace_any h hN
 case tabBack=>exact tabBack_any h hN
 case takeTabs=>exact takeTabs_any h hN
 case setMargins=>exact setMargins_any h hN
 case insert=>exact insertT_any hT h hN
 case takeOut=>exact takeOutT_any hT h hN
 case eraseSome=>exact eraseSomeT_any hT h hN
 case eraseScreen=>exact eraseScreen_any hT h hN
 case eraseRow=>exact eraseRow_any hT h hN
 case insertRows=>exact insertRows_any hT h hN
 case takeOutRows=>exact takeOutRows_any hT h hN
 case scrollUp=>exact scrollUp_any hT h hN
 case scrollDown=>exact scrollDown_any hT h hN
 case again=>exact hA
 case setPlain=>exact setPlain_any hT h hN
 case unsetPlain=>exact unsetPlain_any hT h hN
 case look=>exact look_any h hN
 case setPrivate=>exact setPrivate_any hT h hN
 case unsetPrivate=>exact unsetPrivate_any hT h hN
 case softReset=>exact softReset_any h
theorem obeyNil_any (g:Nat) (A:Option Addr) (n c:Nat) (w:World):Calls Tryz.prog 51 #[.pointer (some ⟨g,0,none⟩),.nilFunc,.slice A n c] w fun e w'=>e=.returned (.tuple #[])∧w'=w:=by
 have hz:=fn_nil Tryz.underlying108
 go_enter Tryz.func51,Tryz.ntmps51
 go_wp2_with fail
 go_end0
 exact ⟨rfl,rfl⟩
theorem obeyDo_any {F:Nat} {t':Tm} (hF:FnIn F) (hC:Calls Tryz.prog F #[.pointer (some ⟨g,0,none⟩),.slice A n c] w (CzP B g x t' w)):Calls Tryz.prog 51 #[.pointer (some ⟨g,0,none⟩),.func (.func F) #[] #[],.slice A n c] w (CzP B g x t' w):=by
 have hs:=fn_some Tryz.underlying108
 have hcf:∀ (args:Array Value) (w:World),(callFunc F args).run Tryz.prog w=.ok (.enter F args) w:=hF
 have HC:=Lib.hid hC
 clear hC
 go_enter Tryz.func51,Tryz.ntmps51
 go_wp2_with fail
 refine HC.out.mono ?_
 rintro e w2 ⟨rfl,y,hy⟩
 have Y:=Lib.hid hy
 clear hy
 go_wp2_with fail
 go_end0
 exact ⟨rfl,y,Y.out⟩
end
open Go.RowKit
section
variable {B:Nat} {w:World} {g:Nat} {x:CT} {A:Option Addr} {n c:Nat} {ps:List Int}
theorem again_any (hT:Tabs w) (h:Cz B w g x) (hN:Nm w (CB g x) A n c ps):Calls Tryz.prog 181 #[.pointer (some ⟨g,0,none⟩),.slice A n c] w (CzP B g x (Dd.again.run ps x.t) w) :=
 again_of hT h hN fun _ y hT' h'=>printT_any hT' h' y.t.last
theorem obey_any (hT:Tabs w) (h:Cz B w g x) (hN:Nm w (CB g x) A n c ps) (o:Option Dd):Calls Tryz.prog 51 #[.pointer (some ⟨g,0,none⟩),ddV o,.slice A n c] w (CzP B g x (runD o ps x.t) w):=by
 cases o with
 | none =>
  refine (obeyNil_any g A n c w).mono ?_
  rintro e w' ⟨rfl,rfl⟩
  exact ⟨rfl,x,CzTo.refl h⟩
 | some d=>exact obeyDo_any (dd_in d) (dd_any hT h hN (again_any hT h hN) d)
theorem Cz.notFull (h:Cz B w g x):CzTo B g x { x.t with full:=false } w (w.setCell ⟨g,22,none⟩ (.bool false)) { x with t:={ x.t with full:=false } } :=
 (h.raw.set 22 (.bool false)).fin h (y:={ x with t:={ x.t with full:=false } }) rfl ⟨rfl,rfl,rfl,rfl,rfl,rfl,rfl,rfl,rfl,rfl,rfl,rfl,rfl,rfl,rfl,rfl,rfl,h.tl⟩ (h.ok.notFull false)
theorem cell_lt {w:World} {b k:Nat} {v:Value} (h:w.cell? ⟨b,k,none⟩=some v):b<w.heap.size:=by
 rcases Nat.lt_or_ge b w.heap.size with h1 | h1
 · exact h1
 · have h2:w.heap[b]?=none:=Array.getElem?_eq_none h1
   simp [World.cell?,h2] at h
structure ActIn (w:World) (g:Nat) (x:CT) (y:AcR):Prop where
 rd:RdA w y
 off:∀ ad,y.P=some ad→0<y.np→¬ CB g x ad.block
 u8:U8s y.a.tx
 np:y.np≤4611686018427387904
theorem mayAct_is {a:AcS} (h:mayAct a=true):a.ps.length≤16∧a.tx.length≤256∧∀ z∈a.ps,0≤z∧z≤9999:=by
 unfold mayAct at h
 simp only [Bool.and_eq_true,decide_eq_true_eq,List.all_eq_true] at h
 exact ⟨h.1.1,h.1.2,h.2⟩
theorem ActIn.nm {w:World} {g:Nat} {x:CT} {y:AcR} (h:ActIn w g x y) (hm:mayAct y.a=true):Nm w (CB g x) y.P y.np y.cp y.a.ps:=⟨h.rd.p,h.rd.lp,by rw [← h.rd.p.len];exact (mayAct_is hm).1,(mayAct_is hm).2.2,h.off⟩
set_option maxRecDepth 100000 in
set_option maxHeartbeats 6400000 in
theorem doT_any (hT:Tabs w) (h:Cz B w g x) (hl:LkOk x.t) (y:AcR) (hy:ActIn w g x y):Calls Tryz.prog 20 #[.pointer (some ⟨g,0,none⟩),.agg (acA y)] w (CzP B g x (x.t.doA y.a) w):=by
 generalize hD:x.t.doA y.a=T'
 have HD:=Lib.hid hD
 obtain ⟨b,hb⟩:∃ b,b=w.heap.size:=⟨_,rfl⟩
 obtain ⟨W,hW⟩:∃ W,W=w.alloc (.cells (acA y) 62):=⟨_,rfl⟩
 have HB:=Lib.hid (show Below w.heap.size w W from by rw [hW];exact (Below.refl _ _).alloc (Nat.le_refl _) _)
 have HT:=Lib.hid hT
 have HZ:=Lib.hid h
 have HL:=Lib.hid hl
 have HY:=Lib.hid hy
 have HC:=Lib.hid (show ∀ w',Below W.heap.size W w'→w'.cell? ⟨b,0,none⟩=some (.int .i64 y.a.k)∧w'.cell? ⟨b,1,none⟩=some (.int .i32 y.a.r)∧w'.cell? ⟨b,2,none⟩=some (.int .u8 y.a.m)∧w'.cell? ⟨b,3,none⟩=some (.int .u8 y.a.fin)∧w'.cell? ⟨b,4,none⟩=some (.slice y.P y.np y.cp)∧w'.cell? ⟨b,5,none⟩=some (.slice y.T y.nt y.ct) from fun w' hb'=>by
  have hlt:b<W.heap.size:=by rw [hW,hb];simp
  have hc:∀ k,w'.cell? ⟨b,k,none⟩=W.cell? ⟨b,k,none⟩:=fun k=>hb'.cell hlt
  rw [hc,hc,hc,hc,hc,hc,hW,hb]
  exact ⟨newCell w _ _ 0 rfl,newCell w _ _ 1 rfl,newCell w _ _ 2 rfl,newCell w _ _ 3 rfl,newCell w _ _ 4 rfl,newCell w _ _ 5 rfl⟩)
 have HBG:=Lib.hid (show ∀ w',Below W.heap.size W w'→Below w.heap.size w w' from fun w' hb'=>HB.out.trans (hb'.mono HB.out.size))
 have NB2:=Lib.hid (show ¬ CB g x b from fun hq=>by have:=h.hi _ hq;omega)
 have hne:b≠g:=by have:=h.lt;omega
 have HNE:=Lib.hid hne
 have HM:=Lib.hid (mayActs_any y (HY.out.rd.p.below HB.out) HY.out.rd.t.len HY.out.np)
 obtain ⟨MM,hMM⟩:∃ MM,mayAct y.a=MM:=⟨_,rfl⟩
 rw [hMM] at HM
 have HMM:=Lib.hid hMM
 obtain ⟨EE,hEE⟩:∃ EE,endsS y.a=EE:=⟨_,rfl⟩
 have HE:=Lib.hid (fun w'=>endsFull_any y w')
 rw [hEE] at HE
 have HEE:=Lib.hid hEE
 clear hT h hl hy hMM hEE hD hne
 unfold acA at HM HE ⊢ hW
 obtain ⟨a0,a1,a2,a3,a4,a5⟩:=HC.out W (Below.refl _ _)
 obtain ⟨⟨k,r,m,f,ps,tx⟩,P,np,cp,T,nt,ct⟩:=y
 simp only at HM HE HC a0 a1 a2 a3 a4 a5 hW ⊢
 cases MM
 · have E:=Lib.hid (show T'=x.t from by rw [← HD.out];unfold Tm.doA;rw [HMM.out,if_pos rfl])
   go_enter Tryz.func20,Tryz.ntmps20
   go_upto_region 1 with fail
   rw [← hW,← hb]
   clear hW hb
   go_wp2_with fail
   refine HM.out.mono ?_
   rintro e w1 ⟨rfl,hb1⟩
   have Y:=Lib.hid ((CzTo.refl HZ.out).below (HBG.out w1 hb1))
   clear hb1
   go_wp2_with fail
   (try simp only [Exit.inBlock,Exit.then])
   refine bodyPost_ret (results_none rfl _ _ _) rfl ?_
   exact ⟨rfl,x,Y.out.as E.out.symm⟩
 have HMA:=Lib.hid (mayAct_is HMM.out)
 by_cases h1:k=1
 · subst h1
   have hE:EE=false:=HEE.out.symm
   subst hE
   have E:=Lib.hid (show T'=x.t.print r from by rw [← HD.out];unfold Tm.doA;rw [HMM.out,if_neg (by decide)];rfl)
   go_enter Tryz.func20,Tryz.ntmps20
   go_upto_region 1 with fail
   rw [← hW,← hb]
   clear hW hb
   go_wp2_with fail
   refine HM.out.mono ?_
   rintro e w1 ⟨rfl,hb1⟩
   clear a0 a1 a2 a3 a4 a5
   obtain ⟨a0,a1,a2,a3,a4,a5⟩:=HC.out w1 hb1
   go_wp2_with fail
   refine (HE.out w1).mono ?_
   rintro e w2 ⟨rfl,hb2⟩
   have hb12:=hb1.trans (hb2.mono hb1.size)
   clear a0 a1 a2 a3 a4 a5
   obtain ⟨a0,a1,a2,a3,a4,a5⟩:=HC.out w2 hb12
   have Z2:=Lib.hid (HZ.out.below (HBG.out w2 hb12))
   have K2:=Lib.hid ((CzTo.refl HZ.out).below (HBG.out w2 hb12))
   have T2:=Lib.hid (HT.out.below (HBG.out w2 hb12) (Nat.le_refl _))
   have Y2:=Lib.hid (show ActIn w2 g x ⟨⟨_,r,m,f,ps,tx⟩,P,np,cp,T,nt,ct⟩ from ⟨HY.out.rd.below (HBG.out w2 hb12),HY.out.off,HY.out.u8,HY.out.np⟩)
   clear hb1 hb2 hb12
   go_wp2_with fail
   refine (printT_any T2.out Z2.out r).mono ?_
   rintro e w9 ⟨rfl,z,hz⟩
   have Z9:=Lib.hid (K2.out.trans hz)
   clear hz
   go_wp2_with fail
   go_end0
   exact ⟨rfl,z,Z9.out.as E.out.symm⟩
 by_cases h2:k=2
 · subst h2
   have hE:EE=true:=HEE.out.symm
   subst hE
   have E:=Lib.hid (show T'=runD (c0D f) [] { x.t with full:=false } from by rw [← HD.out];unfold Tm.doA;rw [HMM.out,if_neg (by decide)];exact c0_deed _ f)
   go_enter Tryz.func20,Tryz.ntmps20
   go_upto_region 1 with fail
   rw [← hW,← hb]
   clear hW hb
   go_wp2_with fail
   refine HM.out.mono ?_
   rintro e w1 ⟨rfl,hb1⟩
   clear a0 a1 a2 a3 a4 a5
   obtain ⟨a0,a1,a2,a3,a4,a5⟩:=HC.out w1 hb1
   go_wp2_with fail
   refine (HE.out w1).mono ?_
   rintro e w2 ⟨rfl,hb2⟩
   have hb12:=hb1.trans (hb2.mono hb1.size)
   clear a0 a1 a2 a3 a4 a5
   obtain ⟨a0,a1,a2,a3,a4,a5⟩:=HC.out w2 hb12
   have Z2:=Lib.hid (HZ.out.below (HBG.out w2 hb12))
   have K2:=Lib.hid ((CzTo.refl HZ.out).below (HBG.out w2 hb12))
   have T2:=Lib.hid (HT.out.below (HBG.out w2 hb12) (Nat.le_refl _))
   have Y2:=Lib.hid (show ActIn w2 g x ⟨⟨_,r,m,f,ps,tx⟩,P,np,cp,T,nt,ct⟩ from ⟨HY.out.rd.below (HBG.out w2 hb12),HY.out.off,HY.out.u8,HY.out.np⟩)
   clear hb1 hb2 hb12
   obtain ⟨x1,hx1⟩:∃ x1:CT,x1={ x with t:={ x.t with full:=false } }:=⟨_,rfl⟩
   obtain ⟨w3,hw3⟩:∃ w3,w3=w2.setCell ⟨g,22,none⟩ (.bool false):=⟨_,rfl⟩
   have K3:=Lib.hid (show CzTo B g x { x.t with full:=false } w w3 x1 from by rw [hx1,hw3];exact K2.out.trans Z2.out.notFull)
   have X1:=Lib.hid (show x1.t={ x.t with full:=false } from by rw [hx1])
   have T3:=Lib.hid (T2.out.out HZ.out.tab (show Below B w2 w3 from by rw [hw3];exact (Z2.out.notFull).out.bel))
   have c22:w2.cell? ⟨g,22,none⟩=some (.bool x.t.full):=Z2.out.cell rfl
   have f22:=Z2.out.fr 22
   have S3:=Lib.hid (show ∀ k,w3.cell? ⟨b,k,none⟩=w2.cell? ⟨b,k,none⟩ from fun k=>by rw [hw3];exact World.cell?_of_block (heap_setCell_other w2 _ b _ (by exact HNE.out)))
   have N3:=Lib.hid (show Nm w3 (CB g x1) P np cp ps from by
    have hn:=Y2.out.nm HMM.out
    have hk:=Z2.out.notFull
    rw [← hx1,← hw3] at hk
    exact hn.on hk)
   have NB3:=Lib.hid (show ¬ CB g x1 b from by rw [hx1];exact NB2.out)
   clear hx1
   go_upto_region 4 with fail
   rw [← hw3]
   clear hw3 c22 f22
   have e0:=S3.out 0
   have e1:=S3.out 1
   have e2:=S3.out 2
   have e3:=S3.out 3
   have e4:=S3.out 4
   have e5:=S3.out 5
   rw [a0] at e0
   rw [a1] at e1
   rw [a2] at e2
   rw [a3] at e3
   rw [a4] at e4
   rw [a5] at e5
   clear a0 a1 a2 a3 a4 a5
   go_wp2_with fail
   refine (controlByte_any f w3).mono ?_
   rintro e w4 ⟨rfl,hw4⟩
   obtain rfl:=hw4.symm
   clear hw4
   go_wp2_with fail
   refine (obey_any T3.out K3.out.cz (Nm.nil _ _) (c0D f)).mono ?_
   rintro e w9 ⟨rfl,z,hz⟩
   have Z9:=Lib.hid (K3.out.trans hz)
   clear hz
   go_wp2_with fail
   go_end0
   exact ⟨rfl,z,Z9.out.as (by rw [E.out,X1.out])⟩
 by_cases h3:k=3
 · subst h3
   have hE:EE=true:=HEE.out.symm
   subst hE
   have E:=Lib.hid (show T'=runD (if m=0 then escD f else none) [] { x.t with full:=false } from by
    rw [← HD.out];unfold Tm.doA;rw [HMM.out,if_neg (by decide)]
    show (if m=0 then ({ x.t with full:=false }:Tm).esc f else { x.t with full:=false })=_
    by_cases hm:m=0
    · rw [if_pos hm,if_pos hm];exact esc_deed _ f
    · rw [if_neg hm,if_neg hm];rfl)
   go_enter Tryz.func20,Tryz.ntmps20
   go_upto_region 1 with fail
   rw [← hW,← hb]
   clear hW hb
   go_wp2_with fail
   refine HM.out.mono ?_
   rintro e w1 ⟨rfl,hb1⟩
   clear a0 a1 a2 a3 a4 a5
   obtain ⟨a0,a1,a2,a3,a4,a5⟩:=HC.out w1 hb1
   go_wp2_with fail
   refine (HE.out w1).mono ?_
   rintro e w2 ⟨rfl,hb2⟩
   have hb12:=hb1.trans (hb2.mono hb1.size)
   clear a0 a1 a2 a3 a4 a5
   obtain ⟨a0,a1,a2,a3,a4,a5⟩:=HC.out w2 hb12
   have Z2:=Lib.hid (HZ.out.below (HBG.out w2 hb12))
   have K2:=Lib.hid ((CzTo.refl HZ.out).below (HBG.out w2 hb12))
   have T2:=Lib.hid (HT.out.below (HBG.out w2 hb12) (Nat.le_refl _))
   have Y2:=Lib.hid (show ActIn w2 g x ⟨⟨_,r,m,f,ps,tx⟩,P,np,cp,T,nt,ct⟩ from ⟨HY.out.rd.below (HBG.out w2 hb12),HY.out.off,HY.out.u8,HY.out.np⟩)
   clear hb1 hb2 hb12
   obtain ⟨x1,hx1⟩:∃ x1:CT,x1={ x with t:={ x.t with full:=false } }:=⟨_,rfl⟩
   obtain ⟨w3,hw3⟩:∃ w3,w3=w2.setCell ⟨g,22,none⟩ (.bool false):=⟨_,rfl⟩
   have K3:=Lib.hid (show CzTo B g x { x.t with full:=false } w w3 x1 from by rw [hx1,hw3];exact K2.out.trans Z2.out.notFull)
   have X1:=Lib.hid (show x1.t={ x.t with full:=false } from by rw [hx1])
   have T3:=Lib.hid (T2.out.out HZ.out.tab (show Below B w2 w3 from by rw [hw3];exact (Z2.out.notFull).out.bel))
   have c22:w2.cell? ⟨g,22,none⟩=some (.bool x.t.full):=Z2.out.cell rfl
   have f22:=Z2.out.fr 22
   have S3:=Lib.hid (show ∀ k,w3.cell? ⟨b,k,none⟩=w2.cell? ⟨b,k,none⟩ from fun k=>by rw [hw3];exact World.cell?_of_block (heap_setCell_other w2 _ b _ (by exact HNE.out)))
   have N3:=Lib.hid (show Nm w3 (CB g x1) P np cp ps from by
    have hn:=Y2.out.nm HMM.out
    have hk:=Z2.out.notFull
    rw [← hx1,← hw3] at hk
    exact hn.on hk)
   have NB3:=Lib.hid (show ¬ CB g x1 b from by rw [hx1];exact NB2.out)
   clear hx1
   go_upto_region 4 with fail
   rw [← hw3]
   clear hw3 c22 f22
   have e0:=S3.out 0
   have e1:=S3.out 1
   have e2:=S3.out 2
   have e3:=S3.out 3
   have e4:=S3.out 4
   have e5:=S3.out 5
   rw [a0] at e0
   rw [a1] at e1
   rw [a2] at e2
   rw [a3] at e3
   rw [a4] at e4
   rw [a5] at e5
   clear a0 a1 a2 a3 a4 a5
   go_wp2_with fail
   refine (escape_any m f w3).mono ?_
   rintro e w4 ⟨rfl,hw4⟩
   obtain rfl:=hw4.symm
   clear hw4
   generalize (if m=0 then escD f else none)=od at E ⊢
   go_wp2_with fail
   refine (obey_any T3.out K3.out.cz (Nm.nil _ _) od).mono ?_
   rintro e w9 ⟨rfl,z,hz⟩
   have Z9:=Lib.hid (K3.out.trans hz)
   clear hz
   go_wp2_with fail
   go_end0
   exact ⟨rfl,z,Z9.out.as (by rw [E.out,X1.out])⟩
 by_cases h4:k=4
 · subst h4
   have HE4:=Lib.hid (show EE=decide (m≠0∨(f≠109∧f≠98)) from HEE.out.symm)
   have E:=Lib.hid (show T'=runD (seqD m f) ps (if EE=true then { x.t with full:=false } else x.t) from by
    rw [← HD.out];unfold Tm.doA;rw [HMM.out,if_neg (by decide)]
    show (if m≠0∨(f≠109∧f≠98) then ({ x.t with full:=false }:Tm).csi ⟨4,r,m,f,ps,tx⟩ else x.t.csi ⟨4,r,m,f,ps,tx⟩)=_
    by_cases he:m≠0∨(f≠109∧f≠98)
    · rw [if_pos he,if_pos (by rw [HE4.out];exact decide_eq_true he)];exact csi_deed (HZ.out.ok.notFull false) HMA.out.2.2
    · rw [if_neg he,if_neg (by rw [HE4.out];simpa using he)];exact csi_deed HZ.out.ok HMA.out.2.2)
   cases EE
   · rw [if_neg (by decide)] at E
     go_enter Tryz.func20,Tryz.ntmps20
     go_upto_region 1 with fail
     rw [← hW,← hb]
     clear hW hb
     go_wp2_with fail
     refine HM.out.mono ?_
     rintro e w1 ⟨rfl,hb1⟩
     clear a0 a1 a2 a3 a4 a5
     obtain ⟨a0,a1,a2,a3,a4,a5⟩:=HC.out w1 hb1
     go_wp2_with fail
     refine (HE.out w1).mono ?_
     rintro e w2 ⟨rfl,hb2⟩
     have hb12:=hb1.trans (hb2.mono hb1.size)
     clear a0 a1 a2 a3 a4 a5
     obtain ⟨a0,a1,a2,a3,a4,a5⟩:=HC.out w2 hb12
     have Z2:=Lib.hid (HZ.out.below (HBG.out w2 hb12))
     have K2:=Lib.hid ((CzTo.refl HZ.out).below (HBG.out w2 hb12))
     have T2:=Lib.hid (HT.out.below (HBG.out w2 hb12) (Nat.le_refl _))
     have Y2:=Lib.hid (show ActIn w2 g x ⟨⟨_,r,m,f,ps,tx⟩,P,np,cp,T,nt,ct⟩ from ⟨HY.out.rd.below (HBG.out w2 hb12),HY.out.off,HY.out.u8,HY.out.np⟩)
     clear hb1 hb2 hb12
     go_wp2_with fail
     have N2:=Lib.hid (Y2.out.nm HMM.out)
     have CX:=Lib.hid (And.intro a2 (And.intro a3 a4))
     have LT:=Lib.hid (show b<w2.heap.size from cell_lt a2)
     have SX:=Lib.hid (show ∀ w',Below w2.heap.size w2 w'→(Below B w2 w'∧w'.cell? ⟨b,2,none⟩=some (.int .u8 m)∧w'.cell? ⟨b,3,none⟩=some (.int .u8 f)∧w'.cell? ⟨b,4,none⟩=some (.slice P np cp)) from fun w' hb'=>⟨hb'.mono (Z2.out).bB,(hb'.cell (p:=⟨b,2,none⟩) LT.out).trans CX.out.1,(hb'.cell (p:=⟨b,3,none⟩) LT.out).trans CX.out.2.1,(hb'.cell (p:=⟨b,4,none⟩) LT.out).trans CX.out.2.2⟩)
     have SY:=Lib.hid (show ∀ w' z,CzTo B g x (runD (seqD m f) ps x.t) w2 w' z→(Below B w2 w'∧w'.cell? ⟨b,2,none⟩=some (.int .u8 m)∧w'.cell? ⟨b,3,none⟩=some (.int .u8 f)∧w'.cell? ⟨b,4,none⟩=some (.slice P np cp)) from fun w' z hz=>by
      have hk:∀ k,w'.cell? ⟨b,k,none⟩=w2.cell? ⟨b,k,none⟩:=fun k=>World.cell?_of_block (hz.out.keep b LT.out NB2.out)
      rw [hk,hk,hk]
      exact ⟨hz.out.bel,CX.out⟩)
     have HOB:=Lib.hid (show ∀ w',Below w2.heap.size w2 w'→Calls Tryz.prog 51 #[.pointer (some ⟨g,0,none⟩),ddV (seqD m f),.slice P np cp] w' (fun e w''=>e=.returned (.tuple #[])∧∃ z,CzTo B g x (runD (seqD m f) ps x.t) w2 w'' z) from fun w' hb'=>(obey_any (T2.out.below hb' (Nat.le_refl _)) (Z2.out.below hb') (N2.out.below hb') (seqD m f)).mono (by
      rintro e w'' ⟨rfl,z,hz⟩
      exact ⟨rfl,z,((CzTo.refl Z2.out).below hb').trans hz⟩))
     have hb0:Below w2.heap.size w2 w2.drew:=(Below.refl _ _).drew
     go_region_held3 (fun w'=>Below B w2 w'∧w'.cell? ⟨b,2,none⟩=some (.int .u8 m)∧w'.cell? ⟨b,3,none⟩=some (.int .u8 f)∧w'.cell? ⟨b,4,none⟩=some (.slice P np cp))
      ((first | (refine SX.out _ ?_;assumption) | exact hS9))
      ((first
       | (go_at_call 54;refine (sequence_any m f _).mono ?_;rintro e w6 ⟨rfl,hw6⟩;obtain rfl:=hw6.symm;clear hw6)
       | (go_at_call 51;refine (HOB.out _ (by assumption)).mono ?_;rintro e w9 ⟨rfl,z,hz⟩;have hS9:=SY.out _ _ hz;have Z9:=Lib.hid (K2.out.trans hz);clear hz)))
     clear hS9
     go_wp2_with fail
     go_end0
     exact ⟨rfl,z,Z9.out.as E.out.symm⟩
   · rw [if_pos rfl] at E
     go_enter Tryz.func20,Tryz.ntmps20
     go_upto_region 1 with fail
     rw [← hW,← hb]
     clear hW hb
     go_wp2_with fail
     refine HM.out.mono ?_
     rintro e w1 ⟨rfl,hb1⟩
     clear a0 a1 a2 a3 a4 a5
     obtain ⟨a0,a1,a2,a3,a4,a5⟩:=HC.out w1 hb1
     go_wp2_with fail
     refine (HE.out w1).mono ?_
     rintro e w2 ⟨rfl,hb2⟩
     have hb12:=hb1.trans (hb2.mono hb1.size)
     clear a0 a1 a2 a3 a4 a5
     obtain ⟨a0,a1,a2,a3,a4,a5⟩:=HC.out w2 hb12
     have Z2:=Lib.hid (HZ.out.below (HBG.out w2 hb12))
     have K2:=Lib.hid ((CzTo.refl HZ.out).below (HBG.out w2 hb12))
     have T2:=Lib.hid (HT.out.below (HBG.out w2 hb12) (Nat.le_refl _))
     have Y2:=Lib.hid (show ActIn w2 g x ⟨⟨_,r,m,f,ps,tx⟩,P,np,cp,T,nt,ct⟩ from ⟨HY.out.rd.below (HBG.out w2 hb12),HY.out.off,HY.out.u8,HY.out.np⟩)
     clear hb1 hb2 hb12
     obtain ⟨x1,hx1⟩:∃ x1:CT,x1={ x with t:={ x.t with full:=false } }:=⟨_,rfl⟩
     obtain ⟨w3,hw3⟩:∃ w3,w3=w2.setCell ⟨g,22,none⟩ (.bool false):=⟨_,rfl⟩
     have K3:=Lib.hid (show CzTo B g x { x.t with full:=false } w w3 x1 from by rw [hx1,hw3];exact K2.out.trans Z2.out.notFull)
     have X1:=Lib.hid (show x1.t={ x.t with full:=false } from by rw [hx1])
     have T3:=Lib.hid (T2.out.out HZ.out.tab (show Below B w2 w3 from by rw [hw3];exact (Z2.out.notFull).out.bel))
     have c22:w2.cell? ⟨g,22,none⟩=some (.bool x.t.full):=Z2.out.cell rfl
     have f22:=Z2.out.fr 22
     have S3:=Lib.hid (show ∀ k,w3.cell? ⟨b,k,none⟩=w2.cell? ⟨b,k,none⟩ from fun k=>by rw [hw3];exact World.cell?_of_block (heap_setCell_other w2 _ b _ (by exact HNE.out)))
     have N3:=Lib.hid (show Nm w3 (CB g x1) P np cp ps from by
      have hn:=Y2.out.nm HMM.out
      have hk:=Z2.out.notFull
      rw [← hx1,← hw3] at hk
      exact hn.on hk)
     have NB3:=Lib.hid (show ¬ CB g x1 b from by rw [hx1];exact NB2.out)
     clear hx1
     go_upto_region 4 with fail
     rw [← hw3]
     clear hw3 c22 f22
     have e0:=S3.out 0
     have e1:=S3.out 1
     have e2:=S3.out 2
     have e3:=S3.out 3
     have e4:=S3.out 4
     have e5:=S3.out 5
     rw [a0] at e0
     rw [a1] at e1
     rw [a2] at e2
     rw [a3] at e3
     rw [a4] at e4
     rw [a5] at e5
     clear a0 a1 a2 a3 a4 a5
     go_wp2_with fail
     have CX:=Lib.hid (And.intro e2 (And.intro e3 e4))
     have LT:=Lib.hid (show b<w3.heap.size from cell_lt e2)
     have SX:=Lib.hid (show ∀ w',Below w3.heap.size w3 w'→(Below B w3 w'∧w'.cell? ⟨b,2,none⟩=some (.int .u8 m)∧w'.cell? ⟨b,3,none⟩=some (.int .u8 f)∧w'.cell? ⟨b,4,none⟩=some (.slice P np cp)) from fun w' hb'=>⟨hb'.mono (K3.out.cz).bB,(hb'.cell (p:=⟨b,2,none⟩) LT.out).trans CX.out.1,(hb'.cell (p:=⟨b,3,none⟩) LT.out).trans CX.out.2.1,(hb'.cell (p:=⟨b,4,none⟩) LT.out).trans CX.out.2.2⟩)
     have SY:=Lib.hid (show ∀ w' z,CzTo B g x1 (runD (seqD m f) ps x1.t) w3 w' z→(Below B w3 w'∧w'.cell? ⟨b,2,none⟩=some (.int .u8 m)∧w'.cell? ⟨b,3,none⟩=some (.int .u8 f)∧w'.cell? ⟨b,4,none⟩=some (.slice P np cp)) from fun w' z hz=>by
      have hk:∀ k,w'.cell? ⟨b,k,none⟩=w3.cell? ⟨b,k,none⟩:=fun k=>World.cell?_of_block (hz.out.keep b LT.out NB3.out)
      rw [hk,hk,hk]
      exact ⟨hz.out.bel,CX.out⟩)
     have HOB:=Lib.hid (show ∀ w',Below w3.heap.size w3 w'→Calls Tryz.prog 51 #[.pointer (some ⟨g,0,none⟩),ddV (seqD m f),.slice P np cp] w' (fun e w''=>e=.returned (.tuple #[])∧∃ z,CzTo B g x1 (runD (seqD m f) ps x1.t) w3 w'' z) from fun w' hb'=>(obey_any (T3.out.below hb' (Nat.le_refl _)) (K3.out.cz.below hb') (N3.out.below hb') (seqD m f)).mono (by
      rintro e w'' ⟨rfl,z,hz⟩
      exact ⟨rfl,z,((CzTo.refl K3.out.cz).below hb').trans hz⟩))
     have hb0:Below w3.heap.size w3 w3.drew:=(Below.refl _ _).drew
     go_region_held3 (fun w'=>Below B w3 w'∧w'.cell? ⟨b,2,none⟩=some (.int .u8 m)∧w'.cell? ⟨b,3,none⟩=some (.int .u8 f)∧w'.cell? ⟨b,4,none⟩=some (.slice P np cp))
      ((first | (refine SX.out _ ?_;assumption) | exact hS9))
      ((first
       | (go_at_call 54;refine (sequence_any m f _).mono ?_;rintro e w6 ⟨rfl,hw6⟩;obtain rfl:=hw6.symm;clear hw6)
       | (go_at_call 51;refine (HOB.out _ (by assumption)).mono ?_;rintro e w9 ⟨rfl,z,hz⟩;have hS9:=SY.out _ _ hz;have Z9:=Lib.hid (K3.out.trans hz);clear hz)))
     clear hS9
     go_wp2_with fail
     go_end0
     exact ⟨rfl,z,Z9.out.as (by rw [E.out,X1.out])⟩
 by_cases h5:k=5
 · subst h5
   have hE:EE=false:=HEE.out.symm
   subst hE
   have E:=Lib.hid (show T'=x.t.osc tx from by rw [← HD.out];unfold Tm.doA;rw [HMM.out,if_neg (by decide)];rfl)
   go_enter Tryz.func20,Tryz.ntmps20
   go_upto_region 1 with fail
   rw [← hW,← hb]
   clear hW hb
   go_wp2_with fail
   refine HM.out.mono ?_
   rintro e w1 ⟨rfl,hb1⟩
   clear a0 a1 a2 a3 a4 a5
   obtain ⟨a0,a1,a2,a3,a4,a5⟩:=HC.out w1 hb1
   go_wp2_with fail
   refine (HE.out w1).mono ?_
   rintro e w2 ⟨rfl,hb2⟩
   have hb12:=hb1.trans (hb2.mono hb1.size)
   clear a0 a1 a2 a3 a4 a5
   obtain ⟨a0,a1,a2,a3,a4,a5⟩:=HC.out w2 hb12
   have Z2:=Lib.hid (HZ.out.below (HBG.out w2 hb12))
   have K2:=Lib.hid ((CzTo.refl HZ.out).below (HBG.out w2 hb12))
   have T2:=Lib.hid (HT.out.below (HBG.out w2 hb12) (Nat.le_refl _))
   have Y2:=Lib.hid (show ActIn w2 g x ⟨⟨_,r,m,f,ps,tx⟩,P,np,cp,T,nt,ct⟩ from ⟨HY.out.rd.below (HBG.out w2 hb12),HY.out.off,HY.out.u8,HY.out.np⟩)
   clear hb1 hb2 hb12
   go_wp2_with fail
   refine (command_any T2.out Z2.out HL.out Y2.out.rd.t HY.out.u8 (by have:=HMA.out.2.1;have:=HY.out.rd.t.len;simp only at *;omega) HY.out.rd.lt).mono ?_
   rintro e w9 ⟨rfl,z,hz⟩
   have Z9:=Lib.hid (K2.out.trans hz)
   clear hz
   go_wp2_with fail
   go_end0
   exact ⟨rfl,z,Z9.out.as E.out.symm⟩
 have hE:EE=false:=by rw [← HEE.out];unfold endsS;rw [if_neg h2,if_neg h3,if_neg h4]
 subst hE
 have E:=Lib.hid (show T'=x.t from by rw [← HD.out];unfold Tm.doA;rw [HMM.out,if_neg (by decide),if_neg h1,if_neg h2,if_neg h3,if_neg h4,if_neg h5])
 have q1:(k == 1)=false:=beq_eq_false_iff_ne.2 h1
 have q2:(k == 2)=false:=beq_eq_false_iff_ne.2 h2
 have q3:(k == 3)=false:=beq_eq_false_iff_ne.2 h3
 have q4:(k == 4)=false:=beq_eq_false_iff_ne.2 h4
 have q5:(k == 5)=false:=beq_eq_false_iff_ne.2 h5
 go_enter Tryz.func20,Tryz.ntmps20
 go_upto_region 1 with fail
 rw [← hW,← hb]
 clear hW hb
 go_wp2_with fail
 refine HM.out.mono ?_
 rintro e w1 ⟨rfl,hb1⟩
 clear a0 a1 a2 a3 a4 a5
 obtain ⟨a0,a1,a2,a3,a4,a5⟩:=HC.out w1 hb1
 go_wp2_with fail
 refine (HE.out w1).mono ?_
 rintro e w2 ⟨rfl,hb2⟩
 have hb12:=hb1.trans (hb2.mono hb1.size)
 clear a0 a1 a2 a3 a4 a5
 obtain ⟨a0,a1,a2,a3,a4,a5⟩:=HC.out w2 hb12
 have Z2:=Lib.hid (HZ.out.below (HBG.out w2 hb12))
 have K2:=Lib.hid ((CzTo.refl HZ.out).below (HBG.out w2 hb12))
 have T2:=Lib.hid (HT.out.below (HBG.out w2 hb12) (Nat.le_refl _))
 have Y2:=Lib.hid (show ActIn w2 g x ⟨⟨_,r,m,f,ps,tx⟩,P,np,cp,T,nt,ct⟩ from ⟨HY.out.rd.below (HBG.out w2 hb12),HY.out.off,HY.out.u8,HY.out.np⟩)
 clear hb1 hb2 hb12
 go_wp2_with fail
 go_end0
 exact ⟨rfl,x,K2.out.as E.out.symm⟩
end
end Go.Proofs.YtlcipgdnpilkfaaGreatDoor
