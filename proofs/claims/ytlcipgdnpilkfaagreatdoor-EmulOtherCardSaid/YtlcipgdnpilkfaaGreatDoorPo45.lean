/-
  Part 45 of what the laws of emul want: EmulBegin12, EmulRefScr, EmulLwDo, EmulMarg, EmulActsP.
-/
import Derived.Deep.AppendLies
import Derived.Test.YtlcipgdnpilkfaaGreatDoorPo01
import Derived.Test.YtlcipgdnpilkfaaGreatDoorPo02
import Derived.Test.YtlcipgdnpilkfaaGreatDoorPo04
import Derived.Test.YtlcipgdnpilkfaaGreatDoorPo10
import Derived.Test.YtlcipgdnpilkfaaGreatDoorPo14
import Derived.Test.YtlcipgdnpilkfaaGreatDoorPo17
import Derived.Test.YtlcipgdnpilkfaaGreatDoorPo18
import Derived.Test.YtlcipgdnpilkfaaGreatDoorPo30
import Derived.Test.YtlcipgdnpilkfaaGreatDoorPo31
import Derived.Test.YtlcipgdnpilkfaaGreatDoorPo41
import Derived.Test.YtlcipgdnpilkfaaGreatDoorPo42
import Derived.Test.YtlcipgdnpilkfaaGreatDoorPo44
namespace Go.Proofs.YtlcipgdnpilkfaaGreatDoor
open Go.RowKit
section
variable {w0 w:World} {g:Nat} {x:CT} {t:Tm}
theorem Lw.keep (h:Lw w0 w g x t) {w':World} (hb:Below w0.heap.size w0 w') (hz:w.heap.size≤w'.heap.size) (hk:∀ q,CB g x q→w'.heap[q]?=w.heap[q]?):Lw w0 w' g x t:=⟨hb,h.cz.kept hz hk,h.tm,h.sane⟩
theorem RNew.keep {c r:Nat} {w1:World} {y:RT} (h:RNew c r w w1 y) {v w':World} (hb:Below v.heap.size v w') (hv:v.heap.size≤w.heap.size) (hz:w1.heap.size≤w'.heap.size) (hk:∀ q,w.heap.size≤q→q<w1.heap.size→w'.heap[q]?=w1.heap[q]?):RNew c r v w' y:=by
 refine { h with bel:=hb,new:=⟨fun ad e=>Nat.le_trans hv (h.new.1 ad e),fun ad e=>Nat.le_trans hv (h.new.2 ad e)⟩,m:=h.m.keep hz fun p hn hA hp=>World.cell?_of_block (hk _ ?_ hp),o:=h.o.keep hz fun p hn hA hp=>World.cell?_of_block (hk _ ?_ hp) }
 · cases hP:y.mA with
   | none=>rw [hP] at hA;cases hA
   | some ad =>
    rw [hP] at hA
    have hA:ad.block=p.block:=by injection hA
    rw [← hA];exact h.new.1 ad hP
 · cases hP:y.oA with
   | none=>rw [hP] at hA;cases hA
   | some ad =>
    rw [hP] at hA
    have hA:ad.block=p.block:=by injection hA
    rw [← hA];exact h.new.2 ad hP
theorem retTT {fn:Func} {p u v:Tmp} (h:fn.results=#[.tmp u,.cell p 42,.tmp v]) {tmps:Array Value} {w:World} {b:Nat} {cs:Array Value} {a c:Value} (hG:w.heap[b]?=some (.cells cs 42 (0,0))) (hz:cs.size=116) (hp:tmps.getD p undef=.pointer (some ⟨b,0,none⟩)) (hu:tmps.getD u undef=a) (hv:tmps.getD v undef=c) :
  (results fn tmps).run Tryz.prog w=.ok (.tuple #[a,.agg cs,c]) w:=by
 simp only [results,h]
 simp at hp hu hv
 simp [Result.andThen,asAddr,hp,hu,hv,run_loadVar_row w b 42 42 cs (0,0) _ hG Tryz.underlying42 rfl (by rw [hz];exact infoRT1)]
def colsN (z:Int):Nat:=(z % 80).toNat+1
def rowsN (z:Int):Nat:=(z % 24).toNat+1
theorem colsN_rng (z:Int):1≤colsN z∧colsN z≤80:=by unfold colsN;omega
theorem rowsN_rng (z:Int):1≤rowsN z∧rowsN z≤24:=by unfold rowsN;omega
structure Bgn (w0 w:World) (c r:Nat) (w':World) (g:Nat) (x:CT) (y:RT):Prop where
 lw:Lw w0 w' g x (tmNew c r)
 new:∀ q,CB g x q→w.heap.size≤q
 rt:RNew c r w w' y
set_option maxRecDepth 100000 in
set_option maxHeartbeats 3200000 in
theorem begin12_any (hT:Tabs w0) (hb:Below w0.heap.size w0 w) {cols rows:Int} (hc:0≤cols∧cols≤255) (hr:0≤rows∧rows≤255) :
  Calls Tryz.prog 11 #[.int .u8 cols,.int .u8 rows] w fun e w'=>Below w.heap.size w w'∧∃ g x y,e=.returned (.tuple #[.pointer (some ⟨g,0,none⟩),.agg (rtV y).toArray,.bool true])∧Bgn w0 w (colsN cols) (rowsN rows) w' g x y:=by
 obtain ⟨c,hcN⟩:∃ c,colsN cols=c:=⟨_,rfl⟩
 obtain ⟨r,hrN⟩:∃ r,rowsN rows=r:=⟨_,rfl⟩
 have hcr:=colsN_rng cols
 have hrr:=rowsN_rng rows
 obtain ⟨K,hK⟩:∃ K:Nat,(cols % 80).toNat=K:=⟨_,rfl⟩
 obtain ⟨J,hJ⟩:∃ J:Nat,(rows % 24).toNat=J:=⟨_,rfl⟩
 have hcK:c=K+1:=by rw [← hcN,← hK];rfl
 have hrJ:r=J+1:=by rw [← hrN,← hJ];rfl
 have m1:cols.tmod 80=(K:Int):=by rw [Int.tmod_eq_emod_of_nonneg hc.1];omega
 have m2:rows.tmod 24=(J:Int):=by rw [Int.tmod_eq_emod_of_nonneg hr.1];omega
 rw [hcN] at hcr
 rw [hrN] at hrr
 rw [hcN,hrN]
 have hcz:IntKind.i64.wrap cols=cols:=by rw [IntKind.wrap_i64];omega
 have hrz:IntKind.i64.wrap rows=rows:=by clear hcz;rw [IntKind.wrap_i64];omega
 have n1:IntKind.i64.wrap (K:Int)=(K:Int):=by clear hcz hrz m1 m2;rw [IntKind.wrap_i64];omega
 have n2:IntKind.i64.wrap (J:Int)=(J:Int):=by clear hcz hrz m1 m2 n1;rw [IntKind.wrap_i64];omega
 have n5:wrap64 (1+(K:Int))=(c:Int):=by clear hcz hrz m1 m2 n1 n2;unfold wrap64;omega
 have n6:wrap64 (1+(J:Int))=(r:Int):=by clear hcz hrz m1 m2 n1 n2 n5;unfold wrap64;omega
 have n3:IntKind.i64.wrap (1+(K:Int))=(c:Int):=by clear hcz hrz m1 m2 n1 n2 n5 n6;rw [IntKind.wrap_i64];omega
 have n4:IntKind.i64.wrap (1+(J:Int))=(r:Int):=by clear hcz hrz m1 m2 n1 n2 n3 n5 n6;rw [IntKind.wrap_i64];omega
 obtain ⟨b5,hb5⟩:∃ b5,b5=w.heap.size:=⟨_,rfl⟩
 obtain ⟨w1,hw1⟩:∃ w1,w1=w.alloc (.cells Tryz.zeroCells42 42):=⟨_,rfl⟩
 have H1:=Lib.hid (show Below w.heap.size w w1∧RtB w1 b5 rt0∧w.heap.size=b5∧w1.heap.size=b5+1 from by
  rw [hw1,hb5]
  refine ⟨(Below.refl _ _).alloc (Nat.le_refl _) _,?_,rfl,by simp⟩
  unfold RtB
  rw [← zeroRT]
  exact heap_alloc_new w _)
 have HB0:=Lib.hid (show Below w0.heap.size w0 w1∧w0.heap.size≤w.heap.size from ⟨hb.trans (H1.out.1.mono hb.size),hb.size⟩)
 have HT:=Lib.hid hT
 have HB00:=Lib.hid hb
 have HN:=Lib.hid (new_lw (w:=w1) hT HB0.out.1 hcr.1 hcr.2 hrr.1 hrr.2)
 have HR:=Lib.hid (fun w'=>refNewT_any hcr.1 hcr.2 hrr.1 hrr.2 w')
 clear hT hb hK hJ hcN hrN hcK hrJ hcr hrr hc hr
 go_enter Tryz.func11,Tryz.ntmps11
 go_upto_region 1 with fail
 rw [← hw1,← hb5]
 clear hw1 hb5
 go_wp2_with fail
 refine HN.out.mono ?_
 rintro e w2 ⟨hb2,g,x,rfl,hL,hnew⟩
 have L2:=Lib.hid (And.intro hL (And.intro hnew hb2))
 clear hb2 hL hnew
 go_wp2_with fail
 refine (HR.out w2).mono ?_
 rintro e w3 ⟨y,rfl,hy⟩
 have hys:y.t.tabs.length=80:=by rw [hy.t];rfl
 obtain ⟨es,hes⟩:∃ es,es=(rtV y).toArray:=⟨_,rfl⟩
 have he2:es.size=116:=by rw [hes,List.size_toArray];exact rtV_len hys
 have he3:es.all (·.oneCell')=true:=by rw [hes];exact rt_one _
 have HE:=Lib.hid (And.intro he2 (And.intro he3 hes))
 have Y3:=Lib.hid hy
 rw [← hes]
 clear he2 he3 hes hys hy
 obtain ⟨b11,hb11⟩:∃ b11,b11=w3.heap.size:=⟨_,rfl⟩
 obtain ⟨w4,hw4⟩:∃ w4,w4=w3.alloc (.cells (rtV rt0).toArray 42):=⟨_,rfl⟩
 have H4:=Lib.hid (show Below w3.heap.size w3 w4∧RtB w4 b11 rt0∧b11=w3.heap.size from ⟨by rw [hw4];exact (Below.refl _ _).alloc (Nat.le_refl _) _,by rw [hw4,hb11];exact heap_alloc_new w3 _,hb11⟩)
 go_upto_region 4 with (first | (refine wpList_store_row rfl 42 (.tmp 11) (.tmp 31) rfl b11 es (by rw [hb11];rfl) rfl 42 (rtV rt0).toArray (by rw [zeroRT,← hw4];exact H4.out.2.1) (by rw [HE.out.1];exact infoRT1) (by rw [HE.out.1];rfl) HE.out.2.1 ?_))
 rw [zeroRT,← hw4,← hb11]
 clear hw4 hb11
 obtain ⟨w5,hw5⟩:∃ w5,w5=w4.setRow b11 es:=⟨_,rfl⟩
 have H5:=Lib.hid (show Below w3.heap.size w3 w5∧w5.heap[b11]?=some (.cells es 42 (0,0)) from by
  rw [hw5]
  exact ⟨below_setRow H4.out.1 (Nat.le_of_eq H4.out.2.2.symm) _,setRow_heap w4 _ _ _ _ _ H4.out.2.1⟩)
 rw [← hw5]
 clear hw5
 have BW:=Lib.hid (show Below w1.heap.size w1 w5 from (L2.out.2.2.trans (Y3.out.bel.mono L2.out.2.2.size)).trans (H5.out.1.mono (Nat.le_trans L2.out.2.2.size Y3.out.bel.size)))
 have HS:=Lib.hid (show Below w.heap.size w w5 from H1.out.1.trans (BW.out.mono H1.out.1.size))
 have HF:=Lib.hid (show ∀ w',Below w.heap.size w w'→Calls Tryz.prog 23 #[] w' fun e w''=>e=.returned (.bool true)∧Below w'.heap.size w' w'' from fun w' hb=>fixedE_any (HT.out.below (HB00.out.trans (hb.mono HB0.out.2)) (Nat.le_refl _)))
 refine wp_region_held_drew (S:=fun w'=>Below w.heap.size w w'∧w'.heap[b11]?=some (.cells es 42 (0,0))) (by kernel_rfl) (⟨HS.out.drew,H5.out.2⟩) (fun hHeld=>?_)
 have HD:=Lib.hid (show Below w5.heap.size w5 w5.drew from (Below.refl _ _).drew)
 have HD2:=Lib.hid (show w5.drew.heap[b11]?=some (.cells es 42 (0,0)) from H5.out.2)
 generalize w5.drew=w6 at HD HD2 hHeld ⊢
 have HS6:=Lib.hid (show Below w.heap.size w w6 from HS.out.trans (HD.out.mono HS.out.size))
 refine tkH 0 (.pointer (some ⟨g,0,none⟩)) rfl (.inl ⟨by rfl,fun wz hSz=>?_⟩) hHeld ?_
 · go_simp
 simp only [Act.put,List.getElem_toArray,List.getElem_cons_zero,List.setIfInBounds_toArray,List.set_cons_succ,List.set_cons_zero]
 refine wpAnyH_take (i:=1) (v:=.agg es) rfl (by kernel_rfl) (by kernel_rfl) (by kernel_rfl) (fun _ _ _ h=>h) (yieldsIf_load_row (by rfl) 42 (.tmp 11) rfl b11 rfl es _ (fun w hw=>hw.2) Tryz.underlying42 rfl (by rw [HE.out.1];exact infoRT1)) hHeld ?_
 simp only [Act.put,List.getElem_toArray,List.getElem_cons_succ,List.getElem_cons_zero,List.setIfInBounds_toArray,List.set_cons_succ,List.set_cons_zero]
 refine tkH 2 (.pointer (some ⟨g,0,none⟩)) rfl (.inl ⟨by rfl,fun wz hSz=>?_⟩) hHeld ?_
 · go_simp
 simp only [Act.put,List.getElem_toArray,List.getElem_cons_succ,List.getElem_cons_zero,List.setIfInBounds_toArray,List.set_cons_succ,List.set_cons_zero]
 refine tkH 3 (.bool true) rfl (.inl ⟨by rfl,fun wz hSz=>?_⟩) hHeld ?_
 · go_simp
 simp only [Act.put,List.getElem_toArray,List.getElem_cons_succ,List.getElem_cons_zero,List.setIfInBounds_toArray,List.set_cons_succ,List.set_cons_zero]
 refine tkH 4 (.bool true) rfl (.inl ⟨by rfl,fun wz hSz=>?_⟩) hHeld ?_
 · go_simp
 simp only [Act.put,List.getElem_toArray,List.getElem_cons_succ,List.getElem_cons_zero,List.setIfInBounds_toArray,List.set_cons_succ,List.set_cons_zero]
 refine tkH 5 (.int .i64 0) rfl (.inl ⟨by rfl,fun wz hSz=>?_⟩) hHeld ?_
 · go_simp
 simp only [Act.put,List.getElem_toArray,List.getElem_cons_succ,List.getElem_cons_zero,List.setIfInBounds_toArray,List.set_cons_succ,List.set_cons_zero]
 refine tkH 6 (.bool true) rfl (.inl ⟨by rfl,fun wz hSz=>?_⟩) hHeld ?_
 · go_simp
 simp only [Act.put,List.getElem_toArray,List.getElem_cons_succ,List.getElem_cons_zero,List.setIfInBounds_toArray,List.set_cons_succ,List.set_cons_zero]
 refine tkH 7 (.bool true) rfl (.inl ⟨by rfl,fun wz hSz=>?_⟩) hHeld ?_
 · go_simp
 simp only [Act.put,List.getElem_toArray,List.getElem_cons_succ,List.getElem_cons_zero,List.setIfInBounds_toArray,List.set_cons_succ,List.set_cons_zero]
 refine tkH 8 (.bool true) rfl (.inl ⟨by rfl,fun wz hSz=>?_⟩) hHeld ?_
 · go_simp
 simp only [Act.put,List.getElem_toArray,List.getElem_cons_succ,List.getElem_cons_zero,List.setIfInBounds_toArray,List.set_cons_succ,List.set_cons_zero]
 refine tkH 9 (.int .i64 0) rfl (.inl ⟨by rfl,fun wz hSz=>?_⟩) hHeld ?_
 · go_simp
 simp only [Act.put,List.getElem_toArray,List.getElem_cons_succ,List.getElem_cons_zero,List.setIfInBounds_toArray,List.set_cons_succ,List.set_cons_zero]
 refine tkH 10 (.bool true) rfl (.inl ⟨by rfl,fun wz hSz=>?_⟩) hHeld ?_
 · go_simp
 simp only [Act.put,List.getElem_toArray,List.getElem_cons_succ,List.getElem_cons_zero,List.setIfInBounds_toArray,List.set_cons_succ,List.set_cons_zero]
 refine tkH 11 (.bool true) rfl (.inl ⟨by rfl,fun wz hSz=>?_⟩) hHeld ?_
 · go_simp
 simp only [Act.put,List.getElem_toArray,List.getElem_cons_succ,List.getElem_cons_zero,List.setIfInBounds_toArray,List.set_cons_succ,List.set_cons_zero]
 refine tkH 12 (.bool true) rfl (.inl ⟨by rfl,fun wz hSz=>?_⟩) hHeld ?_
 · go_simp
 simp only [Act.put,List.getElem_toArray,List.getElem_cons_succ,List.getElem_cons_zero,List.setIfInBounds_toArray,List.set_cons_succ,List.set_cons_zero]
 refine wpAnyH_ready (rs:=[13]) (by kernel_rfl) (by simp) (AllReadyH.cons rfl (fun K hK=>?_) AllReadyH.nil)
 rw [if_pos (by rfl)]
 go_simp
 refine (HF.out w6 HS6.out).mono ?_
 rintro e w7 ⟨rfl,hb7⟩
 have H7:=Lib.hid (show Below w.heap.size w w7∧w7.heap[b11]?=some (.cells es 42 (0,0))∧Below w6.heap.size w6 w7 from ⟨HS6.out.trans (hb7.mono HS6.out.size),(hb7.block b11 (Array.getElem?_eq_some_iff.1 HD2.out).1).trans HD2.out,hb7⟩)
 clear hb7
 refine hK.out _ _ (⟨H7.out.1,H7.out.2.1⟩) (fun hHeld=>?_)
 clear hK K
 try simp only [Act.put,List.getElem_toArray,List.getElem_cons_succ,List.getElem_cons_zero]
 try simp only [List.setIfInBounds_toArray]
 try simp only [List.set_cons_succ]
 try simp only [List.set_cons_zero]
 refine tkH 14 (.bool true) rfl (.inl ⟨by rfl,fun wz hSz=>?_⟩) hHeld ?_
 · go_simp
 simp only [Act.put,List.getElem_toArray,List.getElem_cons_succ,List.getElem_cons_zero,List.setIfInBounds_toArray,List.set_cons_succ,List.set_cons_zero]
 refine tkH 15 (.pointer (some ⟨g,0,none⟩)) rfl (.inl ⟨by rfl,fun wz hSz=>?_⟩) hHeld ?_
 · go_simp
 simp only [Act.put,List.getElem_toArray,List.getElem_cons_succ,List.getElem_cons_zero,List.setIfInBounds_toArray,List.set_cons_succ,List.set_cons_zero]
 refine wpAnyH_ready (rs:=[16]) (by kernel_rfl) (by simp) (AllReadyH.cons rfl (fun K hK=>?_) AllReadyH.nil)
 rw [if_pos (by rfl)]
 have HRT:=Lib.hid (show RtB w7 b5 rt0 from by
  have h1:=H1.out.2.1.below (BW.out)
  exact (h1.below HD.out).below H7.out.2.2)
 refine wp_store_row 42 (.tmp 5) (.tmp 34) rfl b5 es rfl rfl 42 (rtV rt0).toArray HRT.out (by rw [HE.out.1];exact infoRT1) (by rw [HE.out.1];rfl) HE.out.2.1 ?_
 have hbne:b11≠b5:=by have:=H4.out.2.2;have:=Y3.out.bel.size;have:=L2.out.2.2.size;have:=H1.out.2.2.2;omega
 have H8:=Lib.hid (show Below w.heap.size w (w7.setRow b5 es)∧(w7.setRow b5 es).heap[b11]?=some (.cells es 42 (0,0))∧(w7.setRow b5 es).heap[b5]?=some (.cells es 42 (0,0))∧(∀ q,q≠b5→q<w3.heap.size→(w7.setRow b5 es).heap[q]?=w3.heap[q]?)∧w3.heap.size≤(w7.setRow b5 es).heap.size from by
  have hs1:=H5.out.1.size
  have hs2:=HD.out.size
  have hs3:=H7.out.2.2.size
  refine ⟨below_setRow H7.out.1 (Nat.le_of_eq H1.out.2.2.1) _,(setRow_other w7 b5 b11 es hbne).trans H7.out.2.1,setRow_heap w7 _ _ _ _ _ HRT.out,fun q hq hl=>?_,by simp [World.setRow];omega⟩
  rw [setRow_other w7 b5 q es hq,H7.out.2.2.block q (by omega),HD.out.block q (by omega),H5.out.1.block q hl])
 generalize w7.setRow b5 es=w8 at H8 ⊢
 refine hK.out _ _ ⟨H8.out.1,H8.out.2.1⟩ (fun hHeld=>?_)
 clear hK K
 try simp only [Act.put,List.getElem_toArray,List.getElem_cons_succ,List.getElem_cons_zero]
 try simp only [List.setIfInBounds_toArray]
 try simp only [List.set_cons_succ]
 try simp only [List.set_cons_zero]
 refine tkH 17 (.bool true) rfl (.inl ⟨by rfl,fun wz hSz=>?_⟩) hHeld ?_
 · go_simp
 simp only [Act.put,List.getElem_toArray,List.getElem_cons_succ,List.getElem_cons_zero,List.setIfInBounds_toArray,List.set_cons_succ,List.set_cons_zero]
 refine wpAnyH_done (by kernel_rfl) ?_ _
 go_wp2_with fail
 refine bodyPost_ret (retTT Tryz.results11 H8.out.2.2.1 HE.out.1 rfl rfl rfl) rfl ?_
 have hs2:=Y3.out.bel.size
 have hs1:=L2.out.2.2.size
 have hbb:w1.heap.size=b5+1:=H1.out.2.2.2
 refine ⟨H8.out.1,g,x,y,by rw [HE.out.2.2];rfl,⟨?_,fun q hq=>by have:=L2.out.2.1 q hq;have:=H1.out.2.2.1;omega,?_⟩⟩
 · refine (L2.out.1.below Y3.out.bel).keep (HB00.out.trans (H8.out.1.mono HB0.out.2)) H8.out.2.2.2.2 fun q hq=>H8.out.2.2.2.1 q (by have:=L2.out.2.1 q hq;omega) (by have:=L2.out.1.cz.hi q hq;omega)
 · exact Y3.out.keep H8.out.1 (by have:=H1.out.1.size;omega) H8.out.2.2.2.2 (fun q h1 h2=>H8.out.2.2.2.1 q (by omega) h2)
end
open Go.RowKit
section
variable {w:World} {s s':ScR} {S:Sc}
def scN:ScR:=⟨0,0,none,0,0,0,0,false,0,⟨#[]⟩,none,0,0⟩
end
open Go.RowKit
section
variable {w0 w w':World} {g:Nat} {x:CT} {t:Tm}
theorem do_lw (hT:Tabs w0) (h:Lw w0 w g x t) (y:AcR) (hy:ActIn w g x y):Calls Tryz.prog 20 #[.pointer (some ⟨g,0,none⟩),.agg (acA y)] w fun e w'=>e=.returned (.tuple #[])∧∃ z,Lw w0 w' g z (t.doA y.a)∧CzTo w0.heap.size g x (t.doA y.a) w w' z:=by
 have hx:=h.tm
 have hss:=h.sane
 rw [← hx] at hss
 refine (doT_any (h.tabs hT) h.cz hss.lk y hy).mono ?_
 rintro e w' ⟨rfl,z,hz⟩
 rw [hx] at hz hss
 exact ⟨rfl,z,h.step hz (hss.doA y.a),hz⟩
theorem inSt_ge (r:Int):∀ (l:List (Int × Int × Int)),(∀ y∈l,0≤y.2.2)→0≤inSt r l
 | [],_=>by unfold inSt;omega
 | x :: l,h=>by
  unfold inSt
  split
  · exact h x (by simp)
  · exact inSt_ge r l fun y hy=>h y (by simp [hy])
end
open Go.RowKit
structure Off (w:World) (g:Nat) (x:CT) (b:Nat):Prop where
 lt:b<w.heap.size
 nc:¬ CB g x b
theorem Off.step {w w':World} {B g b:Nat} {x y:CT} {t2:Tm} (h:Off w g x b) (k:CzTo B g x t2 w w' y):Off w' g y b∧w'.heap[b]?=w.heap[b]? :=
 ⟨⟨Nat.lt_of_lt_of_le h.lt k.out.bel.size,fun hy=>by
  rcases k.sub b hy with h1 | h1
  · exact h.nc h1
  · have:=h.lt;omega⟩,k.out.keep b h.lt h.nc⟩
theorem Off.below {w w':World} {g b:Nat} {x:CT} (h:Off w g x b) (hb:Below w.heap.size w w'):Off w' g x b∧w'.heap[b]?=w.heap[b]?:=⟨⟨Nat.lt_of_lt_of_le h.lt hb.size,h.nc⟩,hb.block b h.lt⟩
theorem Off.both {w w1 w':World} {B g b:Nat} {x y:CT} {t2:Tm} (h:Off w g x b) (hb:Below w.heap.size w w1) (k:CzTo B g x t2 w1 w' y):Off w' g y b∧w'.heap[b]?=w.heap[b]?:=by
 obtain ⟨h1,e1⟩:=h.below hb
 obtain ⟨h2,e2⟩:=h1.step k
 exact ⟨h2,e2.trans e1⟩
structure Kept (w:World) (g:Nat) (x:CT) (b:Nat) (s:ScR) (L:List Ce):Prop where
 row:w.heap[b]?=some (.cells (scrA s) 56 (0,0))
 off:Off w g x b
 vs:Vs ceV w s.A s.n L
 far:∀ ad,s.A=some ad→0<s.n→Off w g x ad.block
theorem Kept.on {w w':World} {g b:Nat} {x y:CT} {s:ScR} {L:List Ce} (h:Kept w g x b s L) (hk:∀ b,Off w g x b→Off w' g y b∧w'.heap[b]?=w.heap[b]?):Kept w' g y b s L :=
 ⟨(hk b h.off).2.trans h.row,(hk b h.off).1,⟨h.vs.len,fun hn=>by
  obtain ⟨ad,e,hb,hc⟩:=h.vs.at_ hn
  have ho:=hk _ (h.far ad e hn)
  exact ⟨ad,e,ho.1.lt,fun j v hj=>(World.cell?_of_block (by rw [addBlock];exact ho.2)).trans (hc j v hj)⟩⟩,fun ad e hn=>(hk _ (h.far ad e hn)).1⟩
theorem Kept.below {w w':World} {g b:Nat} {x:CT} {s:ScR} {L:List Ce} (h:Kept w g x b s L) (hb:Below w.heap.size w w'):Kept w' g x b s L:=h.on fun _ ho=>ho.below hb
theorem row_scc {w:World} {b:Nat} {s:ScR} (h:w.heap[b]?=some (.cells (scrA s) 56 (0,0))):ScC w b s:=by
 have hc:∀ k,w.cell? ⟨b,k,none⟩=(scrA s)[k]?:=fun k=>cell_of_row w b k _ _ _ h
 exact ⟨hc 0,hc 1,hc 2,hc 3,hc 4,hc 5,hc 6,hc 7,hc 8,(Array.getElem?_eq_some_iff.1 h).1⟩
open Go.RowKit
structure FarA (B:Nat) (x:AcR):Prop where
 p:∀ ad,x.P=some ad→0<x.np→B≤ad.block
 t:∀ ad,x.T=some ad→0<x.nt→B≤ad.block
def AcEndN (L:List AcS) (w:World) (e:Ending) (w':World):Prop:=∃ A c R,e=.returned (.slice A R.length c)∧Ats w' A R.length R∧acts R=L∧R.length≤c∧c≤maxLen∧Below w.heap.size w w'∧(∀ x∈R,FarA w.heap.size x)∧(∀ ad,A=some ad→0<R.length→w.heap.size≤ad.block)∧R.length≤200000
set_option maxHeartbeats 3200000 in
set_option maxRecDepth 100000 in
theorem pActsN_any {A:Option Addr} {n c:Nat} {zs:List Int} {w:World} (hT:Known w) (hs:Sb w A n zs) (h8:U8s zs) (hn:n≤100000) :
  Calls Tryz.prog 71 #[.slice A n c] w (AcEndN (actsP zs) w):=by
 have H:=Lib.hid (And.intro hs h8)
 have HT:=Lib.hid hT
 clear hs h8 hT
 go_enter Tryz.func71,Tryz.ntmps71
 go_wp2_with fail
 refine (pNew_any HT.out).mono ?_
 rintro e w1 ⟨g,S,rfl,hP,hb⟩
 have Y:=Lib.hid (And.intro hP hb)
 clear hP hb
 go_wp2_with fail
 go_loopw [3,10] (fun v i wr=>∃ (k m:Nat) (M:List AcR) (S:Nat→Prop),k≤n∧i=.int .i64 k∧Told w.heap.size wr g S k m M zs∧(∀ x∈M,FarA w.heap.size x)∧wr.ownsRow w.heap.size 62 6 v m (rowV acV M)∧Below w.heap.size w wr) (fun _ i _=>n-(intOf i).toNat)
 case atStart=>exact ⟨0,0,[],S,Nat.zero_le _,rfl,Told.nil zs Y.out.1,(fun x hx=>by cases hx),World.ownsRow_nil _ _ _ _,Y.out.2⟩
 case round =>
  obtain ⟨j,m,M,S,hj,rfl,hM,hF,hv,hb⟩:=hrel
  have HF:=Lib.hid hF
  clear hF
  obtain ⟨Av,cv,rfl,hvl,hvm⟩:=own_shape hv
  have X:=Lib.hid (And.intro hM (And.intro hv hb))
  clear hM hv hb Y
  by_cases hlt:j<n
  · have hs:=H.out.1.below X.out.2.2
    obtain ⟨ad,hA⟩:∃ ad,A=some ad:=by obtain ⟨ad,e,_⟩:=hs.at_ (by omega);exact ⟨ad,e⟩
    subst hA
    have hcell:=hs.cell hlt
    have hkl:j<zs.length:=by rw [hs.len];exact hlt
    have HKL:=Lib.hid hkl
    obtain ⟨z,hz⟩:∃ z,z=zs.getD j 0:=⟨_,rfl⟩
    rw [← hz] at hcell
    have HZ:=Lib.hid (And.intro (show 0≤z∧z≤255 by rw [hz,getD_lt hkl];exact H.out.2 _ (List.getElem_mem hkl)) hz)
    clear hz hs hkl hvl hvm
    go_wp2_with fail
    refine (pFeed_any (HT.out.below X.out.2.2 (Nat.le_refl _)) X.out.1.pz X.out.2.2.size HZ.out.1).mono ?_
    rintro e w3 ⟨A3,c3,R,S3,rfl,hA3,hR,hP,ho,hS,hAp,hN,_⟩
    have HN:=Lib.hid (show ∀ x∈M ++ R,FarA w.heap.size x from fun x hx=>by
     rcases List.mem_append.1 hx with hx | hx
     · exact HF.out x hx
     · have hz:=X.out.2.2.size
       exact ⟨fun ad e hn=>Nat.le_trans hz ((hN.2 x hx).1 ad e hn),fun ad e hn=>Nat.le_trans hz ((hN.2 x hx).2 ad e hn)⟩)
    clear hN
    have hlen:R.length≤2:=by rw [← acts_len,hR];exact feedP_len _ _
    have hmf:m≤200000:=by have:=X.out.1.few;omega
    have Z:=Lib.hid (show Vs acV w3 A3 R.length R∧w3.ownsRow w.heap.size 62 6 (.slice Av m cv) m (rowV acV M)∧Below w.heap.size w w3∧(∀ (w':World) ,w3.grownBy w' (Value.slice Av m cv).ownBlock→Told w.heap.size w' g S3 (j+1) (m+R.length) (M ++ R) zs) from by
     have hv3:=row_same X.out.2.1 fun q hq=>ho.keep q (row_act X.out.2.1 q hq).1 (fun hS=>(row_act X.out.2.1 q hq).2 (X.out.1.pz.na q hS))
     refine ⟨hA3.row,hv3,X.out.2.2.trans ho.bel,fun w' hg=>?_⟩
     rw [HZ.out.2] at hP hR
     exact X.out.1.next HKL.out hP ho hS hR (fun x hx=>⟨hA3.rd x hx,hAp x hx⟩) hv3 hg)
    have HLm:=Lib.hid (And.intro hlen hmf)
    clear hA3 hR hP ho hS hAp hlen hmf
    go_wp2_with (refine wpList_app_V _ rfl (.tmp 14) (.tmp 17) 59 rfl acV_len one_ac w.heap.size 62 _ 64 (by omega) Tryz.underlying59 infoAc rfl (by omega) (.slice Av m cv) m M rfl Z.out.2.1 A3 R.length c3 (m+R.length) rfl R rfl Z.out.1 (by have:=HLm.out;omega) Z.out.2.2.1.size ?_)
    intro A6 c6 w6 o6 g6
    have Z6:=Lib.hid (And.intro (Z.out.2.2.2 w6 g6) (And.intro o6 (Z.out.2.2.1.grown g6 Z.out.2.2.1.size (fun q hq=>(Z.out.2.1.lt q hq).1))))
    clear o6 g6 Z X
    go_wp2_with fail
    go_roundw
    case rel=>exact ⟨j+1,m+R.length,M ++ R,S3,by omega,by go_num,Z6.out.1,HN.out,Z6.out.2.1,Z6.out.2.2⟩
    case measure=>simp [intOf];omega
  · obtain rfl:j=n:=by omega
    have hall:zs.take j=zs:=List.take_of_length_le (by rw [H.out.1.len];exact Nat.le_refl _)
    have HV:=Lib.hid (And.intro hvl hvm)
    clear hvl hvm
    go_wp2_with fail
    go_ret
    have hml:=X.out.1.len
    refine ⟨Av,cv,M,by rw [hml];rfl,⟨by rw [hml];exact own_vs hml X.out.2.1,fun x hx=>(X.out.1.each x hx).1⟩,by rw [X.out.1.eq,hall];rfl,by rw [hml];exact HV.out.1,HV.out.2,X.out.2.2,HF.out,(fun ad e hn=>own_ge X.out.2.1 ad e),by have:=X.out.1.few;rw [hml];omega⟩
end Go.Proofs.YtlcipgdnpilkfaaGreatDoor
