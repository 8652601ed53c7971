/-
  Part 50 of what the laws of emul want: EmulBegin12, EmulRefScr, EmulTextS, UtfIn, EmulLwDo.
-/
import Derived.Deep.AppendLies
import Derived.Test.YtlcipgdnpilkfaaGreatDoorPt01
import Derived.Test.YtlcipgdnpilkfaaGreatDoorPt02
import Derived.Test.YtlcipgdnpilkfaaGreatDoorPt05
import Derived.Test.YtlcipgdnpilkfaaGreatDoorPt12
import Derived.Test.YtlcipgdnpilkfaaGreatDoorPt16
import Derived.Test.YtlcipgdnpilkfaaGreatDoorPt19
import Derived.Test.YtlcipgdnpilkfaaGreatDoorPt34
import Derived.Test.YtlcipgdnpilkfaaGreatDoorPt46
import Derived.Test.YtlcipgdnpilkfaaGreatDoorPt47
import Derived.Test.YtlcipgdnpilkfaaGreatDoorPt49
namespace Go.Proofs.YtlcipgdnpilkfaaGreatDoor
open Go.RowKit
section
variable {w0 w:World} {g:Nat} {x:CT} {t:Tm}
theorem Lw.keep (h:Lw w0 w g x t) {w':World} (hb:Below w0.heap.size w0 w') (hz:w.heap.size≤w'.heap.size) (hk:∀ q,CB g x q→w'.heap[q]?=w.heap[q]?):Lw w0 w' g x t:=⟨hb,h.cz.kept hz hk,h.tm,h.sane⟩
theorem RNew.keep {c r:Nat} {w1:World} {y:RT} (h:RNew c r w w1 y) {v w':World} (hb:Below v.heap.size v w') (hv:v.heap.size≤w.heap.size) (hz:w1.heap.size≤w'.heap.size) (hk:∀ q,w.heap.size≤q→q<w1.heap.size→w'.heap[q]?=w1.heap[q]?):RNew c r v w' y:=by
 refine { h with bel:=hb,new:=⟨fun ad e=>Nat.le_trans hv (h.new.1 ad e),fun ad e=>Nat.le_trans hv (h.new.2 ad e)⟩,m:=h.m.keep hz fun p hn hA hp=>World.cell?_of_block (hk _ ?_ hp),o:=h.o.keep hz fun p hn hA hp=>World.cell?_of_block (hk _ ?_ hp) }
 · cases hP:y.mA with
   | none=>rw [hP] at hA;cases hA
   | some ad =>
    rw [hP] at hA
    have hA:ad.block=p.block:=by injection hA
    rw [← hA];exact h.new.1 ad hP
 · cases hP:y.oA with
   | none=>rw [hP] at hA;cases hA
   | some ad =>
    rw [hP] at hA
    have hA:ad.block=p.block:=by injection hA
    rw [← hA];exact h.new.2 ad hP
theorem retTT {fn:Func} {p u v:Tmp} (h:fn.results=#[.tmp u,.cell p 42,.tmp v]) {tmps:Array Value} {w:World} {b:Nat} {cs:Array Value} {a c:Value} (hG:w.heap[b]?=some (.cells cs 42 (0,0))) (hz:cs.size=116) (hp:tmps.getD p undef=.pointer (some ⟨b,0,none⟩)) (hu:tmps.getD u undef=a) (hv:tmps.getD v undef=c) :
  (results fn tmps).run Tryz.prog w=.ok (.tuple #[a,.agg cs,c]) w:=by
 simp only [results,h]
 simp at hp hu hv
 simp [Result.andThen,asAddr,hp,hu,hv,run_loadVar_row w b 42 42 cs (0,0) _ hG Tryz.underlying42 rfl (by rw [hz];exact infoRT1)]
def colsN (z:Int):Nat:=(z % 80).toNat+1
def rowsN (z:Int):Nat:=(z % 24).toNat+1
theorem colsN_rng (z:Int):1≤colsN z∧colsN z≤80:=by unfold colsN;omega
theorem rowsN_rng (z:Int):1≤rowsN z∧rowsN z≤24:=by unfold rowsN;omega
structure Bgn (w0 w:World) (c r:Nat) (w':World) (g:Nat) (x:CT) (y:RT):Prop where
 lw:Lw w0 w' g x (tmNew c r)
 new:∀ q,CB g x q→w.heap.size≤q
 rt:RNew c r w w' y
set_option maxRecDepth 100000 in
set_option maxHeartbeats 3200000 in
theorem begin12_any (hT:Tabs w0) (hb:Below w0.heap.size w0 w) {cols rows:Int} (hc:0≤cols∧cols≤255) (hr:0≤rows∧rows≤255) :
  Calls Tryz.prog 11 #[.int .u8 cols,.int .u8 rows] w fun e w'=>Below w.heap.size w w'∧∃ g x y,e=.returned (.tuple #[.pointer (some ⟨g,0,none⟩),.agg (rtV y).toArray,.bool true])∧Bgn w0 w (colsN cols) (rowsN rows) w' g x y:=by
 obtain ⟨c,hcN⟩:∃ c,colsN cols=c:=⟨_,rfl⟩
 obtain ⟨r,hrN⟩:∃ r,rowsN rows=r:=⟨_,rfl⟩
 have hcr:=colsN_rng cols
 have hrr:=rowsN_rng rows
 obtain ⟨K,hK⟩:∃ K:Nat,(cols % 80).toNat=K:=⟨_,rfl⟩
 obtain ⟨J,hJ⟩:∃ J:Nat,(rows % 24).toNat=J:=⟨_,rfl⟩
 have hcK:c=K+1:=by rw [← hcN,← hK];rfl
 have hrJ:r=J+1:=by rw [← hrN,← hJ];rfl
 have m1:cols.tmod 80=(K:Int):=by rw [Int.tmod_eq_emod_of_nonneg hc.1];omega
 have m2:rows.tmod 24=(J:Int):=by rw [Int.tmod_eq_emod_of_nonneg hr.1];omega
 rw [hcN] at hcr
 rw [hrN] at hrr
 rw [hcN,hrN]
 have hcz:IntKind.i64.wrap cols=cols:=by rw [IntKind.wrap_i64];omega
 have hrz:IntKind.i64.wrap rows=rows:=by clear hcz;rw [IntKind.wrap_i64];omega
 have n1:IntKind.i64.wrap (K:Int)=(K:Int):=by clear hcz hrz m1 m2;rw [IntKind.wrap_i64];omega
 have n2:IntKind.i64.wrap (J:Int)=(J:Int):=by clear hcz hrz m1 m2 n1;rw [IntKind.wrap_i64];omega
 have n5:wrap64 (1+(K:Int))=(c:Int):=by clear hcz hrz m1 m2 n1 n2;unfold wrap64;omega
 have n6:wrap64 (1+(J:Int))=(r:Int):=by clear hcz hrz m1 m2 n1 n2 n5;unfold wrap64;omega
 have n3:IntKind.i64.wrap (1+(K:Int))=(c:Int):=by clear hcz hrz m1 m2 n1 n2 n5 n6;rw [IntKind.wrap_i64];omega
 have n4:IntKind.i64.wrap (1+(J:Int))=(r:Int):=by clear hcz hrz m1 m2 n1 n2 n3 n5 n6;rw [IntKind.wrap_i64];omega
 obtain ⟨b5,hb5⟩:∃ b5,b5=w.heap.size:=⟨_,rfl⟩
 obtain ⟨w1,hw1⟩:∃ w1,w1=w.alloc (.cells Tryz.zeroCells42 42):=⟨_,rfl⟩
 have H1:=Lib.hid (show Below w.heap.size w w1∧RtB w1 b5 rt0∧w.heap.size=b5∧w1.heap.size=b5+1 from by
  rw [hw1,hb5]
  refine ⟨(Below.refl _ _).alloc (Nat.le_refl _) _,?_,rfl,by simp⟩
  unfold RtB
  rw [← zeroRT]
  exact heap_alloc_new w _)
 have HB0:=Lib.hid (show Below w0.heap.size w0 w1∧w0.heap.size≤w.heap.size from ⟨hb.trans (H1.out.1.mono hb.size),hb.size⟩)
 have HT:=Lib.hid hT
 have HB00:=Lib.hid hb
 have HN:=Lib.hid (new_lw (w:=w1) hT HB0.out.1 hcr.1 hcr.2 hrr.1 hrr.2)
 have HR:=Lib.hid (fun w'=>refNewT_any hcr.1 hcr.2 hrr.1 hrr.2 w')
 clear hT hb hK hJ hcN hrN hcK hrJ hcr hrr hc hr
 go_enter Tryz.func11,Tryz.ntmps11
 go_upto_region 1 with fail
 rw [← hw1,← hb5]
 clear hw1 hb5
 go_wp2_with fail
 refine HN.out.mono ?_
 rintro e w2 ⟨hb2,g,x,rfl,hL,hnew⟩
 have L2:=Lib.hid (And.intro hL (And.intro hnew hb2))
 clear hb2 hL hnew
 go_wp2_with fail
 refine (HR.out w2).mono ?_
 rintro e w3 ⟨y,rfl,hy⟩
 have hys:y.t.tabs.length=80:=by rw [hy.t];rfl
 obtain ⟨es,hes⟩:∃ es,es=(rtV y).toArray:=⟨_,rfl⟩
 have he2:es.size=116:=by rw [hes,List.size_toArray];exact rtV_len hys
 have he3:es.all (·.oneCell')=true:=by rw [hes];exact rt_one _
 have HE:=Lib.hid (And.intro he2 (And.intro he3 hes))
 have Y3:=Lib.hid hy
 rw [← hes]
 clear he2 he3 hes hys hy
 obtain ⟨b11,hb11⟩:∃ b11,b11=w3.heap.size:=⟨_,rfl⟩
 obtain ⟨w4,hw4⟩:∃ w4,w4=w3.alloc (.cells (rtV rt0).toArray 42):=⟨_,rfl⟩
 have H4:=Lib.hid (show Below w3.heap.size w3 w4∧RtB w4 b11 rt0∧b11=w3.heap.size from ⟨by rw [hw4];exact (Below.refl _ _).alloc (Nat.le_refl _) _,by rw [hw4,hb11];exact heap_alloc_new w3 _,hb11⟩)
 go_upto_region 4 with (first | (refine wpList_store_row rfl 42 (.tmp 11) (.tmp 31) rfl b11 es (by rw [hb11];rfl) rfl 42 (rtV rt0).toArray (by rw [zeroRT,← hw4];exact H4.out.2.1) (by rw [HE.out.1];exact infoRT1) (by rw [HE.out.1];rfl) HE.out.2.1 ?_))
 rw [zeroRT,← hw4,← hb11]
 clear hw4 hb11
 obtain ⟨w5,hw5⟩:∃ w5,w5=w4.setRow b11 es:=⟨_,rfl⟩
 have H5:=Lib.hid (show Below w3.heap.size w3 w5∧w5.heap[b11]?=some (.cells es 42 (0,0)) from by
  rw [hw5]
  exact ⟨below_setRow H4.out.1 (Nat.le_of_eq H4.out.2.2.symm) _,setRow_heap w4 _ _ _ _ _ H4.out.2.1⟩)
 rw [← hw5]
 clear hw5
 have BW:=Lib.hid (show Below w1.heap.size w1 w5 from (L2.out.2.2.trans (Y3.out.bel.mono L2.out.2.2.size)).trans (H5.out.1.mono (Nat.le_trans L2.out.2.2.size Y3.out.bel.size)))
 have HS:=Lib.hid (show Below w.heap.size w w5 from H1.out.1.trans (BW.out.mono H1.out.1.size))
 have HF:=Lib.hid (show ∀ w',Below w.heap.size w w'→Calls Tryz.prog 23 #[] w' fun e w''=>e=.returned (.bool true)∧Below w'.heap.size w' w'' from fun w' hb=>fixedE_any (HT.out.below (HB00.out.trans (hb.mono HB0.out.2)) (Nat.le_refl _)))
 refine wp_region_held_drew (S:=fun w'=>Below w.heap.size w w'∧w'.heap[b11]?=some (.cells es 42 (0,0))) (by kernel_rfl) (⟨HS.out.drew,H5.out.2⟩) (fun hHeld=>?_)
 have HD:=Lib.hid (show Below w5.heap.size w5 w5.drew from (Below.refl _ _).drew)
 have HD2:=Lib.hid (show w5.drew.heap[b11]?=some (.cells es 42 (0,0)) from H5.out.2)
 generalize w5.drew=w6 at HD HD2 hHeld ⊢
 have HS6:=Lib.hid (show Below w.heap.size w w6 from HS.out.trans (HD.out.mono HS.out.size))
 refine tkH 0 (.pointer (some ⟨g,0,none⟩)) rfl (.inl ⟨by rfl,fun wz hSz=>?_⟩) hHeld ?_
 · go_simp
 simp only [Act.put,List.getElem_toArray,List.getElem_cons_zero,List.setIfInBounds_toArray,List.set_cons_succ,List.set_cons_zero]
 refine wpAnyH_take (i:=1) (v:=.agg es) rfl (by kernel_rfl) (by kernel_rfl) (by kernel_rfl) (fun _ _ _ h=>h) (yieldsIf_load_row (by rfl) 42 (.tmp 11) rfl b11 rfl es _ (fun w hw=>hw.2) Tryz.underlying42 rfl (by rw [HE.out.1];exact infoRT1)) hHeld ?_
 simp only [Act.put,List.getElem_toArray,List.getElem_cons_succ,List.getElem_cons_zero,List.setIfInBounds_toArray,List.set_cons_succ,List.set_cons_zero]
 refine tkH 2 (.pointer (some ⟨g,0,none⟩)) rfl (.inl ⟨by rfl,fun wz hSz=>?_⟩) hHeld ?_
 · go_simp
 simp only [Act.put,List.getElem_toArray,List.getElem_cons_succ,List.getElem_cons_zero,List.setIfInBounds_toArray,List.set_cons_succ,List.set_cons_zero]
 refine tkH 3 (.bool true) rfl (.inl ⟨by rfl,fun wz hSz=>?_⟩) hHeld ?_
 · go_simp
 simp only [Act.put,List.getElem_toArray,List.getElem_cons_succ,List.getElem_cons_zero,List.setIfInBounds_toArray,List.set_cons_succ,List.set_cons_zero]
 refine tkH 4 (.bool true) rfl (.inl ⟨by rfl,fun wz hSz=>?_⟩) hHeld ?_
 · go_simp
 simp only [Act.put,List.getElem_toArray,List.getElem_cons_succ,List.getElem_cons_zero,List.setIfInBounds_toArray,List.set_cons_succ,List.set_cons_zero]
 refine tkH 5 (.int .i64 0) rfl (.inl ⟨by rfl,fun wz hSz=>?_⟩) hHeld ?_
 · go_simp
 simp only [Act.put,List.getElem_toArray,List.getElem_cons_succ,List.getElem_cons_zero,List.setIfInBounds_toArray,List.set_cons_succ,List.set_cons_zero]
 refine tkH 6 (.bool true) rfl (.inl ⟨by rfl,fun wz hSz=>?_⟩) hHeld ?_
 · go_simp
 simp only [Act.put,List.getElem_toArray,List.getElem_cons_succ,List.getElem_cons_zero,List.setIfInBounds_toArray,List.set_cons_succ,List.set_cons_zero]
 refine tkH 7 (.bool true) rfl (.inl ⟨by rfl,fun wz hSz=>?_⟩) hHeld ?_
 · go_simp
 simp only [Act.put,List.getElem_toArray,List.getElem_cons_succ,List.getElem_cons_zero,List.setIfInBounds_toArray,List.set_cons_succ,List.set_cons_zero]
 refine tkH 8 (.bool true) rfl (.inl ⟨by rfl,fun wz hSz=>?_⟩) hHeld ?_
 · go_simp
 simp only [Act.put,List.getElem_toArray,List.getElem_cons_succ,List.getElem_cons_zero,List.setIfInBounds_toArray,List.set_cons_succ,List.set_cons_zero]
 refine tkH 9 (.int .i64 0) rfl (.inl ⟨by rfl,fun wz hSz=>?_⟩) hHeld ?_
 · go_simp
 simp only [Act.put,List.getElem_toArray,List.getElem_cons_succ,List.getElem_cons_zero,List.setIfInBounds_toArray,List.set_cons_succ,List.set_cons_zero]
 refine tkH 10 (.bool true) rfl (.inl ⟨by rfl,fun wz hSz=>?_⟩) hHeld ?_
 · go_simp
 simp only [Act.put,List.getElem_toArray,List.getElem_cons_succ,List.getElem_cons_zero,List.setIfInBounds_toArray,List.set_cons_succ,List.set_cons_zero]
 refine tkH 11 (.bool true) rfl (.inl ⟨by rfl,fun wz hSz=>?_⟩) hHeld ?_
 · go_simp
 simp only [Act.put,List.getElem_toArray,List.getElem_cons_succ,List.getElem_cons_zero,List.setIfInBounds_toArray,List.set_cons_succ,List.set_cons_zero]
 refine tkH 12 (.bool true) rfl (.inl ⟨by rfl,fun wz hSz=>?_⟩) hHeld ?_
 · go_simp
 simp only [Act.put,List.getElem_toArray,List.getElem_cons_succ,List.getElem_cons_zero,List.setIfInBounds_toArray,List.set_cons_succ,List.set_cons_zero]
 refine wpAnyH_ready (rs:=[13]) (by kernel_rfl) (by simp) (AllReadyH.cons rfl (fun K hK=>?_) AllReadyH.nil)
 rw [if_pos (by rfl)]
 go_simp
 refine (HF.out w6 HS6.out).mono ?_
 rintro e w7 ⟨rfl,hb7⟩
 have H7:=Lib.hid (show Below w.heap.size w w7∧w7.heap[b11]?=some (.cells es 42 (0,0))∧Below w6.heap.size w6 w7 from ⟨HS6.out.trans (hb7.mono HS6.out.size),(hb7.block b11 (Array.getElem?_eq_some_iff.1 HD2.out).1).trans HD2.out,hb7⟩)
 clear hb7
 refine hK.out _ _ (⟨H7.out.1,H7.out.2.1⟩) (fun hHeld=>?_)
 clear hK K
 try simp only [Act.put,List.getElem_toArray,List.getElem_cons_succ,List.getElem_cons_zero]
 try simp only [List.setIfInBounds_toArray]
 try simp only [List.set_cons_succ]
 try simp only [List.set_cons_zero]
 refine tkH 14 (.bool true) rfl (.inl ⟨by rfl,fun wz hSz=>?_⟩) hHeld ?_
 · go_simp
 simp only [Act.put,List.getElem_toArray,List.getElem_cons_succ,List.getElem_cons_zero,List.setIfInBounds_toArray,List.set_cons_succ,List.set_cons_zero]
 refine tkH 15 (.pointer (some ⟨g,0,none⟩)) rfl (.inl ⟨by rfl,fun wz hSz=>?_⟩) hHeld ?_
 · go_simp
 simp only [Act.put,List.getElem_toArray,List.getElem_cons_succ,List.getElem_cons_zero,List.setIfInBounds_toArray,List.set_cons_succ,List.set_cons_zero]
 refine wpAnyH_ready (rs:=[16]) (by kernel_rfl) (by simp) (AllReadyH.cons rfl (fun K hK=>?_) AllReadyH.nil)
 rw [if_pos (by rfl)]
 have HRT:=Lib.hid (show RtB w7 b5 rt0 from by
  have h1:=H1.out.2.1.below (BW.out)
  exact (h1.below HD.out).below H7.out.2.2)
 refine wp_store_row 42 (.tmp 5) (.tmp 34) rfl b5 es rfl rfl 42 (rtV rt0).toArray HRT.out (by rw [HE.out.1];exact infoRT1) (by rw [HE.out.1];rfl) HE.out.2.1 ?_
 have hbne:b11≠b5:=by have:=H4.out.2.2;have:=Y3.out.bel.size;have:=L2.out.2.2.size;have:=H1.out.2.2.2;omega
 have H8:=Lib.hid (show Below w.heap.size w (w7.setRow b5 es)∧(w7.setRow b5 es).heap[b11]?=some (.cells es 42 (0,0))∧(w7.setRow b5 es).heap[b5]?=some (.cells es 42 (0,0))∧(∀ q,q≠b5→q<w3.heap.size→(w7.setRow b5 es).heap[q]?=w3.heap[q]?)∧w3.heap.size≤(w7.setRow b5 es).heap.size from by
  have hs1:=H5.out.1.size
  have hs2:=HD.out.size
  have hs3:=H7.out.2.2.size
  refine ⟨below_setRow H7.out.1 (Nat.le_of_eq H1.out.2.2.1) _,(setRow_other w7 b5 b11 es hbne).trans H7.out.2.1,setRow_heap w7 _ _ _ _ _ HRT.out,fun q hq hl=>?_,by simp [World.setRow];omega⟩
  rw [setRow_other w7 b5 q es hq,H7.out.2.2.block q (by omega),HD.out.block q (by omega),H5.out.1.block q hl])
 generalize w7.setRow b5 es=w8 at H8 ⊢
 refine hK.out _ _ ⟨H8.out.1,H8.out.2.1⟩ (fun hHeld=>?_)
 clear hK K
 try simp only [Act.put,List.getElem_toArray,List.getElem_cons_succ,List.getElem_cons_zero]
 try simp only [List.setIfInBounds_toArray]
 try simp only [List.set_cons_succ]
 try simp only [List.set_cons_zero]
 refine tkH 17 (.bool true) rfl (.inl ⟨by rfl,fun wz hSz=>?_⟩) hHeld ?_
 · go_simp
 simp only [Act.put,List.getElem_toArray,List.getElem_cons_succ,List.getElem_cons_zero,List.setIfInBounds_toArray,List.set_cons_succ,List.set_cons_zero]
 refine wpAnyH_done (by kernel_rfl) ?_ _
 go_wp2_with fail
 refine bodyPost_ret (retTT Tryz.results11 H8.out.2.2.1 HE.out.1 rfl rfl rfl) rfl ?_
 have hs2:=Y3.out.bel.size
 have hs1:=L2.out.2.2.size
 have hbb:w1.heap.size=b5+1:=H1.out.2.2.2
 refine ⟨H8.out.1,g,x,y,by rw [HE.out.2.2];rfl,⟨?_,fun q hq=>by have:=L2.out.2.1 q hq;have:=H1.out.2.2.1;omega,?_⟩⟩
 · refine (L2.out.1.below Y3.out.bel).keep (HB00.out.trans (H8.out.1.mono HB0.out.2)) H8.out.2.2.2.2 fun q hq=>H8.out.2.2.2.1 q (by have:=L2.out.2.1 q hq;omega) (by have:=L2.out.1.cz.hi q hq;omega)
 · exact Y3.out.keep H8.out.1 (by have:=H1.out.1.size;omega) H8.out.2.2.2.2 (fun q h1 h2=>H8.out.2.2.2.1 q (by omega) h2)
end
open Go.RowKit
section
variable {w:World} {s s':ScR} {S:Sc}
def scN:ScR:=⟨0,0,none,0,0,0,0,false,0,⟨#[]⟩,none,0,0⟩
def scF (s:ScR):List Value:=[.int .i64 s.c,.int .i64 s.r,.slice s.A s.n s.k,.int .i64 s.x,.int .i64 s.y,.bool s.hid,.int .u8 s.mouse,.string s.ttl,.slice s.T s.m s.q]
theorem scF_len (s:ScR):(scF s).length=9:=rfl
theorem one_sc (L:List ScR):∀ v∈rowV scF L,v.oneCell'=true:=by
 induction L with
 | nil=>intro v hv;cases hv
 | cons c L ih =>
  intro v hv
  simp only [rowV,List.mem_append] at hv
  rcases hv with hv | hv
  · simp only [scF,List.mem_cons,List.not_mem_nil,or_false] at hv
    rcases hv with rfl | rfl | rfl | rfl | rfl | rfl | rfl | rfl | rfl<;>rfl
  · exact ih v hv
abbrev Sx (w:World) (g:Nat) (s:ScR):Prop:=Rw scF 56 w g [s]
theorem Sx.new (w:World) (s:ScR):Sx (w.alloc (.cells (scrA s) 56)) w.heap.size s:=made_rw (f:=scF) w 56 [s]
theorem sx_cells {w:World} {g:Nat} {s:ScR} (h:Sx w g s):ScC w g s :=
 ⟨h.cell (j:=0) rfl,h.cell (j:=1) rfl,h.cell (j:=2) rfl,h.cell (j:=3) rfl,h.cell (j:=4) rfl,h.cell (j:=5) rfl,h.cell (j:=6) rfl,h.cell (j:=7) rfl,h.cell (j:=8) rfl,h.lt⟩
end
def blanks0 (m:Nat):List Ce:=List.replicate m (blankS pn0)
theorem cAt_blank (W:List Ce) (m:Nat) {i:Nat} (h:W.length≤i):(cAt (W ++ blanks0 m) i).wd=0:=by
 rw [cAt_append,if_neg (by omega)]
 unfold blanks0
 rw [cAt_replicate]
 split<;>rfl
theorem cut_fit (W:List Ce) (m:Nat) {i:Nat} (h:W.length≤i):cutS (W ++ blanks0 m) i=W ++ blanks0 m:=by
 unfold cutS
 rw [if_neg fun e=>by have:=e.2;rw [cAt_blank W m h] at this;omega]
theorem put_fit (W:List Ce) (m:Nat) (r:Int) (h0:0<(lettS r pn0).length) (h:(lettS r pn0).length≤m):putS (W ++ blanks0 m) W.length r pn0=(W ++ lettS r pn0) ++ blanks0 (m-(lettS r pn0).length):=by
 have hl:(W ++ blanks0 m).length=W.length+m:=by simp [blanks0]
 unfold putS
 dsimp only
 rw [if_pos ⟨by omega,by rw [hl];omega,h0,by rw [hl];omega⟩,show ((W.length:Int)).toNat=W.length by omega,cut_fit W m (Nat.le_refl _),cut_fit W m (by omega)]
 unfold overS
 rw [List.take_left,List.drop_append,List.drop_eq_nil_of_le (by omega),List.nil_append,List.append_assoc,show W.length+(lettS r pn0).length-W.length=(lettS r pn0).length by omega]
 unfold blanks0
 rw [List.drop_replicate]
def tmRow (c:Nat) (W:List Ce) (l:Int):Tm:={ tmNew c 1 with main:=[W ++ blanks0 (c-W.length)],now:=⟨W.length,0,pn0,false⟩,last:=l }
theorem tmRow_new (c:Nat):tmNew c 1=tmRow c [] 0:=by
 unfold tmNew tmRow blankR blanksS blanks0
 simp [tmNew,spt0,blankR,blanksS]
theorem lett_len {r:Int} (h:widthS r=1∨widthS r=2):((lettS r pn0).length:Int)=widthS r:=by
 unfold lettS
 rcases h with h | h
 · rw [if_pos h,h];rfl
 · rw [if_neg (by omega),if_pos h,h];rfl
theorem print_fit {c:Nat} {W:List Ce} {l r:Int} (hw:widthS r=1∨widthS r=2) (h:(W.length:Int)+widthS r<c):(tmRow c W l).print r=tmRow c (W ++ lettS r pn0) r:=by
 have hk:=lett_len hw
 have hp:=put_fit W (c-W.length) r (by omega) (by omega)
 unfold Tm.print
 dsimp only
 rw [if_neg (show ¬ (widthS r=0∨widthS r > ((tmRow c W l).c:Int)) by show ¬ (widthS r=0∨widthS r > (c:Int));omega),
  if_neg (show ¬ ((tmRow c W l).nowrap=false∧((tmRow c W l).full=true∨(widthS r=2∧(tmRow c W l).now.x=((tmRow c W l).c:Int)-1))) by
   rintro ⟨_,h1 | ⟨h1,h2⟩⟩
   · cases h1
   · have h3:(W.length:Int)=c-1:=h2
     omega),
  if_neg (show ¬ (widthS r=2∧(tmRow c W l).now.x=((tmRow c W l).c:Int)-1) by
   rintro ⟨h1,h2⟩
   have h3:(W.length:Int)=c-1:=h2
   omega)]
 have hrow:inRowS (fun l=>putS l W.length r pn0) 0 [W ++ blanks0 (c-W.length)]=[(W ++ lettS r pn0) ++ blanks0 (c-(W ++ lettS r pn0).length)]:=by
  unfold inRowS
  rw [if_pos ⟨by omega,by simp⟩]
  simp only [lAt,List.getD,Int.toNat_zero,List.getElem?_cons_zero,Option.getD_some,List.set_cons_zero]
  rw [hp,List.length_append,show c-W.length-(lettS r pn0).length=c-(W.length+(lettS r pn0).length) by omega]
 have hput:(tmRow c W l).put (inRowS (fun l=>putS l W.length r pn0) 0 [W ++ blanks0 (c-W.length)])={ tmRow c W l with main:=[(W ++ lettS r pn0) ++ blanks0 (c-(W ++ lettS r pn0).length)] }:=by rw [hrow];rfl
 unfold Tm.letter
 dsimp only
 rw [if_neg (show ¬ (tmRow c W l).ins=true from fun e=>by cases e)]
 show (if ((tmRow c W l).put (inRowS (fun l=>putS l W.length r pn0) 0 [W ++ blanks0 (c-W.length)])).now.x+widthS r≥_ then _ else _)=_
 rw [show (tmRow c W l).put (inRowS (fun l'=>putS l' (tmRow c W l).now.x r (tmRow c W l).now.pen) (tmRow c W l).now.y (tmRow c W l).shown)={ tmRow c W l with main:=[(W ++ lettS r pn0) ++ blanks0 (c-(W ++ lettS r pn0).length)] } from hput,hput]
 refine (if_neg (show ¬ ((W.length:Int)+widthS r≥(c:Int)) by omega)).trans ?_
 have hx:((W ++ lettS r pn0).length:Int)=W.length+widthS r:=by rw [List.length_append,← hk];omega
 show ({ tmNew c 1 with main:=[(W ++ lettS r pn0) ++ blanks0 (c-(W ++ lettS r pn0).length)],now:=⟨(W.length:Int)+widthS r,0,pn0,false⟩,last:=r,full:=false }:Tm)=_
 rw [← hx]
 rfl
def lettsS (l:List Int):List Ce:=(l.map fun r=>lettS r pn0).flatten
theorem canon_none {cs:List Ce} (t:List ByteArray) (h:∀ c∈cs,c.p.lk=0):canonC cs t=cs:=by
 unfold canonC
 refine (List.map_congr_left fun c hc=>?_).trans (List.map_id cs)
 have h0:=h c hc
 obtain ⟨r,wd,⟨fg,bg,st,lk⟩⟩:=c
 simp only at h0
 subst h0
 show setLk _ (numI _ (leadsS t 0))=_
 rw [leads_out (Or.inl (by omega))]
 unfold numI
 rw [if_pos rfl]
 rfl
theorem letts_lk (l:List Int):∀ c∈lettsS l,c.p=pn0:=by
 intro c hc
 obtain ⟨L,hL,hc⟩:=List.mem_flatten.1 hc
 obtain ⟨r,_,rfl⟩:=List.mem_map.1 hL
 unfold lettS at hc
 split at hc
 · rw [List.mem_singleton.1 hc]
 · split at hc
   · simp only [List.mem_cons,List.not_mem_nil,or_false] at hc
     rcases hc with rfl | rfl<;>rfl
   · cases hc
theorem text_screen (c:Nat) (l:List Int) (q:Int):(tmRow c (lettsS l) q).screen.cells=lettsS l ++ blanks0 (c-(lettsS l).length)∧(tmRow c (lettsS l) q).screen.x=(lettsS l).length∧(tmRow c (lettsS l) q).screen.y=0:=by
 refine ⟨?_,rfl,rfl⟩
 show canonC [lettsS l ++ blanks0 (c-(lettsS l).length)].flatten []=_
 rw [show [lettsS l ++ blanks0 (c-(lettsS l).length)].flatten=lettsS l ++ blanks0 (c-(lettsS l).length) by simp]
 refine canon_none [] fun x hx=>?_
 rcases List.mem_append.1 hx with hx | hx
 · rw [letts_lk l x hx];rfl
 · rw [List.eq_of_mem_replicate hx];rfl
open Go.ChangeShapes Go.WideShapes Go.ChangeAt Go.RowKit
theorem cells32:Tryz.prog.cellsOf 21=1:=by kernel_rfl
set_option maxRecDepth 100000 in
theorem open_i32s {H:Type} {enc:TypeId × Value→H} {W:World} {base:Nat} {v:Value} {d:DataW H} {p:List MemPlace} (hv:Value.okWide Tryz.prog W .any base 72 v)
  (h:DataW.Trod enc Tryz.prog W 0 (fun _=>true) true 72 v d p) :
  ∃ A n c zs,v=.slice A n c∧Ik .i32 W A n zs∧(∀ z∈zs,-2147483648≤z∧z≤2147483647)∧(n≤c∧c≤maxLen):=by
 obtain ⟨A,n,c,rfl⟩:=okWide_slice Tryz.underlying72 hv
 obtain ⟨fuel,hf⟩:=h
 rcases open_ints Tryz.underlying72 Tryz.underlying21 cells32 hf with ⟨hcs,_⟩ | ⟨a,len,cap,zs,hcs,_,hl,hm,hz,hx,hcell,hwz⟩
 · simp [Value.cells] at hcs
   obtain ⟨rfl,rfl,rfl⟩:=hcs
   exact ⟨none,0,0,[],rfl,Ik.nil _ _ _,(fun _ h=>by simp at h),Nat.le_refl _,by unfold maxLen;omega⟩
 · simp [Value.cells] at hcs
   obtain ⟨rfl,rfl,rfl⟩:=hcs
   have hzl:zs.length=c:=by simpa using hz
   have hlen:(zs.take n).length=n:=by simp;omega
   refine ⟨some a,n,c,zs.take n,rfl,⟨hlen,fun hn=>⟨a,rfl,?_,fun k hk=>?_⟩⟩,fun z hz=>?_,hl,hm⟩
   · have h0:=hcell 0 (by omega)
     have:=World.block_lt_of_cell? W _ h0
     rwa [addBlock] at this
   · rw [hcell k (by omega),getD_lt (by omega),getD_lt (by omega)]
     simp
   · exact bounds_i32 (hwz z (List.mem_of_mem_take hz))
open Go.RowKit
section
variable {w0 w w':World} {g:Nat} {x:CT} {t:Tm}
theorem do_lw (hT:Tabs w0) (h:Lw w0 w g x t) (y:AcR) (hy:ActIn w g x y):Calls Tryz.prog 20 #[.pointer (some ⟨g,0,none⟩),.agg (acA y)] w fun e w'=>e=.returned (.tuple #[])∧∃ z,Lw w0 w' g z (t.doA y.a)∧CzTo w0.heap.size g x (t.doA y.a) w w' z:=by
 have hx:=h.tm
 have hss:=h.sane
 rw [← hx] at hss
 refine (doT_any (h.tabs hT) h.cz hss.lk y hy).mono ?_
 rintro e w' ⟨rfl,z,hz⟩
 rw [hx] at hz hss
 exact ⟨rfl,z,h.step hz (hss.doA y.a),hz⟩
theorem inSt_ge (r:Int):∀ (l:List (Int × Int × Int)),(∀ y∈l,0≤y.2.2)→0≤inSt r l
 | [],_=>by unfold inSt;omega
 | x :: l,h=>by
  unfold inSt
  split
  · exact h x (by simp)
  · exact inSt_ge r l fun y hy=>h y (by simp [hy])
theorem width_012 (r:Int):widthS r=0∨widthS r=1∨widthS r=2:=by
 have h1:=width_le r
 have h2:0≤widthS r:=by
  unfold widthS
  split
  · exact inSt_ge r stL (by decide)
  · omega
 omega
def bareA (k r fin:Int):AcR:=⟨⟨k,r,0,fin,[],[]⟩,none,0,0,none,0,0⟩
theorem bare_in (w:World) (g:Nat) (x:CT) (k r fin:Int):ActIn w g x (bareA k r fin) :=
 ⟨⟨Ik.nil .i64 w none,Sb.nil w none,Nat.le_refl _,by show (0:Nat)≤_;omega,Nat.le_refl _,by show (0:Nat)≤_;omega⟩,(fun ad e=>by cases e),u8_nil,by show (0:Nat)≤_;omega⟩
theorem doA_print (t:Tm) (r:Int):t.doA (bareA 1 r 0).a=t.print r:=by
 unfold Tm.doA bareA
 rw [if_neg (show ¬ mayAct _=false from by unfold mayAct;simp)]
 rfl
structure RwL (w0 w:World) (g:Nat) (x:CT) (A:Option Addr) (n c:Nat) (L:List Ce):Prop where
 own:w.ownsRow w0.heap.size 66 6 (.slice A n c) n (rowV ceV L)
 ap:∀ q,(Value.slice A n c).ownBlock=some q→¬ CB g x q
theorem RwL.nil (w0 w:World) (g:Nat) (x:CT):RwL w0 w g x none 0 0 []:=⟨World.ownsRow_nil _ _ _ _,fun q e=>by cases e⟩
theorem RwL.step {A:Option Addr} {n c:Nat} {L:List Ce} (h:RwL w0 w g x A n c L) {z:CT} {t2:Tm} (k:CzTo w0.heap.size g x t2 w w' z):RwL w0 w' g z A n c L :=
 ⟨row_same h.own fun q hq=>k.out.keep q (h.own.lt q hq).2 (h.ap q hq),fun q hq hz=>by
  rcases k.sub q hz with h1 | h1
  · exact h.ap q hq h1
  · have:=(h.own.lt q hq).2;omega⟩
theorem RwL.below {A:Option Addr} {n c:Nat} {L:List Ce} (h:RwL w0 w g x A n c L) (hb:Below w.heap.size w w'):RwL w0 w' g x A n c L :=
 ⟨row_same h.own fun q hq=>hb.block q (h.own.lt q hq).2,h.ap⟩
theorem wpList_app_cell (hL:Lw w0 w g x t) {A:Option Addr} {n c:Nat} {L:List Ce} (h:RwL w0 w g x A n c L) (hn:n≤100000) {ops:Array Oper} {rest:List Oper} {o:Oper} {a:Act} {Q:Exit→Act→World→Prop} (hgd:o.guard=none) (s u:Operand)
  (ho:o.op=.call { callee:=.builtin .append,args:=#[s,u],argTypes:=#[24,24] }) (hs:a.eval s=.slice A n c) (ce:Ce) {w1:World} (hw1:w1=w.alloc (.cells (ceA ce) 66)) {m:Nat} (hu:a.eval u=.slice (some ⟨w.heap.size,0,none⟩) 1 m)
  (hk:∀ A' c' w',Lw w0 w' g x t→RwL w0 w' g x A' (n+1) c' (L ++ [ce])→Below w0.heap.size w0 w'→wpList Tryz.prog ops Q rest (a.put o.dst (.slice A' (n+1) c')) w'):wpList Tryz.prog ops Q (o :: rest) a w1:=by
 have hb1:Below w.heap.size w w1:=by rw [hw1];exact (Below.refl _ _).alloc (Nat.le_refl _) _
 have hL1:=hL.below hb1
 have h1:=h.below hb1
 have hnew:w1.heap[w.heap.size]?=some (.cells (ceA ce) 66 (0,0)):=by rw [hw1];exact heap_alloc_new w _
 have hsz:w1.heap.size=w.heap.size+1:=by rw [hw1];simp
 obtain ⟨i0,hi,hz0,hz1,hz2⟩:=info_parts infoCe3
 refine wpList_append_lies w1 hgd s u 24 ho w0.heap.size 66 i0 (.agg (ceA ce0)) 6 20 Tryz.underlying24 hi hz0 hz1 hz2 rfl (by omega) (.slice A n c) n (rowV ceV L) hs h1.own ⟨w.heap.size,0,none⟩ 1 m (rowV ceV [ce]) hu (by simp [rowV,ceV]) ?_ (one_ce [ce]) (by omega) (by unfold maxLen;omega) (by omega) (Nat.le_trans hL1.bel.size (Nat.le_refl _)) _ rfl ?_
 · have h2:=World.news_of_block hnew
   intro j v hv
   exact h2 j v (by have e : rowV ceV [ce] = (ceA ce).toList := by simp [rowV]; rfl
                    rw [← e];exact hv)
 · intro q c' w' ho2 hg hor hlt
   have hcb:∀ q',(Value.slice A n c).ownBlock=some q'→¬ CB g x q':=h1.ap
   have hz:w1.heap.size≤w'.heap.size:=hg.size
   have hL':Lw w0 w' g x t:=hL1.keep (hL1.bel.grown hg hL1.bel.size fun q' hq'=>(h1.own.lt q' hq').1) hz fun q' hq'=>hg.block q' (hL1.cz.hi q' hq') fun e=>hcb q' e.symm hq'
   refine hk _ _ w' hL' ⟨by rw [rowV_append];exact ho2,fun q' hq'=>?_⟩ hL'.bel
   have e:q=q':=by simpa [Value.ownBlock] using hq'
   subst e
   rcases hor with e | e
   · exact hcb q e
   · intro hx
     have:=hL1.cz.hi q hx
     omega
end
end Go.Proofs.YtlcipgdnpilkfaaGreatDoor
