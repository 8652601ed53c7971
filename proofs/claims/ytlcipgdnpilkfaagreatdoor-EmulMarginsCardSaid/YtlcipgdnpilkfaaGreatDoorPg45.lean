/-
  Part 45 of what the laws of emul want: EmulBegin12, EmulRefScr, EmulLwDo, EmulMarg, EmulSizS.
-/
import Derived.Deep.AppendLies
import Derived.Test.YtlcipgdnpilkfaaGreatDoorPg01
import Derived.Test.YtlcipgdnpilkfaaGreatDoorPg02
import Derived.Test.YtlcipgdnpilkfaaGreatDoorPg04
import Derived.Test.YtlcipgdnpilkfaaGreatDoorPg10
import Derived.Test.YtlcipgdnpilkfaaGreatDoorPg14
import Derived.Test.YtlcipgdnpilkfaaGreatDoorPg17
import Derived.Test.YtlcipgdnpilkfaaGreatDoorPg30
import Derived.Test.YtlcipgdnpilkfaaGreatDoorPg31
import Derived.Test.YtlcipgdnpilkfaaGreatDoorPg41
import Derived.Test.YtlcipgdnpilkfaaGreatDoorPg42
import Derived.Test.YtlcipgdnpilkfaaGreatDoorPg44
namespace Go.Proofs.YtlcipgdnpilkfaaGreatDoor
open Go.RowKit
section
variable {w0 w:World} {g:Nat} {x:CT} {t:Tm}
theorem Lw.keep (h:Lw w0 w g x t) {w':World} (hb:Below w0.heap.size w0 w') (hz:w.heap.size≤w'.heap.size) (hk:∀ q,CB g x q→w'.heap[q]?=w.heap[q]?):Lw w0 w' g x t:=⟨hb,h.cz.kept hz hk,h.tm,h.sane⟩
theorem RNew.keep {c r:Nat} {w1:World} {y:RT} (h:RNew c r w w1 y) {v w':World} (hb:Below v.heap.size v w') (hv:v.heap.size≤w.heap.size) (hz:w1.heap.size≤w'.heap.size) (hk:∀ q,w.heap.size≤q→q<w1.heap.size→w'.heap[q]?=w1.heap[q]?):RNew c r v w' y:=by
 refine { h with bel:=hb,new:=⟨fun ad e=>Nat.le_trans hv (h.new.1 ad e),fun ad e=>Nat.le_trans hv (h.new.2 ad e)⟩,m:=h.m.keep hz fun p hn hA hp=>World.cell?_of_block (hk _ ?_ hp),o:=h.o.keep hz fun p hn hA hp=>World.cell?_of_block (hk _ ?_ hp) }
 · cases hP:y.mA with
   | none=>rw [hP] at hA;cases hA
   | some ad =>
    rw [hP] at hA
    have hA:ad.block=p.block:=by injection hA
    rw [← hA];exact h.new.1 ad hP
 · cases hP:y.oA with
   | none=>rw [hP] at hA;cases hA
   | some ad =>
    rw [hP] at hA
    have hA:ad.block=p.block:=by injection hA
    rw [← hA];exact h.new.2 ad hP
theorem retTT {fn:Func} {p u v:Tmp} (h:fn.results=#[.tmp u,.cell p 42,.tmp v]) {tmps:Array Value} {w:World} {b:Nat} {cs:Array Value} {a c:Value} (hG:w.heap[b]?=some (.cells cs 42 (0,0))) (hz:cs.size=116) (hp:tmps.getD p undef=.pointer (some ⟨b,0,none⟩)) (hu:tmps.getD u undef=a) (hv:tmps.getD v undef=c) :
  (results fn tmps).run Tryz.prog w=.ok (.tuple #[a,.agg cs,c]) w:=by
 simp only [results,h]
 simp at hp hu hv
 simp [Result.andThen,asAddr,hp,hu,hv,run_loadVar_row w b 42 42 cs (0,0) _ hG Tryz.underlying42 rfl (by rw [hz];exact infoRT1)]
def colsN (z:Int):Nat:=(z % 80).toNat+1
def rowsN (z:Int):Nat:=(z % 24).toNat+1
theorem colsN_rng (z:Int):1≤colsN z∧colsN z≤80:=by unfold colsN;omega
theorem rowsN_rng (z:Int):1≤rowsN z∧rowsN z≤24:=by unfold rowsN;omega
structure Bgn (w0 w:World) (c r:Nat) (w':World) (g:Nat) (x:CT) (y:RT):Prop where
 lw:Lw w0 w' g x (tmNew c r)
 new:∀ q,CB g x q→w.heap.size≤q
 rt:RNew c r w w' y
set_option maxRecDepth 100000 in
set_option maxHeartbeats 3200000 in
theorem begin12_any (hT:Tabs w0) (hb:Below w0.heap.size w0 w) {cols rows:Int} (hc:0≤cols∧cols≤255) (hr:0≤rows∧rows≤255) :
  Calls Tryz.prog 11 #[.int .u8 cols,.int .u8 rows] w fun e w'=>Below w.heap.size w w'∧∃ g x y,e=.returned (.tuple #[.pointer (some ⟨g,0,none⟩),.agg (rtV y).toArray,.bool true])∧Bgn w0 w (colsN cols) (rowsN rows) w' g x y:=by
 obtain ⟨c,hcN⟩:∃ c,colsN cols=c:=⟨_,rfl⟩
 obtain ⟨r,hrN⟩:∃ r,rowsN rows=r:=⟨_,rfl⟩
 have hcr:=colsN_rng cols
 have hrr:=rowsN_rng rows
 obtain ⟨K,hK⟩:∃ K:Nat,(cols % 80).toNat=K:=⟨_,rfl⟩
 obtain ⟨J,hJ⟩:∃ J:Nat,(rows % 24).toNat=J:=⟨_,rfl⟩
 have hcK:c=K+1:=by rw [← hcN,← hK];rfl
 have hrJ:r=J+1:=by rw [← hrN,← hJ];rfl
 have m1:cols.tmod 80=(K:Int):=by rw [Int.tmod_eq_emod_of_nonneg hc.1];omega
 have m2:rows.tmod 24=(J:Int):=by rw [Int.tmod_eq_emod_of_nonneg hr.1];omega
 rw [hcN] at hcr
 rw [hrN] at hrr
 rw [hcN,hrN]
 have hcz:IntKind.i64.wrap cols=cols:=by rw [IntKind.wrap_i64];omega
 have hrz:IntKind.i64.wrap rows=rows:=by clear hcz;rw [IntKind.wrap_i64];omega
 have n1:IntKind.i64.wrap (K:Int)=(K:Int):=by clear hcz hrz m1 m2;rw [IntKind.wrap_i64];omega
 have n2:IntKind.i64.wrap (J:Int)=(J:Int):=by clear hcz hrz m1 m2 n1;rw [IntKind.wrap_i64];omega
 have n5:wrap64 (1+(K:Int))=(c:Int):=by clear hcz hrz m1 m2 n1 n2;unfold wrap64;omega
 have n6:wrap64 (1+(J:Int))=(r:Int):=by clear hcz hrz m1 m2 n1 n2 n5;unfold wrap64;omega
 have n3:IntKind.i64.wrap (1+(K:Int))=(c:Int):=by clear hcz hrz m1 m2 n1 n2 n5 n6;rw [IntKind.wrap_i64];omega
 have n4:IntKind.i64.wrap (1+(J:Int))=(r:Int):=by clear hcz hrz m1 m2 n1 n2 n3 n5 n6;rw [IntKind.wrap_i64];omega
 obtain ⟨b5,hb5⟩:∃ b5,b5=w.heap.size:=⟨_,rfl⟩
 obtain ⟨w1,hw1⟩:∃ w1,w1=w.alloc (.cells Tryz.zeroCells42 42):=⟨_,rfl⟩
 have H1:=Lib.hid (show Below w.heap.size w w1∧RtB w1 b5 rt0∧w.heap.size=b5∧w1.heap.size=b5+1 from by
  rw [hw1,hb5]
  refine ⟨(Below.refl _ _).alloc (Nat.le_refl _) _,?_,rfl,by simp⟩
  unfold RtB
  rw [← zeroRT]
  exact heap_alloc_new w _)
 have HB0:=Lib.hid (show Below w0.heap.size w0 w1∧w0.heap.size≤w.heap.size from ⟨hb.trans (H1.out.1.mono hb.size),hb.size⟩)
 have HT:=Lib.hid hT
 have HB00:=Lib.hid hb
 have HN:=Lib.hid (new_lw (w:=w1) hT HB0.out.1 hcr.1 hcr.2 hrr.1 hrr.2)
 have HR:=Lib.hid (fun w'=>refNewT_any hcr.1 hcr.2 hrr.1 hrr.2 w')
 clear hT hb hK hJ hcN hrN hcK hrJ hcr hrr hc hr
 go_enter Tryz.func11,Tryz.ntmps11
 go_upto_region 1 with fail
 rw [← hw1,← hb5]
 clear hw1 hb5
 go_wp2_with fail
 refine HN.out.mono ?_
 rintro e w2 ⟨hb2,g,x,rfl,hL,hnew⟩
 have L2:=Lib.hid (And.intro hL (And.intro hnew hb2))
 clear hb2 hL hnew
 go_wp2_with fail
 refine (HR.out w2).mono ?_
 rintro e w3 ⟨y,rfl,hy⟩
 have hys:y.t.tabs.length=80:=by rw [hy.t];rfl
 obtain ⟨es,hes⟩:∃ es,es=(rtV y).toArray:=⟨_,rfl⟩
 have he2:es.size=116:=by rw [hes,List.size_toArray];exact rtV_len hys
 have he3:es.all (·.oneCell')=true:=by rw [hes];exact rt_one _
 have HE:=Lib.hid (And.intro he2 (And.intro he3 hes))
 have Y3:=Lib.hid hy
 rw [← hes]
 clear he2 he3 hes hys hy
 obtain ⟨b11,hb11⟩:∃ b11,b11=w3.heap.size:=⟨_,rfl⟩
 obtain ⟨w4,hw4⟩:∃ w4,w4=w3.alloc (.cells (rtV rt0).toArray 42):=⟨_,rfl⟩
 have H4:=Lib.hid (show Below w3.heap.size w3 w4∧RtB w4 b11 rt0∧b11=w3.heap.size from ⟨by rw [hw4];exact (Below.refl _ _).alloc (Nat.le_refl _) _,by rw [hw4,hb11];exact heap_alloc_new w3 _,hb11⟩)
 go_upto_region 4 with (first | (refine wpList_store_row rfl 42 (.tmp 11) (.tmp 31) rfl b11 es (by rw [hb11];rfl) rfl 42 (rtV rt0).toArray (by rw [zeroRT,← hw4];exact H4.out.2.1) (by rw [HE.out.1];exact infoRT1) (by rw [HE.out.1];rfl) HE.out.2.1 ?_))
 rw [zeroRT,← hw4,← hb11]
 clear hw4 hb11
 obtain ⟨w5,hw5⟩:∃ w5,w5=w4.setRow b11 es:=⟨_,rfl⟩
 have H5:=Lib.hid (show Below w3.heap.size w3 w5∧w5.heap[b11]?=some (.cells es 42 (0,0)) from by
  rw [hw5]
  exact ⟨below_setRow H4.out.1 (Nat.le_of_eq H4.out.2.2.symm) _,setRow_heap w4 _ _ _ _ _ H4.out.2.1⟩)
 rw [← hw5]
 clear hw5
 have BW:=Lib.hid (show Below w1.heap.size w1 w5 from (L2.out.2.2.trans (Y3.out.bel.mono L2.out.2.2.size)).trans (H5.out.1.mono (Nat.le_trans L2.out.2.2.size Y3.out.bel.size)))
 have HS:=Lib.hid (show Below w.heap.size w w5 from H1.out.1.trans (BW.out.mono H1.out.1.size))
 have HF:=Lib.hid (show ∀ w',Below w.heap.size w w'→Calls Tryz.prog 23 #[] w' fun e w''=>e=.returned (.bool true)∧Below w'.heap.size w' w'' from fun w' hb=>fixedE_any (HT.out.below (HB00.out.trans (hb.mono HB0.out.2)) (Nat.le_refl _)))
 refine wp_region_held_drew (S:=fun w'=>Below w.heap.size w w'∧w'.heap[b11]?=some (.cells es 42 (0,0))) (by kernel_rfl) (⟨HS.out.drew,H5.out.2⟩) (fun hHeld=>?_)
 have HD:=Lib.hid (show Below w5.heap.size w5 w5.drew from (Below.refl _ _).drew)
 have HD2:=Lib.hid (show w5.drew.heap[b11]?=some (.cells es 42 (0,0)) from H5.out.2)
 generalize w5.drew=w6 at HD HD2 hHeld ⊢
 have HS6:=Lib.hid (show Below w.heap.size w w6 from HS.out.trans (HD.out.mono HS.out.size))
 refine tkH 0 (.pointer (some ⟨g,0,none⟩)) rfl (.inl ⟨by rfl,fun wz hSz=>?_⟩) hHeld ?_
 · go_simp
 simp only [Act.put,List.getElem_toArray,List.getElem_cons_zero,List.setIfInBounds_toArray,List.set_cons_succ,List.set_cons_zero]
 refine wpAnyH_take (i:=1) (v:=.agg es) rfl (by kernel_rfl) (by kernel_rfl) (by kernel_rfl) (fun _ _ _ h=>h) (yieldsIf_load_row (by rfl) 42 (.tmp 11) rfl b11 rfl es _ (fun w hw=>hw.2) Tryz.underlying42 rfl (by rw [HE.out.1];exact infoRT1)) hHeld ?_
 simp only [Act.put,List.getElem_toArray,List.getElem_cons_succ,List.getElem_cons_zero,List.setIfInBounds_toArray,List.set_cons_succ,List.set_cons_zero]
 refine tkH 2 (.pointer (some ⟨g,0,none⟩)) rfl (.inl ⟨by rfl,fun wz hSz=>?_⟩) hHeld ?_
 · go_simp
 simp only [Act.put,List.getElem_toArray,List.getElem_cons_succ,List.getElem_cons_zero,List.setIfInBounds_toArray,List.set_cons_succ,List.set_cons_zero]
 refine tkH 3 (.bool true) rfl (.inl ⟨by rfl,fun wz hSz=>?_⟩) hHeld ?_
 · go_simp
 simp only [Act.put,List.getElem_toArray,List.getElem_cons_succ,List.getElem_cons_zero,List.setIfInBounds_toArray,List.set_cons_succ,List.set_cons_zero]
 refine tkH 4 (.bool true) rfl (.inl ⟨by rfl,fun wz hSz=>?_⟩) hHeld ?_
 · go_simp
 simp only [Act.put,List.getElem_toArray,List.getElem_cons_succ,List.getElem_cons_zero,List.setIfInBounds_toArray,List.set_cons_succ,List.set_cons_zero]
 refine tkH 5 (.int .i64 0) rfl (.inl ⟨by rfl,fun wz hSz=>?_⟩) hHeld ?_
 · go_simp
 simp only [Act.put,List.getElem_toArray,List.getElem_cons_succ,List.getElem_cons_zero,List.setIfInBounds_toArray,List.set_cons_succ,List.set_cons_zero]
 refine tkH 6 (.bool true) rfl (.inl ⟨by rfl,fun wz hSz=>?_⟩) hHeld ?_
 · go_simp
 simp only [Act.put,List.getElem_toArray,List.getElem_cons_succ,List.getElem_cons_zero,List.setIfInBounds_toArray,List.set_cons_succ,List.set_cons_zero]
 refine tkH 7 (.bool true) rfl (.inl ⟨by rfl,fun wz hSz=>?_⟩) hHeld ?_
 · go_simp
 simp only [Act.put,List.getElem_toArray,List.getElem_cons_succ,List.getElem_cons_zero,List.setIfInBounds_toArray,List.set_cons_succ,List.set_cons_zero]
 refine tkH 8 (.bool true) rfl (.inl ⟨by rfl,fun wz hSz=>?_⟩) hHeld ?_
 · go_simp
 simp only [Act.put,List.getElem_toArray,List.getElem_cons_succ,List.getElem_cons_zero,List.setIfInBounds_toArray,List.set_cons_succ,List.set_cons_zero]
 refine tkH 9 (.int .i64 0) rfl (.inl ⟨by rfl,fun wz hSz=>?_⟩) hHeld ?_
 · go_simp
 simp only [Act.put,List.getElem_toArray,List.getElem_cons_succ,List.getElem_cons_zero,List.setIfInBounds_toArray,List.set_cons_succ,List.set_cons_zero]
 refine tkH 10 (.bool true) rfl (.inl ⟨by rfl,fun wz hSz=>?_⟩) hHeld ?_
 · go_simp
 simp only [Act.put,List.getElem_toArray,List.getElem_cons_succ,List.getElem_cons_zero,List.setIfInBounds_toArray,List.set_cons_succ,List.set_cons_zero]
 refine tkH 11 (.bool true) rfl (.inl ⟨by rfl,fun wz hSz=>?_⟩) hHeld ?_
 · go_simp
 simp only [Act.put,List.getElem_toArray,List.getElem_cons_succ,List.getElem_cons_zero,List.setIfInBounds_toArray,List.set_cons_succ,List.set_cons_zero]
 refine tkH 12 (.bool true) rfl (.inl ⟨by rfl,fun wz hSz=>?_⟩) hHeld ?_
 · go_simp
 simp only [Act.put,List.getElem_toArray,List.getElem_cons_succ,List.getElem_cons_zero,List.setIfInBounds_toArray,List.set_cons_succ,List.set_cons_zero]
 refine wpAnyH_ready (rs:=[13]) (by kernel_rfl) (by simp) (AllReadyH.cons rfl (fun K hK=>?_) AllReadyH.nil)
 rw [if_pos (by rfl)]
 go_simp
 refine (HF.out w6 HS6.out).mono ?_
 rintro e w7 ⟨rfl,hb7⟩
 have H7:=Lib.hid (show Below w.heap.size w w7∧w7.heap[b11]?=some (.cells es 42 (0,0))∧Below w6.heap.size w6 w7 from ⟨HS6.out.trans (hb7.mono HS6.out.size),(hb7.block b11 (Array.getElem?_eq_some_iff.1 HD2.out).1).trans HD2.out,hb7⟩)
 clear hb7
 refine hK.out _ _ (⟨H7.out.1,H7.out.2.1⟩) (fun hHeld=>?_)
 clear hK K
 try simp only [Act.put,List.getElem_toArray,List.getElem_cons_succ,List.getElem_cons_zero]
 try simp only [List.setIfInBounds_toArray]
 try simp only [List.set_cons_succ]
 try simp only [List.set_cons_zero]
 refine tkH 14 (.bool true) rfl (.inl ⟨by rfl,fun wz hSz=>?_⟩) hHeld ?_
 · go_simp
 simp only [Act.put,List.getElem_toArray,List.getElem_cons_succ,List.getElem_cons_zero,List.setIfInBounds_toArray,List.set_cons_succ,List.set_cons_zero]
 refine tkH 15 (.pointer (some ⟨g,0,none⟩)) rfl (.inl ⟨by rfl,fun wz hSz=>?_⟩) hHeld ?_
 · go_simp
 simp only [Act.put,List.getElem_toArray,List.getElem_cons_succ,List.getElem_cons_zero,List.setIfInBounds_toArray,List.set_cons_succ,List.set_cons_zero]
 refine wpAnyH_ready (rs:=[16]) (by kernel_rfl) (by simp) (AllReadyH.cons rfl (fun K hK=>?_) AllReadyH.nil)
 rw [if_pos (by rfl)]
 have HRT:=Lib.hid (show RtB w7 b5 rt0 from by
  have h1:=H1.out.2.1.below (BW.out)
  exact (h1.below HD.out).below H7.out.2.2)
 refine wp_store_row 42 (.tmp 5) (.tmp 34) rfl b5 es rfl rfl 42 (rtV rt0).toArray HRT.out (by rw [HE.out.1];exact infoRT1) (by rw [HE.out.1];rfl) HE.out.2.1 ?_
 have hbne:b11≠b5:=by have:=H4.out.2.2;have:=Y3.out.bel.size;have:=L2.out.2.2.size;have:=H1.out.2.2.2;omega
 have H8:=Lib.hid (show Below w.heap.size w (w7.setRow b5 es)∧(w7.setRow b5 es).heap[b11]?=some (.cells es 42 (0,0))∧(w7.setRow b5 es).heap[b5]?=some (.cells es 42 (0,0))∧(∀ q,q≠b5→q<w3.heap.size→(w7.setRow b5 es).heap[q]?=w3.heap[q]?)∧w3.heap.size≤(w7.setRow b5 es).heap.size from by
  have hs1:=H5.out.1.size
  have hs2:=HD.out.size
  have hs3:=H7.out.2.2.size
  refine ⟨below_setRow H7.out.1 (Nat.le_of_eq H1.out.2.2.1) _,(setRow_other w7 b5 b11 es hbne).trans H7.out.2.1,setRow_heap w7 _ _ _ _ _ HRT.out,fun q hq hl=>?_,by simp [World.setRow];omega⟩
  rw [setRow_other w7 b5 q es hq,H7.out.2.2.block q (by omega),HD.out.block q (by omega),H5.out.1.block q hl])
 generalize w7.setRow b5 es=w8 at H8 ⊢
 refine hK.out _ _ ⟨H8.out.1,H8.out.2.1⟩ (fun hHeld=>?_)
 clear hK K
 try simp only [Act.put,List.getElem_toArray,List.getElem_cons_succ,List.getElem_cons_zero]
 try simp only [List.setIfInBounds_toArray]
 try simp only [List.set_cons_succ]
 try simp only [List.set_cons_zero]
 refine tkH 17 (.bool true) rfl (.inl ⟨by rfl,fun wz hSz=>?_⟩) hHeld ?_
 · go_simp
 simp only [Act.put,List.getElem_toArray,List.getElem_cons_succ,List.getElem_cons_zero,List.setIfInBounds_toArray,List.set_cons_succ,List.set_cons_zero]
 refine wpAnyH_done (by kernel_rfl) ?_ _
 go_wp2_with fail
 refine bodyPost_ret (retTT Tryz.results11 H8.out.2.2.1 HE.out.1 rfl rfl rfl) rfl ?_
 have hs2:=Y3.out.bel.size
 have hs1:=L2.out.2.2.size
 have hbb:w1.heap.size=b5+1:=H1.out.2.2.2
 refine ⟨H8.out.1,g,x,y,by rw [HE.out.2.2];rfl,⟨?_,fun q hq=>by have:=L2.out.2.1 q hq;have:=H1.out.2.2.1;omega,?_⟩⟩
 · refine (L2.out.1.below Y3.out.bel).keep (HB00.out.trans (H8.out.1.mono HB0.out.2)) H8.out.2.2.2.2 fun q hq=>H8.out.2.2.2.1 q (by have:=L2.out.2.1 q hq;omega) (by have:=L2.out.1.cz.hi q hq;omega)
 · exact Y3.out.keep H8.out.1 (by have:=H1.out.1.size;omega) H8.out.2.2.2.2 (fun q h1 h2=>H8.out.2.2.2.1 q (by omega) h2)
end
open Go.RowKit
section
variable {w:World} {s s':ScR} {S:Sc}
def scN:ScR:=⟨0,0,none,0,0,0,0,false,0,⟨#[]⟩,none,0,0⟩
end
open Go.RowKit
section
variable {w0 w w':World} {g:Nat} {x:CT} {t:Tm}
theorem do_lw (hT:Tabs w0) (h:Lw w0 w g x t) (y:AcR) (hy:ActIn w g x y):Calls Tryz.prog 20 #[.pointer (some ⟨g,0,none⟩),.agg (acA y)] w fun e w'=>e=.returned (.tuple #[])∧∃ z,Lw w0 w' g z (t.doA y.a)∧CzTo w0.heap.size g x (t.doA y.a) w w' z:=by
 have hx:=h.tm
 have hss:=h.sane
 rw [← hx] at hss
 refine (doT_any (h.tabs hT) h.cz hss.lk y hy).mono ?_
 rintro e w' ⟨rfl,z,hz⟩
 rw [hx] at hz hss
 exact ⟨rfl,z,h.step hz (hss.doA y.a),hz⟩
theorem inSt_ge (r:Int):∀ (l:List (Int × Int × Int)),(∀ y∈l,0≤y.2.2)→0≤inSt r l
 | [],_=>by unfold inSt;omega
 | x :: l,h=>by
  unfold inSt
  split
  · exact h x (by simp)
  · exact inSt_ge r l fun y hy=>h y (by simp [hy])
def bareA (k r fin:Int):AcR:=⟨⟨k,r,0,fin,[],[]⟩,none,0,0,none,0,0⟩
theorem bare_in (w:World) (g:Nat) (x:CT) (k r fin:Int):ActIn w g x (bareA k r fin) :=
 ⟨⟨Ik.nil .i64 w none,Sb.nil w none,Nat.le_refl _,by show (0:Nat)≤_;omega,Nat.le_refl _,by show (0:Nat)≤_;omega⟩,(fun ad e=>by cases e),u8_nil,by show (0:Nat)≤_;omega⟩
end
open Go.RowKit
theorem lit_ik2 (w:World) (e:TypeId) (z1 z2:Int):Ik .i64 (w.alloc (.cells #[.int .i64 z1,.int .i64 z2] e)) (some ⟨w.heap.size,0,none⟩) 2 [z1,z2]:=by
 refine ⟨rfl,fun _=>⟨_,rfl,by simp,fun k hk=>?_⟩⟩
 rw [addHead,cell_of_row _ _ k _ _ _ (heap_alloc_new w (.cells #[.int .i64 z1,.int .i64 z2] e))]
 rcases (show k=0∨k=1 by omega) with rfl | rfl<;>rfl
def csiA (f:Int) (ps:List Int) (b n:Nat):AcR:=⟨⟨4,0,0,f,ps,[]⟩,some ⟨b,0,none⟩,n,n,none,0,0⟩
theorem csi_in {w:World} {g:Nat} {x:CT} {f:Int} {ps:List Int} {b n:Nat} (hI:Ik .i64 w (some ⟨b,0,none⟩) n ps) (hb:¬ CB g x b) (hn:n≤100):ActIn w g x (csiA f ps b n) :=
 ⟨⟨hI,Sb.nil w none,Nat.le_refl _,by show n≤_;unfold maxLen;omega,Nat.le_refl _,by show (0:Nat)≤_;omega⟩,(fun ad e _=>by injection e with e;rw [← e];exact hb),u8_nil,by show n≤_;omega⟩
structure Off (w:World) (g:Nat) (x:CT) (b:Nat):Prop where
 lt:b<w.heap.size
 nc:¬ CB g x b
theorem Off.step {w w':World} {B g b:Nat} {x y:CT} {t2:Tm} (h:Off w g x b) (k:CzTo B g x t2 w w' y):Off w' g y b∧w'.heap[b]?=w.heap[b]? :=
 ⟨⟨Nat.lt_of_lt_of_le h.lt k.out.bel.size,fun hy=>by
  rcases k.sub b hy with h1 | h1
  · exact h.nc h1
  · have:=h.lt;omega⟩,k.out.keep b h.lt h.nc⟩
theorem Off.below {w w':World} {g b:Nat} {x:CT} (h:Off w g x b) (hb:Below w.heap.size w w'):Off w' g x b∧w'.heap[b]?=w.heap[b]?:=⟨⟨Nat.lt_of_lt_of_le h.lt hb.size,h.nc⟩,hb.block b h.lt⟩
theorem Off.both {w w1 w':World} {B g b:Nat} {x y:CT} {t2:Tm} (h:Off w g x b) (hb:Below w.heap.size w w1) (k:CzTo B g x t2 w1 w' y):Off w' g y b∧w'.heap[b]?=w.heap[b]?:=by
 obtain ⟨h1,e1⟩:=h.below hb
 obtain ⟨h2,e2⟩:=h1.step k
 exact ⟨h2,e2.trans e1⟩
theorem csi1_lw {w0 w:World} {g:Nat} {x:CT} {t:Tm} (hT:Tabs w0) (h:Lw w0 w g x t) (f z:Int) {w1:World} (hw1:w1=w.alloc (.cells #[.int .i64 z] 3)):Calls Tryz.prog 20 #[.pointer (some ⟨g,0,none⟩),.agg #[.int .i64 4,.int .i32 0,.int .u8 0,.int .u8 f,.slice (some ⟨w.heap.size,0,none⟩) 1 1,.slice none 0 0]] w1 fun e w'=>e=.returned (.tuple #[])∧∃ y,Lw w0 w' g y (t.doA (acCsi 0 f [z]))∧∀ b,Off w g x b→Off w' g y b∧w'.heap[b]?=w.heap[b]?:=by
 have hb:Below w.heap.size w w1:=by rw [hw1];exact (Below.refl _ _).alloc (Nat.le_refl _) _
 refine (do_lw hT (h.below hb) (csiA f [z] w.heap.size 1) (csi_in (by rw [hw1];exact Ik.one .i64 w _ z) (fun hq=>by have:=h.cz.hi _ hq;omega) (by omega))).mono ?_
 rintro e w' ⟨rfl,y,hy,hk⟩
 exact ⟨rfl,y,hy,fun b hb'=>hb'.both hb hk⟩
theorem csi2_lw {w0 w:World} {g:Nat} {x:CT} {t:Tm} (hT:Tabs w0) (h:Lw w0 w g x t) (f z1 z2:Int) {w1:World} (hw1:w1=w.alloc (.cells #[.int .i64 z1,.int .i64 z2] 3)):Calls Tryz.prog 20 #[.pointer (some ⟨g,0,none⟩),.agg #[.int .i64 4,.int .i32 0,.int .u8 0,.int .u8 f,.slice (some ⟨w.heap.size,0,none⟩) 2 2,.slice none 0 0]] w1 fun e w'=>e=.returned (.tuple #[])∧∃ y,Lw w0 w' g y (t.doA (acCsi 0 f [z1,z2]))∧∀ b,Off w g x b→Off w' g y b∧w'.heap[b]?=w.heap[b]?:=by
 have hb:Below w.heap.size w w1:=by rw [hw1];exact (Below.refl _ _).alloc (Nat.le_refl _) _
 refine (do_lw hT (h.below hb) (csiA f [z1,z2] w.heap.size 2) (csi_in (by rw [hw1];exact lit_ik2 w _ z1 z2) (fun hq=>by have:=h.cz.hi _ hq;omega) (by omega))).mono ?_
 rintro e w' ⟨rfl,y,hy,hk⟩
 exact ⟨rfl,y,hy,fun b hb'=>hb'.both hb hk⟩
theorem bare_lw {w0 w:World} {g:Nat} {x:CT} {t:Tm} (hT:Tabs w0) (h:Lw w0 w g x t) (k r f:Int):Calls Tryz.prog 20 #[.pointer (some ⟨g,0,none⟩),.agg #[.int .i64 k,.int .i32 r,.int .u8 0,.int .u8 f,.slice none 0 0,.slice none 0 0]] w fun e w'=>e=.returned (.tuple #[])∧∃ y,Lw w0 w' g y (t.doA ⟨k,r,0,f,[],[]⟩)∧∀ b,Off w g x b→Off w' g y b∧w'.heap[b]?=w.heap[b]?:=by
 refine (do_lw hT h (bareA k r f) (bare_in _ _ _ _ _ _)).mono ?_
 rintro e w' ⟨rfl,y,hy,hk⟩
 exact ⟨rfl,y,hy,fun b hb'=>hb'.step hk⟩
structure Kept (w:World) (g:Nat) (x:CT) (b:Nat) (s:ScR) (L:List Ce):Prop where
 row:w.heap[b]?=some (.cells (scrA s) 56 (0,0))
 off:Off w g x b
 vs:Vs ceV w s.A s.n L
 far:∀ ad,s.A=some ad→0<s.n→Off w g x ad.block
theorem Kept.on {w w':World} {g b:Nat} {x y:CT} {s:ScR} {L:List Ce} (h:Kept w g x b s L) (hk:∀ b,Off w g x b→Off w' g y b∧w'.heap[b]?=w.heap[b]?):Kept w' g y b s L :=
 ⟨(hk b h.off).2.trans h.row,(hk b h.off).1,⟨h.vs.len,fun hn=>by
  obtain ⟨ad,e,hb,hc⟩:=h.vs.at_ hn
  have ho:=hk _ (h.far ad e hn)
  exact ⟨ad,e,ho.1.lt,fun j v hj=>(World.cell?_of_block (by rw [addBlock];exact ho.2)).trans (hc j v hj)⟩⟩,fun ad e hn=>(hk _ (h.far ad e hn)).1⟩
theorem Kept.below {w w':World} {g b:Nat} {x:CT} {s:ScR} {L:List Ce} (h:Kept w g x b s L) (hb:Below w.heap.size w w'):Kept w' g x b s L:=h.on fun _ ho=>ho.below hb
theorem yields_ceneq {ev:Operand→Value} {o:Oper} {w:World} {x y:Operand} (ho:o.op=.binOp .neq 66 x y 66) (c:Ce) (h1:ev x=.agg (ceA c)) (h2:ev y=.agg (ceA c)):(execOp ev o).run Tryz.prog w=.ok (.value (.bool false)) w:=by
 have h:=ce_neq c c w
 rw [decide_eq_true rfl] at h
 unfold execOp
 simp only [ho,h1,h2]
 have hg:(eqGuard .neq 66 x y (.agg (ceA c)) (.agg (ceA c))).run Tryz.prog w=.ok () w:=by
  simp [eqGuard]
 simp [Sem.run_bind,Result.andThen,h,hg]
theorem row_scc {w:World} {b:Nat} {s:ScR} (h:w.heap[b]?=some (.cells (scrA s) 56 (0,0))):ScC w b s:=by
 have hc:∀ k,w.cell? ⟨b,k,none⟩=(scrA s)[k]?:=fun k=>cell_of_row w b k _ _ _ h
 exact ⟨hc 0,hc 1,hc 2,hc 3,hc 4,hc 5,hc 6,hc 7,hc 8,(Array.getElem?_eq_some_iff.1 h).1⟩
theorem ce_cells {w:World} {g:Nat} {c:Ce} (h:Rw ceV 66 w g [c]):w.cell? ⟨g,0,none⟩=some (.int .i32 c.r)∧w.cell? ⟨g,1,none⟩=some (.int .u8 c.wd)∧w.cell? ⟨g,2,none⟩=some (.int .u32 c.p.fg)∧w.cell? ⟨g,3,none⟩=some (.int .u32 c.p.bg)∧w.cell? ⟨g,4,none⟩=some (.int .u8 c.p.st)∧w.cell? ⟨g,5,none⟩=some (.int .u16 c.p.lk) :=
 ⟨h.cell (j:=0) rfl,h.cell (j:=1) rfl,h.cell (j:=2) rfl,h.cell (j:=3) rfl,h.cell (j:=4) rfl,h.cell (j:=5) rfl⟩
set_option maxHeartbeats 6400000 in
set_option maxRecDepth 100000 in
theorem textC_any {w:World} {s:ScR} {L:List Ce} (h:Vs ceV w s.A s.n L) {i:Nat} (hi:i<s.n) (hn:s.n≤60000) :
  Calls Tryz.prog 29 #[.agg (scrA s),.int .i64 i] w fun e w'=>e=.returned (.agg (ceA (setLk (cAt L i) 0)))∧Below w.heap.size w w':=by
 obtain ⟨b,hb⟩:∃ b,b=w.heap.size:=⟨_,rfl⟩
 obtain ⟨w1,hw1⟩:∃ w1,w1=w.alloc (.cells (scrA s) 56):=⟨_,rfl⟩
 obtain ⟨w2,hw2⟩:∃ w2,w2=w1.alloc (.cells #[.int .i32 0,.int .u8 0,.int .u32 0,.int .u32 0,.int .u8 0,.int .u16 0] 66):=⟨_,rfl⟩
 obtain ⟨w3,hw3⟩:∃ w3,w3=w2.alloc (.cells #[.int .i32 0,.int .u8 0,.int .u32 0,.int .u32 0,.int .u8 0,.int .u16 0] 66):=⟨_,rfl⟩
 have h1:Below w.heap.size w w1:=by rw [hw1];exact (Below.refl _ _).alloc (Nat.le_refl _) _
 have s1:w1.heap.size=b+1:=by rw [hw1,hb];simp
 have h12:Below w1.heap.size w1 w2:=by rw [hw2];exact (Below.refl _ _).alloc (Nat.le_refl _) _
 have s2:w2.heap.size=b+2:=by rw [hw2];simp [s1]
 have h23:Below w2.heap.size w2 w3:=by rw [hw3];exact (Below.refl _ _).alloc (Nat.le_refl _) _
 have H2:=Lib.hid (show Below w.heap.size w w2∧ScC w2 b s∧Rw ceV 66 w2 (b+1) [ce0]∧b=w.heap.size from by
  refine ⟨h1.trans (h12.mono h1.size),?_,?_,hb⟩
  · have:=ScC.new w s
    rw [← hw1,← hb] at this
    exact this.below h12
  · have:=made_rw (f:=ceV) w1 66 [ce0]
    rw [s1] at this
    rw [hw2]
    exact this)
 have H3:=Lib.hid (show Rw ceV 66 w3 (b+2) [ce0]∧Below w2.heap.size w2 w3 from by
  refine ⟨?_,h23⟩
  have:=made_rw (f:=ceV) w2 66 [ce0]
  rw [s2] at this
  rw [hw3]
  exact this)
 have HV:=Lib.hid (h.below H2.out.1)
 obtain ⟨ad,hA⟩:∃ ad,s.A=some ad:=by obtain ⟨ad,e,_⟩:=h.at_ (by omega);exact ⟨ad,e⟩
 obtain ⟨c,hc⟩:∃ c,c=cAt L i:=⟨_,rfl⟩
 rw [hA] at HV
 have hsix:=HV.out.six hi
 rw [← hc] at hsix ⊢
 obtain ⟨x0,x1,x2,x3,x4,x5⟩:=hsix
 obtain ⟨a0,a1,a2,a3,a4,a5,a6,a7,a8,_⟩:=H2.out.2.1
 rw [hA] at a2
 unfold scrA at hw1 ⊢
 rw [hA] at hw1 ⊢
 clear h h1 h12 h23 hc hA
 go_enter Tryz.func29,Tryz.ntmps29
 go_upto_region 1 with fail
 rw [← hw1,← hw2,← hb]
 clear hw1 hw2 hb s1
 go_upto_region 2 with (refine wpList_store_V rfl 66 (.tmp 5) (.tmp 10) rfl ceV_len one_ce infoCe (b+2) 0 0 c (ceA c) (by rw [← s2];rfl) rfl rfl rfl 66 [ce0] (by rw [← hw3];exact H3.out.1) (by decide) ?_;intro w4 hR4 hg4)
 try rw [s2]
 rw [← hw3] at hg4
 clear hw3 s2 a0 a1 a2 a3 a4 a5 a6 a7 a8 x0 x1 x2 x3 x4 x5
 have H4:=Lib.hid (show Rw ceV 66 w4 (b+2) [c]∧Rw ceV 66 w4 (b+1) [ce0]∧Below w.heap.size w w4 from by
  have hb:=H2.out.2.2.2
  have h3:Below w.heap.size w w3:=H2.out.1.trans (H3.out.2.mono H2.out.1.size)
  exact ⟨hR4,(H2.out.2.2.1.below H3.out.2).grown hg4 (fun e=>by injection e with e;omega),h3.grown hg4 h3.size (fun k hk=>by injection hk with hk;omega)⟩)
 clear hR4 hg4
 obtain ⟨y0,y1,y2,y3,y4,y5⟩:=ce_cells H4.out.1
 have f5:=H4.out.1.free 5
 go_upto_region 3 with fail
 obtain ⟨w5,hw5⟩:∃ w5,w5=w4.setCell ⟨b+2,5,none⟩ (.int .u16 0):=⟨_,rfl⟩
 rw [← hw5]
 have H5:=Lib.hid (show Rw ceV 66 w5 (b+2) [setLk c 0]∧Rw ceV 66 w5 (b+1) [ce0]∧Below w.heap.size w w5 from by
  have hb:=H2.out.2.2.2
  have hg5:w4.grownBy w5 (some (b+2)):=by rw [hw5];exact grownBy_set w4 ⟨b+2,5,none⟩ _
  refine ⟨?_,H4.out.2.1.grown hg5 (fun e=>by injection e with e;omega),H4.out.2.2.grown hg5 H4.out.2.2.size (fun k hk=>by injection hk with hk;omega)⟩
  have:=H4.out.1.setLk (k:=0) (Nat.zero_lt_one) 0
  rw [hw5]
  exact this)
 clear hw5 y0 y1 y2 y3 y4 y5 f5
 obtain ⟨y0,y1,y2,y3,y4,y5⟩:=ce_cells H5.out.1
 go_wp2_with (refine wpList_store_V rfl 66 (.tmp 4) (.tmp 13) rfl ceV_len one_ce infoCe (b+1) 0 0 (setLk c 0) (ceA (setLk c 0)) rfl rfl rfl rfl 66 [ce0] H5.out.2.1 (by decide) ?_;intro w6 hR6 hg6)
 obtain ⟨z0,z1,z2,z3,z4,z5⟩:=ce_cells (c:=setLk c 0) hR6
 have HB:=Lib.hid (H5.out.2.2.grown hg6 H5.out.2.2.size (fun k hk=>by injection hk with hk;have:=H2.out.2.2.2;omega))
 exact bodyPost_ret (v:=.agg (ceA (setLk c 0))) (by simp [results,Tryz.results29,ceA,go_sem,z0,z1,z2,z3,z4,z5]) rfl ⟨rfl,HB.out⟩
structure Siz (c r:Nat) (t:Tm):Prop where
 c:t.c=c
 r:t.r=r
namespace Siz
variable {c r:Nat} {t:Tm}
theorem ite {p:Prop} [Decidable p] {a b:Tm} (ha:Siz c r a) (hb:Siz c r b):Siz c r (if p then a else b):=by split;exact ha;exact hb
theorem put (h:Siz c r t) (g:Rws):Siz c r (t.put g):=by unfold Tm.put;exact ite ⟨h.c,h.r⟩ ⟨h.c,h.r⟩
theorem atX (h:Siz c r t) (x:Int):Siz c r (t.atX x):=⟨h.c,h.r⟩
theorem atY (h:Siz c r t) (x:Int):Siz c r (t.atY x):=⟨h.c,h.r⟩
theorem scrolled (h:Siz c r t) (a b n:Int):Siz c r (t.scrolled a b n):=h.put _
theorem erased (h:Siz c r t) (a b:Int):Siz c r (t.erased a b):=h.put _
theorem down (h:Siz c r t):Siz c r t.down:=by unfold Tm.down;exact ite (h.scrolled _ _ _) (ite (h.atY _) h)
theorem up (h:Siz c r t):Siz c r t.up:=by unfold Tm.up;exact ite (h.scrolled _ _ _) (ite (h.atY _) h)
theorem restored (h:Siz c r t):Siz c r t.restored:=⟨h.c,h.r⟩
theorem last (h:Siz c r t) (l:Int) (f:Bool):Siz c r { t with last:=l,full:=f }:=⟨h.c,h.r⟩
theorem full (h:Siz c r t) (f:Bool):Siz c r { t with full:=f }:=⟨h.c,h.r⟩
theorem letter (h:Siz c r t) (z:Int):Siz c r (t.letter z):=by
 have key:∀ u:Tm,Siz c r u→Siz c r (let t:=u.put (inRowS (fun l=>putS l u.now.x z u.now.pen) u.now.y u.shown);if t.now.x+widthS z≥t.c then { t.atX (t.c-1) with last:=z,full:=true } else { t.atX (t.now.x+widthS z) with last:=z,full:=false }):=fun u hu=>by
  have h2:=hu.put (inRowS (fun l=>putS l u.now.x z u.now.pen) u.now.y u.shown)
  exact ite ((h2.atX _).last z true) ((h2.atX _).last z false)
 unfold Tm.letter
 exact key _ (ite (h.put _) h)
theorem print (h:Siz c r t) (z:Int):Siz c r (t.print z):=by
 unfold Tm.print
 exact ite h (ite ((h.atX 0).down.letter z) (ite h (h.letter z)))
theorem tab (h:Siz c r t):Siz c r t.tab:=⟨h.c,h.r⟩
theorem tabBack (h:Siz c r t):Siz c r t.tabBack:=⟨h.c,h.r⟩
theorem c0 (h:Siz c r t) (b:Int):Siz c r (t.c0 b):=by unfold Tm.c0;exact ite (h.atX _) (ite h.tab (ite h.down (ite (h.atX _) h)))
theorem esc (h:Siz c r t) (b:Int):Siz c r (t.esc b):=by
 unfold Tm.esc
 exact ite ⟨h.c,h.r⟩ (ite h.restored (ite h.down (ite (h.atX 0).down (ite h.up (ite ⟨h.c,h.r⟩ (ite ⟨h.c,h.r⟩ h))))))
theorem iter {f:Tm→Tm} (hf:∀ t,Siz c r t→Siz c r (f t)):∀ (n:Nat) {t:Tm},Siz c r t→Siz c r (iterS f n t)
 | 0,_,h=>h
 | n+1,_,h=>iter hf n (hf _ h)
theorem showO (h:Siz c r t) (o:Bool):Siz c r (t.showO o):=by unfold Tm.showO;exact ite ⟨h.c,h.r⟩ ⟨h.c,h.r⟩
theorem saved (h:Siz c r t):Siz c r { t with sav:=t.now }:=⟨h.c,h.r⟩
theorem mode (h:Siz c r t) (n:Int) (on:Bool):Siz c r (t.mode n on):=by
 unfold Tm.mode
 exact ite ⟨h.c,h.r⟩ (ite ⟨h.c,h.r⟩ (ite ⟨h.c,h.r⟩ (ite ⟨h.c,h.r⟩ (ite ⟨h.c,h.r⟩ (ite (h.showO _) (ite (ite (h.saved.showO _) (h.showO _).restored) h))))))
theorem modes (on:Bool):∀ (l:List Int) {t:Tm},Siz c r t→Siz c r (l.foldl (fun t n=>t.mode n on) t)
 | [],_,h=>h
 | n :: l,_,h=>modes on l (h.mode n on)
theorem edit (h:Siz c r t) (a:AcS) (n:Int):Siz c r (t.edit a n):=by
 unfold Tm.edit
 dsimp only
 repeat' with_reducible refine ite ?_ ?_
 all_goals first
  | exact h
  | exact h.erased _ _
  | exact h.scrolled _ _ _
  | exact (h.atX 0).scrolled _ _ _
  | exact h.put _
  | exact iter (fun t ht=>ht.print _) _ h
  | exact ⟨h.c,h.r⟩
theorem csi (h:Siz c r t) (a:AcS):Siz c r (t.csi a):=by
 unfold Tm.csi
 dsimp only
 repeat' with_reducible refine ite ?_ ?_
 all_goals first
  | exact modes _ _ h
  | exact h
  | exact iter (fun t ht=>ht.tab) _ h
  | exact iter (fun t ht=>ht.tabBack) _ h
  | exact h.restored
  | exact h.edit _ _
  | exact ⟨h.c,h.r⟩
theorem lead (h:Siz c r t) (s:ByteArray):Siz c r (t.lead s):=by
 unfold Tm.lead
 dsimp only
 repeat' with_reducible refine ite ?_ ?_
 all_goals exact ⟨h.c,h.r⟩
theorem osc (h:Siz c r t) (b:List Int):Siz c r (t.osc b):=by
 unfold Tm.osc
 split
 · exact h
 · dsimp only
   refine ite ⟨h.c,h.r⟩ (ite ?_ h)
   split
   · exact h
   · exact h.lead _
theorem doA (h:Siz c r t) (a:AcS):Siz c r (t.doA a):=by
 unfold Tm.doA
 exact ite h (ite (h.print _) (ite ((h.full false).c0 _) (ite (ite ((h.full false).esc _) (h.full false)) (ite (ite ((h.full false).csi a) (h.csi a)) (ite (h.osc _) h)))))
theorem all:∀ (l:List AcS) {t:Tm},Siz c r t→Siz c r (l.foldl Tm.doA t)
 | [],_,h=>h
 | a :: l,_,h=>all l (h.doA a)
theorem byte (h:Siz c r t) (b:Int):Siz c r (t.byte b):=all _ (t:={ t with p:=(feedP t.p b).2 }) ⟨h.c,h.r⟩
theorem feed:∀ (l:List Int) {t:Tm},Siz c r t→Siz c r (t.feed l)
 | [],_,h=>h
 | b :: l,_,h=>feed l (h.byte b)
theorem fresh (c r:Nat):Siz c r (tmNew c r):=⟨rfl,rfl⟩
end Siz
end Go.Proofs.YtlcipgdnpilkfaaGreatDoor
