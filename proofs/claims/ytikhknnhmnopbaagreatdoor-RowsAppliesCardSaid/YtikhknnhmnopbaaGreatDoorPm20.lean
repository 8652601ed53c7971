/-
  Part 20 of what the laws of emul want: RowsFits, RowsOwnF, WireNum, ParseRefDec, RowsCell, RowsDiff, RowsOwnU, RowsOwnV.
-/
import Derived.LoopTactic
import Derived.Lib.AppendStr
import Derived.Deep.RegionHeld3
import Derived.Deep.DeepCutAuto
import Derived.Deep.Onto
import Derived.Test.YtikhknnhmnopbaaGreatDoorPm02
import Derived.Test.YtikhknnhmnopbaaGreatDoorPm06
import Derived.Test.YtikhknnhmnopbaaGreatDoorPm09
import Derived.Test.YtikhknnhmnopbaaGreatDoorPm13
import Derived.Test.YtikhknnhmnopbaaGreatDoorPm19
namespace Go.Proofs.YtikhknnhmnopbaaGreatDoor
open Go.RowKit
theorem fits_no {S:Sc} (h:rightSc S=false∨S.links≠[]∨S.mouse≠0∨∃ c∈S.cells,okR c=false):fitsS S=false:=by
 rw [Bool.eq_false_iff]
 intro e
 unfold fitsS at e
 simp only [Bool.and_eq_true,decide_eq_true_eq,List.all_eq_true] at e
 obtain ⟨⟨⟨h1,h2⟩,h3⟩,h4⟩:=e
 rcases h with h | h | h | ⟨c,hc,h⟩
 · rw [h1] at h;cases h
 · exact h h2
 · exact h h3
 · rw [h4 c hc] at h;cases h
theorem fits_yes {S:Sc} (h1:rightSc S=true) (h2:S.links=[]) (h3:S.mouse=0) (h4:∀ c∈S.cells,okR c=true):fitsS S=true:=by
 unfold fitsS
 simp only [Bool.and_eq_true,decide_eq_true_eq,List.all_eq_true]
 exact ⟨⟨⟨h1,h2⟩,h3⟩,h4⟩
set_option maxHeartbeats 6400000 in
set_option maxRecDepth 100000 in
theorem rFits_any {s:ScR} {S:Sc} {w:World} (h:ScIn w s S) (h0:0≤S.mouse) (hn:s.n≤60000) (hm:s.m≤60000) :
  Calls Tryz.prog 13 #[.agg (scrA s)] w fun e w'=>e=.returned (.bool (fitsS S))∧Below w.heap.size w w':=by
 obtain ⟨B,hB⟩:∃ B,fitsS S=B:=⟨_,rfl⟩
 rw [hB]
 have HBB:=Lib.hid hB
 have HI:=Lib.hid h
 have HN:=Lib.hid (And.intro hn hm)
 have HM0:=Lib.hid (show 0≤s.mouse from by rw [← h.mouse];exact h0)
 obtain ⟨b,hb⟩:∃ b,b=w.heap.size:=⟨_,rfl⟩
 obtain ⟨w1,hw1⟩:∃ w1,w1=w.alloc (.cells (scrA s) 25):=⟨_,rfl⟩
 have H1:=Lib.hid (show Sx w1 b s∧Below w.heap.size w w1 from by
  rw [hw1,hb]
  exact ⟨Sx.new w s,(Below.refl _ _).alloc (Nat.le_refl _) _⟩)
 have PR:=Lib.hid (refRightS_any (h.below H1.out.2) hn hm)
 clear h h0 hm hB
 obtain ⟨a0,a1,a2,a3,a4,a5,a6,a7,a8,_⟩:=sx_cells H1.out.1
 unfold scrA at hw1 PR ⊢
 go_enter Tryz.func13,Tryz.ntmps13
 go_upto_region 1 with fail
 rw [← hw1,← hb]
 clear hw1 hb
 go_wp2_with fail
 refine PR.out.mono ?_
 rintro e w3 ⟨rfl,hb3⟩
 have H3:=Lib.hid (show Sx w3 b s∧Below w.heap.size w w3 from ⟨H1.out.1.below hb3,H1.out.2.trans (hb3.mono H1.out.2.size)⟩)
 clear hb3 H1 PR a0 a1 a2 a3 a4 a5 a6 a7 a8
 obtain ⟨a0,a1,a2,a3,a4,a5,a6,a7,a8,_⟩:=sx_cells H3.out.1
 cases hR:rightSc S
 · have hB:B=false:=by rw [← HBB.out];exact fits_no (.inl hR)
   subst hB
   clear hR
   go_wp2_with fail
   go_ret
   exact ⟨rfl,H3.out.2⟩
 have HR:=Lib.hid hR
 clear hR
 by_cases hm:0<s.m
 · have hB:B=false:=by rw [← HBB.out];exact fits_no (.inr (.inl fun e=>by have:=HI.out.links.len;rw [e] at this;simp at this;omega))
   subst hB
   go_wp2_with fail
   go_ret
   exact ⟨rfl,H3.out.2⟩
 have HM:=Lib.hid (show s.m=0 by omega)
 have hm0:¬ (0:Int)<(s.m:Int):=by omega
 clear hm
 by_cases ho:0<s.mouse
 · have hB:B=false:=by rw [← HBB.out];exact fits_no (.inr (.inr (.inl fun e=>by rw [HI.out.mouse] at e;omega)))
   subst hB
   go_wp2_with fail
   go_ret
   exact ⟨rfl,H3.out.2⟩
 have HO:=Lib.hid (show s.mouse=0 by have:=HM0.out;omega)
 go_wp2_with fail
 rename s.m=0=>hq0
 clear a0 a1 a2 a3 a4 a5 a6 a7 a8 hq0 ho
 try clear hm0
 go_loopw [21] (fun i wr=>∃ k:Nat,k≤s.n∧i=.int .i64 k∧Sx wr b s∧Below w.heap.size w wr∧∀ c∈S.cells.take k,okR c=true) (fun i _=>s.n-(intOf i).toNat)
 case atStart=>exact ⟨0,Nat.zero_le _,rfl,H3.out.1,H3.out.2,fun c hc=>by cases hc⟩
 case round =>
  obtain ⟨k,hk,rfl,hx,hbw,hpl⟩:=hrel
  have Y:=Lib.hid (And.intro hx (And.intro hbw hpl))
  clear hx hbw hpl H3
  by_cases hlt:k<s.n
  · have hkl:(k:Int)<(s.n:Int):=by omega
    have HKS:=Lib.hid (show k<S.cells.length from by rw [HI.out.cells.len];exact hlt)
    obtain ⟨ad,had⟩:=HI.out.cells.addr (by omega)
    obtain ⟨x,hx⟩:∃ x,x=cAt S.cells k:=⟨_,rfl⟩
    have hv:=HI.out.cells.below Y.out.2.1
    rw [had] at hv
    have hsx:=hv.six hlt
    rw [← hx] at hsx
    obtain ⟨d0,d1,d2,d3,d4,d5⟩:=hsx
    have HX:=Lib.hid hx
    have c2:=(sx_cells Y.out.1).c2
    rw [had] at c2
    clear hv hx had
    have HNO:=Lib.hid (show okR x=false→B=false from fun e=>by rw [← HBB.out];exact fits_no (.inr (.inr (.inr ⟨x,by rw [HX.out];exact cAt_mem HKS.out,e⟩))))
    by_cases h1:x.wd=0
    rotate_left
    · have hB:B=false:=HNO.out (by unfold okR;rw [decide_eq_false h1];rfl)
      subst hB
      have h1b:(x.wd != 0)=true:=by simpa using h1
      go_wp2_with fail
      go_ret
      exact ⟨rfl,Y.out.2.1⟩
    have h1b:(x.wd != 0)=false:=by simpa using h1
    by_cases h2:x.p.fg≤256
    rotate_left
    · have hB:B=false:=HNO.out (by unfold okR;rw [decide_eq_false h2];simp)
      subst hB
      have h2b:(256:Int)<x.p.fg:=by omega
      clear h1
      go_wp2_with fail
      go_ret
      exact ⟨rfl,Y.out.2.1⟩
    have h2b:¬ (256:Int)<x.p.fg:=by omega
    by_cases h3:x.p.bg≤256
    rotate_left
    · have hB:B=false:=HNO.out (by unfold okR;rw [decide_eq_false h3];simp)
      subst hB
      have h3b:(256:Int)<x.p.bg:=by omega
      clear h1 h2
      go_wp2_with fail
      go_ret
      exact ⟨rfl,Y.out.2.1⟩
    have h3b:¬ (256:Int)<x.p.bg:=by omega
    have HPL:=Lib.hid (show ∀ c∈S.cells.take (k+1),okR c=true from fun c hc=>by
     rw [List.take_add_one,getElem?_cAt HKS.out] at hc
     rcases List.mem_append.1 hc with hc | hc
     · exact Y.out.2.2 c hc
     · obtain rfl:c=cAt S.cells k:=by simpa using hc
       rw [← HX.out]
       unfold okR
       rw [decide_eq_true h1,decide_eq_true h2,decide_eq_true h3];rfl)
    clear h1 h2 h3
    go_wp2_with fail
    go_roundw
    case rel=>exact ⟨k+1,by omega,by go_num,Y.out.1,Y.out.2.1,HPL.out⟩
    case measure=>simp [intOf];omega
  · have e:k=s.n:=by omega
    subst e
    have hB:B=true:=by
     rw [← HBB.out]
     have:=Y.out.2.2
     rw [List.take_of_length_le (by rw [HI.out.cells.len];exact Nat.le_refl _)] at this
     exact fits_yes HR.out (List.eq_nil_of_length_eq_zero (by rw [HI.out.links.len];exact HM.out)) (by rw [HI.out.mouse];exact HO.out) this
    subst hB
    clear hlt
    go_wp2_with fail
    go_ret
    exact ⟨rfl,Y.out.2.1⟩
open Go.RowKit
set_option maxHeartbeats 3200000 in
set_option maxRecDepth 100000 in
theorem beyondR_any (x:Ce) (w:World):Calls Tryz.prog 31 #[.agg (ceA x)] w fun e w'=>e=.returned (.bool (!okR x))∧Below w.heap.size w w':=by
 obtain ⟨B,hB⟩:∃ B,okR x=B:=⟨_,rfl⟩
 rw [hB]
 have HB:=Lib.hid hB
 clear hB
 obtain ⟨b,hb⟩:∃ b,b=w.heap.size:=⟨_,rfl⟩
 obtain ⟨w1,hw1⟩:∃ w1,w1=w.alloc (.cells (ceA x) 43):=⟨_,rfl⟩
 have H1:=Lib.hid (show Cb w1 b x∧Below w.heap.size w w1 from by
  rw [hw1,hb]
  exact ⟨Cb.new w x,(Below.refl _ _).alloc (Nat.le_refl _) _⟩)
 obtain ⟨d0,d1,d2,d3,d4,d5⟩:=H1.out.1.all
 unfold ceA at hw1 ⊢
 go_enter Tryz.func31,Tryz.ntmps31
 go_upto_region 1 with fail
 rw [← hw1,← hb]
 clear hw1 hb
 by_cases h1:x.wd=0
 rotate_left
 · have hB:B=false:=by rw [← HB.out];unfold okR;rw [decide_eq_false h1];rfl
   subst hB
   have h1b:(x.wd != 0)=true:=by simpa using h1
   clear h1
   go_wp2_with fail
   go_ret
   exact ⟨rfl,H1.out.2⟩
 have h1b:(x.wd != 0)=false:=by simpa using h1
 by_cases h2:x.p.fg≤256
 rotate_left
 · have hB:B=false:=by rw [← HB.out];unfold okR;rw [decide_eq_false h2];simp
   subst hB
   have h2b:(256:Int)<x.p.fg:=by omega
   clear h1 h2
   go_wp2_with fail
   go_ret
   exact ⟨rfl,H1.out.2⟩
 have h2b:¬ (256:Int)<x.p.fg:=by omega
 by_cases h3:x.p.bg≤256
 rotate_left
 · have hB:B=false:=by rw [← HB.out];unfold okR;rw [decide_eq_false h3];simp
   subst hB
   have h3b:(256:Int)<x.p.bg:=by omega
   clear h1 h2 h3
   go_wp2_with fail
   go_ret
   exact ⟨rfl,H1.out.2⟩
 have h3b:¬ (256:Int)<x.p.bg:=by omega
 have hB:B=true:=by
  rw [← HB.out]
  unfold okR
  rw [decide_eq_true h1,decide_eq_true h2,decide_eq_true h3];rfl
 subst hB
 clear h1 h2 h3
 go_wp2_with fail
 go_ret
 exact ⟨rfl,H1.out.2⟩
set_option maxHeartbeats 3200000 in
set_option maxRecDepth 100000 in
theorem indexR_any {w:World} {A:Option Addr} {n c:Nat} {L:List Ce} (h:Vs ceV w A n L) (hn:n≤1000000) (F:Value) (hF:F=.func (.func 31) #[] #[]) :
  Calls Tryz.prog 57 #[.slice A n c,F] w fun e w'=>∃ i:Int,e=.returned (.int .i64 i)∧((L.all okR=true)∧i=-1∨L.all okR=false∧0≤i)∧Below w.heap.size w w':=by
 subst hF
 have H:=Lib.hid h
 clear h
 go_enter Tryz.func57,Tryz.ntmps57
 go_wp2_with fail
 go_loopw [8] (fun i wr=>∃ (k:Nat),k≤n∧i=.int .i64 k∧Below w.heap.size w wr∧∀ c∈L.take k,okR c=true) (fun i _=>n-(intOf i).toNat)
 case atStart=>exact ⟨0,Nat.zero_le _,rfl,Below.refl _ _,fun c hc=>by cases hc⟩
 case round =>
  obtain ⟨k,hk,rfl,hbel,hall⟩:=hrel
  have X:=Lib.hid (And.intro hbel hall)
  clear hbel hall
  by_cases hlt:k<n
  · obtain ⟨ad,hA⟩:=H.out.addr (by omega)
    subst hA
    have hsx:=(H.out.below X.out.1).six hlt
    have HKL:=Lib.hid (show k<L.length from by rw [H.out.len];exact hlt)
    obtain ⟨z,hz⟩:∃ z,z=cAt L k:=⟨_,rfl⟩
    rw [← hz] at hsx
    obtain ⟨d0,d1,d2,d3,d4,d5⟩:=hsx
    have HZ:=Lib.hid hz
    clear hz
    go_wp2_with fail
    refine (beyondR_any z wr).mono ?_
    rintro e w1 ⟨rfl,hb1⟩
    have HB1:=Lib.hid (X.out.1.trans (hb1.mono X.out.1.size))
    clear hb1 d0 d1 d2 d3 d4 d5
    cases hok:okR z
    · have HF:=Lib.hid (show L.all okR=false from by
       rw [Bool.eq_false_iff]
       intro hh
       have:=List.all_eq_true.1 hh z (by rw [HZ.out];exact cAt_mem HKL.out)
       rw [hok] at this;cases this)
      clear hok
      go_wp2_with fail
      go_ret
      exact ⟨(k:Int),rfl,.inr ⟨HF.out,by omega⟩,HB1.out⟩
    · have HF:=Lib.hid (show ∀ c∈L.take (k+1),okR c=true from fun c hc=>by
       rw [List.take_add_one,getElem?_cAt HKL.out] at hc
       rcases List.mem_append.1 hc with hc | hc
       · exact X.out.2 c hc
       · obtain rfl:c=cAt L k:=by simpa using hc
         rw [← HZ.out,hok])
      clear hok
      go_wp2_with fail
      go_roundw
      case rel=>exact ⟨k+1,by omega,by go_num,HB1.out,HF.out⟩
      case measure=>simp [intOf];omega
  · obtain rfl:k=n:=by omega
    have HF:=Lib.hid (show L.all okR=true from by
     have:=X.out.2
     rw [List.take_of_length_le (by rw [H.out.len];exact Nat.le_refl _)] at this
     exact List.all_eq_true.2 this)
    go_wp2_with fail
    go_ret
    exact ⟨-1,rfl,.inl ⟨HF.out,rfl⟩,X.out.1⟩
theorem containsR_any {w:World} {A:Option Addr} {n c:Nat} {L:List Ce} (h:Vs ceV w A n L) (hn:n≤1000000) (F:Value) (hF:F=.func (.func 31) #[] #[]) :
  Calls Tryz.prog 30 #[.slice A n c,F] w fun e w'=>e=.returned (.bool (!L.all okR))∧Below w.heap.size w w':=by
 have X:=Lib.hid (indexR_any (c:=c) h hn F hF)
 clear h hF
 obtain ⟨K,hK⟩:∃ K,L.all okR=K:=⟨_,rfl⟩
 rw [hK] at X ⊢
 clear hK
 go_enter Tryz.func30,Tryz.ntmps30
 go_wp2_with fail
 refine X.out.mono ?_
 rintro e w1 ⟨i,rfl,hi,hbel⟩
 have HB:=Lib.hid hbel
 clear hbel X
 rcases hi with ⟨rfl,rfl⟩ | ⟨rfl,h2⟩
 · go_wp2_with fail
   go_ret
   exact ⟨rfl,HB.out⟩
 · go_wp2_with fail
   go_ret
   exact ⟨rfl,HB.out⟩
set_option maxHeartbeats 6400000 in
set_option maxRecDepth 100000 in
theorem cFits_any {s:ScR} {S:Sc} {w:World} (hT:Tabs w) (h:ScIn w s S) (hn:s.n≤60000) (hm:s.m≤60000) :
  Calls Tryz.prog 17 #[.agg (scrA s)] w fun e w'=>e=.returned (.bool (fitsS S))∧Below w.heap.size w w':=by
 obtain ⟨B,hB⟩:∃ B,fitsS S=B:=⟨_,rfl⟩
 rw [hB]
 have HBB:=Lib.hid hB
 have HI:=Lib.hid h
 have HN:=Lib.hid (And.intro hn hm)
 obtain ⟨b,hb⟩:∃ b,b=w.heap.size:=⟨_,rfl⟩
 obtain ⟨w1,hw1⟩:∃ w1,w1=w.alloc (.cells (scrA s) 25):=⟨_,rfl⟩
 have H1:=Lib.hid (show Sx w1 b s∧Below w.heap.size w w1 from by
  rw [hw1,hb]
  exact ⟨Sx.new w s,(Below.refl _ _).alloc (Nat.le_refl _) _⟩)
 have PR:=Lib.hid (rightT_any (hT.below H1.out.2 (Nat.le_refl _)) (h.below H1.out.2) hn hm)
 clear h hm hB hn hT
 obtain ⟨a0,a1,a2,a3,a4,a5,a6,a7,a8,_⟩:=sx_cells H1.out.1
 unfold scrA at hw1 PR ⊢
 go_enter Tryz.func17,Tryz.ntmps17
 go_upto_region 1 with fail
 rw [← hw1,← hb]
 clear hw1 hb
 go_wp2_with fail
 refine PR.out.mono ?_
 rintro e w3 ⟨rfl,hb3⟩
 have H3:=Lib.hid (show Sx w3 b s∧Below w.heap.size w w3 from ⟨H1.out.1.below hb3,H1.out.2.trans (hb3.mono H1.out.2.size)⟩)
 clear hb3 H1 PR a0 a1 a2 a3 a4 a5 a6 a7 a8
 obtain ⟨a0,a1,a2,a3,a4,a5,a6,a7,a8,_⟩:=sx_cells H3.out.1
 clear a0 a1 a3 a4 a5 a7
 cases hR:rightSc S
 · have hB:B=false:=by rw [← HBB.out];exact fits_no (.inl hR)
   subst hB
   clear hR
   go_wp2_with fail
   go_ret
   exact ⟨rfl,H3.out.2⟩
 have HR:=Lib.hid hR
 clear hR
 by_cases hm:s.m=0
 rotate_left
 · have hB:B=false:=by rw [← HBB.out];exact fits_no (.inr (.inl fun e=>by have:=HI.out.links.len;rw [e] at this;simp at this;omega))
   subst hB
   have hmb:¬ ((s.m:Int)=0):=by omega
   go_wp2_with fail
   go_ret
   exact ⟨rfl,H3.out.2⟩
 have HM:=Lib.hid hm
 by_cases ho:s.mouse=0
 rotate_left
 · have hB:B=false:=by rw [← HBB.out];exact fits_no (.inr (.inr (.inl fun e=>by rw [HI.out.mouse] at e;omega)))
   subst hB
   have hmb:(s.m:Int)=0:=by omega
   clear hm
   go_wp2_with fail
   go_ret
   exact ⟨rfl,H3.out.2⟩
 have HO:=Lib.hid ho
 have hmb:(s.m:Int)=0:=by omega
 clear hm
 have PC:=Lib.hid (containsR_any (c:=s.k) (HI.out.cells.below H3.out.2) (by have:=HN.out;omega) _ rfl)
 go_wp2_with fail
 refine PC.out.mono ?_
 rintro e w4 ⟨rfl,hb4⟩
 have hB:B=S.cells.all okR:=by
  rw [← HBB.out]
  cases hK:S.cells.all okR
  · refine fits_no (.inr (.inr (.inr ?_)))
    rw [List.all_eq_false] at hK
    obtain ⟨c,hc,hk⟩:=hK
    exact ⟨c,hc,by simpa using hk⟩
  · exact fits_yes HR.out (List.eq_nil_of_length_eq_zero (by rw [HI.out.links.len];exact HM.out)) (by rw [HI.out.mouse];exact HO.out) (List.all_eq_true.1 hK)
 have H4:=Lib.hid (H3.out.2.trans (hb4.mono H3.out.2.size))
 generalize S.cells.all okR=K at hB ⊢
 subst hB
 clear hb4 PC
 cases B
 · go_wp2_with fail
   go_ret
   exact ⟨rfl,H4.out⟩
 · go_wp2_with fail
   go_ret
   exact ⟨rfl,H4.out⟩
open Go.RowKit
def numS (n size:Int):List Int:=if 1≤size∧size≤8 then numL n size.toNat else []
theorem num_any (n size:Int) (w:World) (_:0≤n) (_:n≤18446744073709551615) :
  Calls Tryz.prog 72 #[.int .u64 n,.int .i64 size] w fun e w'=>∃ v,e=.returned v∧Made 5 (numS n size) w v w':=by
 obtain ⟨i0,hi,hz0,hz1,hz2⟩:=info_parts info8
 by_cases hs:1≤size∧size≤8
 · obtain ⟨s,rfl⟩:∃ s:Nat,size=s:=⟨size.toNat,by omega⟩
   have hb:decide (1≤(s:Int)∧(s:Int)≤8)=true:=by simpa using hs
   obtain ⟨hs1,hs2⟩:=hs
   go_enter Tryz.func72,Tryz.ntmps72
   go_wp2_with (first
    | (go_at_call 59;refine (sizeMay_any _ _).mono ?_;rintro e w' ⟨rfl,rfl⟩)
    | (at_make;refine wpList_make_full _ rfl _ _ 26 rfl w.heap.size 5 i0 (.int .u8 0) 1 Tryz.underlying26 hi hz0 hz1 .i64 .i64 (s:Int) (s:Int) s rfl rfl rfl rfl (by rw [hz2];omega) (by unfold maxLen;omega) (Nat.le_refl _) ?_;intro w1 hown hg))
   have hbel:Below w.heap.size w w1:=Below.grown (Below.refl _ _) hg (Nat.le_refl _) (by intro k hk;cases hk)
   clear hg
   go_loopw [14] (fun i wr=>∃ k:Nat,k≤s∧i=.int .i64 k∧wr.ownsRow w.heap.size 5 1 (.slice (some ⟨w.heap.size,0,none⟩) s s) s ((rowL s n k).map (Value.int .u8))∧Below w.heap.size w wr) (fun i _=>s-(intOf i).toNat)
   case atStart=>exact ⟨0,Nat.zero_le _,rfl,by simpa [rowL_zero,toList_madeCells_one,Value.cells] using hown,hbel⟩
   case round =>
    clear hown hbel
    obtain ⟨k,hk,rfl,hown,hbel⟩:=hrel
    by_cases hlt:k<s
    · have hc:wr.cell? ⟨w.heap.size,s-1-k,none⟩=some (.int .u8 0):=by
       rw [hown.cellAt (s-1-k) (by omega),List.getElem?_map,rowL_at n hlt];rfl
      have hf:=hown.frozenAt (s-1-k)
      have hst:=hown.stored (s-1-k) (.int .u8 (n / 2 ^ (8*k) % 256))
      rw [← List.map_set,pow8,rowL_set n hlt] at hst
      have H1:=Lib.hid (And.intro hst.1 (hbel.setCell (p:=⟨w.heap.size,s-1-k,none⟩) (Nat.le_refl _) (.int .u8 (n / 256 ^ k % 256))))
      clear hst hown hbel
      go_wp2
      go_roundw
      case rel=>exact ⟨k+1,by omega,by go_num,by simpa only [pow8] using H1.out⟩
      case measure=>simp [intOf];omega
    · obtain rfl:k=s:=by omega
      rw [rowL_full] at hown
      have H:=Made.mk (w:=w) hown hbel
      clear hown hbel
      go_wp2
      go_ret
      exact ⟨_,rfl,by unfold numS;rw [if_pos ⟨hs1,hs2⟩];exact H⟩
 · have hb:decide (1≤size∧size≤8)=false:=by simpa using hs
   go_enter Tryz.func72,Tryz.ntmps72
   go_wp2_with (first
    | (go_at_call 59;refine (sizeMay_any _ _).mono ?_;rintro e w' ⟨rfl,rfl⟩))
   go_ret
   exact ⟨_,rfl,by unfold numS;rw [if_neg hs];exact Made.nil _ _⟩
open Go.RowKit
structure By (base:Nat) (w:World) (A:Option Addr) (n c:Nat) (zs:List Int):Prop where
 len:zs.length=n
 le:n≤c
 max:c≤maxLen
 own:w.ownsRow base 5 1 (.slice A n c) n (zs.map (Value.int .u8))
section
variable {base:Nat} {w w':World} {A:Option Addr} {n c:Nat} {zs:List Int}
theorem By.mk' (h:w.ownsRow base 5 1 (.slice A n c) n (zs.map (Value.int .u8))):By base w A n c zs:=by
 obtain ⟨A',c',e,h1,h2⟩:=own_shape h
 injection e with e1 e2 e3
 subst e1 e3
 exact ⟨by have:=h.1;simpa using this,h1,h2,h⟩
theorem By.sb (h:By base w A n c zs):Sb w A n zs:=Sb.own h.own
theorem By.lower {B:Nat} (h:By base w A n c zs) (hB:B≤base):By B w A n c zs:=⟨h.len,h.le,h.max,own_base h.own hB⟩
theorem By.keep (h:By base w A n c zs) (hs:∀ g,base≤g→g<w.heap.size→w'.heap[g]?=w.heap[g]?):By base w' A n c zs:=by
 refine ⟨h.len,h.le,h.max,h.own.1,?_⟩
 rcases h.own.2 with h1 | ⟨g,cap,cur,hv,hb,hg,hr⟩
 · exact .inl h1
 · exact .inr ⟨g,cap,cur,hv,hb,(hs g hb (Array.getElem?_eq_some_iff.1 hg).1).trans hg,hr⟩
theorem By.below (h:By base w A n c zs) (hb:Below w.heap.size w w'):By base w' A n c zs:=h.keep fun g _ hg=>hb.block g hg
theorem By.ownB (h:By base w A n c zs):∀ k,(Value.slice A n c).ownBlock=some k→base≤k:=by
 intro k hk
 rcases h.own.2 with ⟨h1,_⟩ | ⟨g,cap,cur,hv,hb,_⟩
 · rw [h1] at hk;cases hk
 · rw [hv] at hk
   injection hk with hk
   rw [← hk]
   exact hb
theorem By.lit (w:World) (zs:List Int) (n:Nat) (cs:Array Value) (hc:cs.toList=zs.map (Value.int .u8)) (hl:zs.length=n) (hm:n≤1000):By w.heap.size (w.alloc (.cells cs 5)) (some ⟨w.heap.size,0,none⟩) n n zs:=by
 refine By.mk' ?_
 rw [← hc]
 exact World.ownsRow_lit w cs n (Nat.le_refl _) (by unfold maxLen;omega) (by have:=congrArg List.length hc;simp at this;omega)
end
theorem wpList_appB (w:World) {ops:Array Oper} {rest:List Oper} {o:Oper} {a:Act} {Q:Exit→Act→World→Prop} (hgd:o.guard=none) (s x:Operand)
  (ho:o.op=.call { callee:=.builtin .append,args:=#[s,x],argTypes:=#[26,26] }) (base:Nat)
  (A0:Option Addr) (n c0:Nat) (L:List Int) (hs:a.eval s=.slice A0 n c0) (hown:By base w A0 n c0 L)
  (A:Option Addr) (m c k:Nat) (hk:n+m=k) (M:List Int) (hx:a.eval x=.slice A m c) (hr:Sb w A m M) (h63:k≤140737488355328) (hbase:base≤w.heap.size)
  (h:∀ A' c' w',By base w' A' k c' (L ++ M)→w.grownBy w' (Value.slice A0 n c0).ownBlock→wpList Tryz.prog ops Q rest (a.put o.dst (.slice A' k c')) w'):wpList Tryz.prog ops Q (o :: rest) a w:=by
 subst hk
 exact wpList_app w hgd s x _ ho base 5 Tryz.underlying26 info8 _ n _ hs hown.own A m c M hx hr h63 hbase fun A' c' w' h1 h2=>h A' c' w' (By.mk' (by rw [List.map_append];exact h1)) h2
open Go.RowKit
def ByOwn (zs:List Int) (w:World) (e:Ending) (w':World):Prop:=Below w.heap.size w w'∧∃ A c,e=.returned (.slice A zs.length c)∧By w.heap.size w' A zs.length c zs
theorem num_own {n size:Int} {w:World} {e:Ending} {w':World} (h:∃ v,e=.returned v∧Made 5 (numS n size) w v w'):ByOwn (numS n size) w e w':=by
 obtain ⟨v,rfl,A,m,c,rfl,hm⟩:=h
 obtain rfl:=hm.len
 exact ⟨hm.below,A,c,rfl,⟨rfl,hm.le,hm.max,hm.own⟩⟩
theorem num4 (x:Int):numS x 4=numL x 4:=rfl
theorem num2 (x:Int):numS x 2=numL x 2:=rfl
open Go.RowKit
theorem strCells_is (t:ByteArray):Lib.strCells t=(sL t).map (Value.int .u8):=by
 unfold Lib.strCells sL
 rw [List.map_map]
 rfl
def unTo (c:Nat) (L M:List Ce) (y:Nat):List Nat:=(List.range y).filter fun z=>decide (rowAt c L z≠rowAt c M z)
theorem unTo_all (c r:Nat) (L M:List Ce):unTo c L M r=unlike c r L M:=rfl
theorem unTo_yes {c:Nat} {L M:List Ce} {y:Nat} (h:rowAt c L y≠rowAt c M y):unTo c L M (y+1)=unTo c L M y ++ [y]:=by
 unfold unTo
 rw [List.range_succ,List.filter_append]
 simp [h]
theorem unTo_no {c:Nat} {L M:List Ce} {y:Nat} (h:rowAt c L y=rowAt c M y):unTo c L M (y+1)=unTo c L M y:=by
 unfold unTo
 rw [List.range_succ,List.filter_append]
 simp [h]
theorem unTo_len (c:Nat) (L M:List Ce) (y:Nat):(unTo c L M y).length≤y:=by
 unfold unTo
 have:=List.length_filter_le (fun z=>decide (rowAt c L z≠rowAt c M z)) (List.range y)
 rwa [List.length_range] at this
open Go.RowKit
theorem rowIn {s:ScR} {S:Sc} {c r y:Nat} {w:World} (h:Vs ceV w s.A s.n S.cells) (hk:s.n≤s.k) (hn:s.n=r*c) (hc:1≤c) (hy:y<r):Vs ceV w (s.A.map (·.add (y*c*6))) c (rowAt c S.cells y):=by
 have hle:y*c+c≤r*c:=by
  have:=Nat.mul_le_mul_right c (show y+1≤r by omega)
  rw [Nat.succ_mul] at this
  omega
 have h1:=h.cut ceV_len (k:=y*c) (c:=s.k) (by omega) hk
 have h2:=h1.front ceV_len (k:=c) (by omega)
 rw [if_neg (by omega)] at h2
 exact h2
set_option maxHeartbeats 3200000 in
set_option maxRecDepth 100000 in
theorem rowOf16_any {s:ScR} {c r y:Nat} (w:World) (hc0:s.c=(c:Int)) (hn:s.n=r*c) (hk:s.n≤s.k) (hc:1≤c) (hc80:c≤80) (hr:r≤24) (hy:y<r) :
  Calls Tryz.prog 61 #[.agg (scrA s),.int .i64 y] w fun e w'=>e=.returned (.slice (s.A.map (·.add (y*c*6))) c (s.k-y*c))∧Below w.heap.size w w':=by
 obtain ⟨b,hb⟩:∃ b,b=w.heap.size:=⟨_,rfl⟩
 obtain ⟨w1,hw1⟩:∃ w1,w1=w.alloc (.cells (scrA s) 25):=⟨_,rfl⟩
 have H1:=Lib.hid (show Sx w1 b s∧Below w.heap.size w w1 from by
  rw [hw1,hb]
  exact ⟨Sx.new w s,(Below.refl _ _).alloc (Nat.le_refl _) _⟩)
 obtain ⟨a0,a1,a2,a3,a4,a5,a6,a7,a8,_⟩:=sx_cells H1.out.1
 clear a1 a3 a4 a5 a6 a7 a8
 rw [hc0] at a0
 obtain ⟨Y0,hY0⟩:∃ Y0:Nat,Y0=y*c:=⟨_,rfl⟩
 rw [← hY0]
 have hmul:(y:Int)*(c:Int)=(Y0:Int):=by rw [hY0];simp
 have hmul2:((y:Int)+1)*(c:Int)=(Y0:Int)+(c:Int):=by rw [Int.add_mul,hmul];omega
 have hle:Y0+c≤s.n:=by
  have:=Nat.mul_le_mul_right c (show y+1≤r by omega)
  rw [Nat.succ_mul] at this
  omega
 have hsm:s.n≤24*80:=by rw [hn];exact Nat.mul_le_mul hr hc80
 have q0:IntKind.i64.wrap ((y:Int)*(c:Int))=(Y0:Int):=by rw [hmul,IntKind.wrap_i64];omega
 have q1:IntKind.i64.wrap (((y:Int)+1)*(c:Int))=(Y0:Int)+(c:Int):=by rw [hmul2,IntKind.wrap_i64];omega
 have p0:(0:Int)≤(Y0:Int):=by omega
 have p1:(Y0:Int)≤(Y0:Int)+(c:Int):=by omega
 have p2:(Y0:Int)+(c:Int)≤(s.k:Int):=by omega
 have hk1:¬ (s.k=Y0):=by omega
 have hlen:((Y0:Int)+(c:Int)).toNat-Y0=c:=by omega
 clear hmul hmul2 hY0 hn hc0 hle hsm hk
 unfold scrA at hw1 ⊢
 go_enter Tryz.func61,Tryz.ntmps61
 go_upto_region 1 with fail
 rw [← hw1,← hb]
 clear hw1 hb
 go_wp2_with fail
 go_ret
 exact ⟨rfl,H1.out.2⟩
set_option maxHeartbeats 1600000 in
theorem equalR_any {w:World} {A A':Option Addr} {n c c':Nat} {xs ys:List Ce} (h:Vs ceV w A n xs) (h':Vs ceV w A' n ys) (hn:n≤1000000) :
  Calls Tryz.prog 74 #[.slice A n c,.slice A' n c'] w fun e w'=>e=.returned (.bool (decide (xs=ys)))∧∃ q,w'=w.drewN q:=by
 have H:=Lib.hid (And.intro h h')
 clear h h'
 go_enter Tryz.func74,Tryz.ntmps74
 go_wp2
 go_loopw [13] (fun i wr=>∃ k q:Nat,k≤n∧i=.int .i64 k∧xs.take k=ys.take k∧wr=w.drewN q) (fun i _=>n-(intOf i).toNat)
 case atStart=>exact ⟨0,0,Nat.zero_le _,rfl,by simp,rfl⟩
 case round =>
  obtain ⟨k,q,hk,rfl,hx,rfl⟩:=hrel
  have HX:=Lib.hid hx
  clear hx
  by_cases hlt:k<n
  · obtain ⟨ad,rfl⟩:=H.out.1.addr (by omega)
    obtain ⟨ad',rfl⟩:=H.out.2.addr (by omega)
    obtain ⟨a0,a1,a2,a3,a4,a5⟩:=H.out.1.six hlt
    obtain ⟨b0,b1,b2,b3,b4,b5⟩:=H.out.2.six hlt
    have HT:=Lib.hid (take_snocC (xs:=xs) (ys:=ys) (k:=k) (by rw [H.out.1.len];exact hlt) (by rw [H.out.2.len];exact hlt))
    have hne:=fun w=>ce_neq (cAt xs k) (cAt ys k) w
    unfold ceA at hne
    generalize cAt xs k=x at a0 a1 a2 a3 a4 a5 HT hne
    generalize cAt ys k=y at b0 b1 b2 b3 b4 b5 HT hne
    have hgd:=guardCe
    obtain ⟨B,hB⟩:∃ B,decide (x=y)=B:=⟨_,rfl⟩
    rw [hB] at hne
    have HB:=Lib.hid hB
    clear hB
    cases B
    · have hd:decide (xs=ys)=false:=by
       rw [decide_eq_false_iff_not]
       rintro rfl
       exact (of_decide_eq_false HB.out) (HT.out.1 rfl).2
      have HD:=Lib.hid hd
      clear hd
      go_wp2
      go_quiet (fail)
      go_wp2
      go_ret
      exact ⟨retBC HD.out.symm,q+nq,by simp [World.drewN,Nat.add_assoc]⟩
    · have ht:=HT.out.2 ⟨HX.out,of_decide_eq_true HB.out⟩
      have HTT:=Lib.hid ht
      clear ht HT
      go_wp2
      go_quiet (fail)
      go_wp2
      go_roundw
      case rel=>exact ⟨k+1,q+nq,by omega,by go_num,HTT.out,rfl⟩
      case measure=>simp [intOf];omega
  · have hd:decide (xs=ys)=true:=by
     have e1:=HX.out
     rw [List.take_of_length_le (by rw [H.out.1.len];omega),List.take_of_length_le (by rw [H.out.2.len];omega)] at e1
     simpa using e1
    have HD:=Lib.hid hd
    clear hd
    go_wp2
    go_ret
    exact ⟨retBC HD.out.symm,q,rfl⟩
open Go.RowKit
def Io (base:Nat) (w:World) (A:Option Addr) (n c:Nat) (zs:List Int):Prop:=w.ownsRow base 3 1 (.slice A n c) n (zs.map (Value.int .i64))
theorem Io.below {base:Nat} {w w':World} {A:Option Addr} {n c:Nat} {zs:List Int} (h:Io base w A n c zs) (hb:Below w.heap.size w w'):Io base w' A n c zs :=
 World.ownsRow.kept h (grownBy_below (row:=none) hb) (by cases (Value.slice A n c).ownBlock<;>simp)
theorem Io.ik {base:Nat} {w:World} {A:Option Addr} {n c:Nat} {zs:List Int} (h:Io base w A n c zs):Ik .i64 w A n zs:=Ik.own h
theorem infoInt:(Tryz.prog.info? 3).map (fun i=>(i.zero,i.size,i.bytes))=some (some (.int .i64 0),1,8):=by kernel_rfl
def IoOwn (zs:List Int) (w:World) (e:Ending) (w':World):Prop:=Below w.heap.size w w'∧∃ A c,e=.returned (.slice A zs.length c)∧Io w.heap.size w' A zs.length c zs
def toI (ys:List Nat):List Int:=ys.map Int.ofNat
theorem toI_len (ys:List Nat):(toI ys).length=ys.length:=by unfold toI;rw [List.length_map]
set_option maxHeartbeats 6400000 in
set_option maxRecDepth 100000 in
theorem unlikeR_any {sa sb:ScR} {base b:Sc} {c r:Nat} {BL LL:Rws} {w:World} (h:ScIn w sa base) (k:ScIn w sb b) (hA:FitS base c r BL) (hB:FitS b c r LL) :
  Calls Tryz.prog 49 #[.agg (scrA sa),.agg (scrA sb)] w (IoOwn (toI (unlike c r base.cells b.cells)) w):=by
 have HA:=Lib.hid (And.intro hA hB)
 have HCR:=Lib.hid (show sa.c=(c:Int)∧sb.c=(c:Int)∧sb.r=(r:Int) from ⟨by rw [← h.c,hA.ec],by rw [← k.c,hB.ec],by rw [← k.r,hB.er]⟩)
 obtain ⟨b3,hb3⟩:∃ b3,b3=w.heap.size:=⟨_,rfl⟩
 obtain ⟨w1,hw1⟩:∃ w1,w1=(w.alloc (.cells (scrA sa) 25)).alloc (.cells (scrA sb) 25):=⟨_,rfl⟩
 have H0:=Lib.hid (show S2 w w1 b3 sa sb from by
  have h1:=Sx.new w sa
  have h2:=Sx.new (w.alloc (.cells (scrA sa) 25)) sb
  rw [World.size_alloc] at h2
  rw [hb3,hw1]
  exact ⟨h1.below ((Below.refl _ _).alloc (Nat.le_refl _) _),h2,((Below.refl _ _).alloc (Nat.le_refl _) _).alloc (by simp) _,Nat.le_refl _⟩)
 have HI:=Lib.hid (And.intro h k)
 have HSN:=Lib.hid (show sa.n=r*c∧sb.n=r*c from ⟨by rw [← h.cells.len,hA.el];exact hA.gk.box.flen,by rw [← k.cells.len,hB.el];exact hB.gk.box.flen⟩)
 clear h k hA hB
 obtain ⟨d0,d1,d2,d3,d4,d5,d6,d7,d8,_⟩:=sx_cells H0.out.b2
 rw [HCR.out.2.2] at d1
 clear d0 d2 d3 d4 d5 d6 d7 d8
 unfold scrA at hw1 ⊢
 go_enter Tryz.func49,Tryz.ntmps49
 go_upto_region 1 with fail
 rw [← hw1,← hb3]
 clear hw1 hb3
 have hr24:=HA.out.2.gk.r24
 go_upto_region 3 with fail
 go_loopw [5,9] (fun v5 v9 wr=>∃ (y:Nat) (A:Option Addr) (m cc:Nat),y≤r∧v9=.int .i64 y∧v5=.slice A m cc∧m≤y∧Io w1.heap.size wr A m cc (toI (unTo c base.cells b.cells y))∧Below w1.heap.size w1 wr) (fun _ v _=>r-(intOf v).toNat)
 case atStart=>exact ⟨0,none,0,0,Nat.zero_le _,rfl,rfl,Nat.le_refl _,(World.ownsRow_nil _ _ _ _:World.ownsRow _ _ _ _ _ _ []),Below.refl _ _⟩
 case round =>
  obtain ⟨y,A,m,cc,hyr,rfl,rfl,hmy,hio,hbel⟩:=hrel
  have Y:=Lib.hid (And.intro hio (And.intro (H0.out.on hbel) hbel))
  clear hio hbel d1
  by_cases hlt:y<r
  · have hyl:(y:Int)<(r:Int):=by omega
    obtain ⟨U,hU⟩:∃ U,decide (rowAt c base.cells y=rowAt c b.cells y)=U:=⟨_,rfl⟩
    have HU:=Lib.hid hU
    clear hU
    have P1:=Lib.hid (show ∀ w',Below wr.heap.size wr w'→Calls Tryz.prog 61 #[.agg (scrA sa),.int .i64 y] w' fun e w''=>e=.returned (.slice (sa.A.map (·.add (y*c*6))) c (sa.k-y*c))∧Below wr.heap.size wr w'' from fun w' hb=>(rowOf16_any w' HCR.out.1 HSN.out.1 HI.out.1.nk HA.out.2.gk.c1 HA.out.2.gk.c80 hr24 hlt).mono fun _ _ h=>⟨h.1,hb.trans (h.2.mono hb.size)⟩)
    have P2:=Lib.hid (show ∀ w',Below wr.heap.size wr w'→Calls Tryz.prog 61 #[.agg (scrA sb),.int .i64 y] w' fun e w''=>e=.returned (.slice (sb.A.map (·.add (y*c*6))) c (sb.k-y*c))∧Below wr.heap.size wr w'' from fun w' hb=>(rowOf16_any w' HCR.out.2.1 HSN.out.2 HI.out.2.nk HA.out.2.gk.c1 HA.out.2.gk.c80 hr24 hlt).mono fun _ _ h=>⟨h.1,hb.trans (h.2.mono hb.size)⟩)
    have P3:=Lib.hid (show ∀ w',Below wr.heap.size wr w'→Calls Tryz.prog 74 #[.slice (sa.A.map (·.add (y*c*6))) c (sa.k-y*c),.slice (sb.A.map (·.add (y*c*6))) c (sb.k-y*c)] w' fun e w''=>e=.returned (.bool U)∧Below wr.heap.size wr w'' from fun w' hb=>(equalR_any (rowIn ((HI.out.1.cells.below Y.out.2.1.bel).below hb) HI.out.1.nk HSN.out.1 HA.out.2.gk.c1 hlt) (rowIn ((HI.out.2.cells.below Y.out.2.1.bel).below hb) HI.out.2.nk HSN.out.2 HA.out.2.gk.c1 hlt) (by have:=HA.out.2.gk.c80;omega)).mono (by rintro e w'' ⟨rfl,q,rfl⟩;exact ⟨by rw [HU.out],belowN hb q⟩))
    have SX:=Lib.hid (show ∀ w',Below wr.heap.size wr w'→(Below wr.heap.size wr w'∧(w'.cell? ⟨b3,0,none⟩=some (.int .i64 sa.c)∧w'.cell? ⟨b3,1,none⟩=some (.int .i64 sa.r)∧w'.cell? ⟨b3,2,none⟩=some (.slice sa.A sa.n sa.k)∧w'.cell? ⟨b3,3,none⟩=some (.int .i64 sa.x)∧w'.cell? ⟨b3,4,none⟩=some (.int .i64 sa.y)∧w'.cell? ⟨b3,5,none⟩=some (.bool sa.hid)∧w'.cell? ⟨b3,6,none⟩=some (.int .u8 sa.mouse)∧w'.cell? ⟨b3,7,none⟩=some (.string sa.ttl)∧w'.cell? ⟨b3,8,none⟩=some (.slice sa.T sa.m sa.q)∧w'.cell? ⟨(b3+1),0,none⟩=some (.int .i64 sb.c)∧w'.cell? ⟨(b3+1),1,none⟩=some (.int .i64 sb.r)∧w'.cell? ⟨(b3+1),2,none⟩=some (.slice sb.A sb.n sb.k)∧w'.cell? ⟨(b3+1),3,none⟩=some (.int .i64 sb.x)∧w'.cell? ⟨(b3+1),4,none⟩=some (.int .i64 sb.y)∧w'.cell? ⟨(b3+1),5,none⟩=some (.bool sb.hid)∧w'.cell? ⟨(b3+1),6,none⟩=some (.int .u8 sb.mouse)∧w'.cell? ⟨(b3+1),7,none⟩=some (.string sb.ttl)∧w'.cell? ⟨(b3+1),8,none⟩=some (.slice sb.T sb.m sb.q))) from fun w' hb=>by
     have t0:=sx_cells (Y.out.2.1.b1.below hb)
     have t1:=sx_cells (Y.out.2.1.b2.below hb)
     exact ⟨hb,t0.c0,t0.c1,t0.c2,t0.c3,t0.c4,t0.c5,t0.c6,t0.c7,t0.c8,t1.c0,t1.c1,t1.c2,t1.c3,t1.c4,t1.c5,t1.c6,t1.c7,t1.c8⟩)
    unfold scrA at P1 P2
    have hb0:Below wr.heap.size wr wr:=Below.refl _ _
    go_upto_region 5 with fail
    go_region_held3 (fun w'=>Below wr.heap.size wr w'∧(w'.cell? ⟨b3,0,none⟩=some (.int .i64 sa.c)∧w'.cell? ⟨b3,1,none⟩=some (.int .i64 sa.r)∧w'.cell? ⟨b3,2,none⟩=some (.slice sa.A sa.n sa.k)∧w'.cell? ⟨b3,3,none⟩=some (.int .i64 sa.x)∧w'.cell? ⟨b3,4,none⟩=some (.int .i64 sa.y)∧w'.cell? ⟨b3,5,none⟩=some (.bool sa.hid)∧w'.cell? ⟨b3,6,none⟩=some (.int .u8 sa.mouse)∧w'.cell? ⟨b3,7,none⟩=some (.string sa.ttl)∧w'.cell? ⟨b3,8,none⟩=some (.slice sa.T sa.m sa.q)∧w'.cell? ⟨(b3+1),0,none⟩=some (.int .i64 sb.c)∧w'.cell? ⟨(b3+1),1,none⟩=some (.int .i64 sb.r)∧w'.cell? ⟨(b3+1),2,none⟩=some (.slice sb.A sb.n sb.k)∧w'.cell? ⟨(b3+1),3,none⟩=some (.int .i64 sb.x)∧w'.cell? ⟨(b3+1),4,none⟩=some (.int .i64 sb.y)∧w'.cell? ⟨(b3+1),5,none⟩=some (.bool sb.hid)∧w'.cell? ⟨(b3+1),6,none⟩=some (.int .u8 sb.mouse)∧w'.cell? ⟨(b3+1),7,none⟩=some (.string sb.ttl)∧w'.cell? ⟨(b3+1),8,none⟩=some (.slice sb.T sb.m sb.q)))
     ((refine SX.out _ ?_;(try go_split_ands);first | assumption | exact Below.drew (by assumption)))
     ((first
      | (go_at_call 61;(try go_split_ands);refine (P2.out _ hb5).mono ?_;rintro e w6 ⟨rfl,hb6⟩)
      | (go_at_call 61;(try go_split_ands);refine (P1.out _ (by assumption)).mono ?_;rintro e w5 ⟨rfl,hb5⟩)
      | (go_at_call 74;(try go_split_ands);refine (P3.out _ (by assumption)).mono ?_;rintro e w7 ⟨rfl,hb7⟩)))
    have Y1:=Lib.hid (show Io w1.heap.size w7 A m cc (toI (unTo c base.cells b.cells y))∧Below w1.heap.size w1 w7 from ⟨Y.out.1.below hb7,Y.out.2.2.trans (hb7.mono Y.out.2.2.size)⟩)
    clear hb5 hb6 hb7 P1 P2 P3 SX Y
    cases U
    · have hE:=Lib.hid (show toI (unTo c base.cells b.cells (y+1))=toI (unTo c base.cells b.cells y) ++ [(y:Int)] from by rw [unTo_yes (of_decide_eq_false HU.out)];unfold toI;rw [List.map_append];rfl)
      have HW:=Lib.hid (show Below w7.heap.size w7 (w7.alloc (.cells #[.int .i64 (y:Int)] 3)) from (Below.refl _ _).alloc (Nat.le_refl _) _)
      have HO:=Lib.hid (Y1.out.1.below HW.out)
      have HV:=Lib.hid (Ik.one .i64 w7 3 (y:Int))
      go_wp2_with (at_builtin;refine wpList_appI _ rfl _ _ 85 rfl w1.heap.size 3 .i64 8 (by omega) Tryz.underlying85 infoInt _ m _ rfl HO.out (some ⟨w7.heap.size,0,none⟩) 1 1 (m+1) rfl _ rfl HV.out (by omega) (Nat.le_trans Y1.out.2.size HW.out.size) ?_;intro A4 c4 w8 hown hg8)
      have Y2:=Lib.hid (show Io w1.heap.size w8 A4 (m+1) c4 (toI (unTo c base.cells b.cells (y+1)))∧Below w1.heap.size w1 w8 from ⟨by unfold Io;rw [hE.out,List.map_append];exact hown,(Y1.out.2.trans (HW.out.mono Y1.out.2.size)).grown hg8 (Nat.le_trans Y1.out.2.size HW.out.size) (fun k hk=>(World.ownsRow.lt HO.out k hk).1)⟩)
      clear hown hg8 HO HV HW
      go_roundw
      case rel=>exact ⟨y+1,A4,m+1,c4,by omega,by go_num,rfl,by omega,Y2.out.1,Y2.out.2⟩
      case measure=>simp [intOf];omega
    · have hE:=Lib.hid (unTo_no (of_decide_eq_true HU.out))
      go_wp2_with fail
      go_roundw
      case rel=>exact ⟨y+1,A,m,cc,by omega,by go_num,rfl,by omega,by rw [hE.out];exact Y1.out.1,Y1.out.2⟩
      case measure=>simp [intOf];omega
  · have hyr2:y=r:=by omega
    subst hyr2
    have X:IoOwn (toI (unlike c y base.cells b.cells)) w (.returned (.slice A m cc)) wr:=by
     have hl:m=(toI (unlike c y base.cells b.cells)).length:=by have:=(Io.ik Y.out.1).len;rw [← unTo_all];exact this.symm
     have h1:=Y.out.1
     rw [unTo_all] at h1
     subst hl
     exact ⟨Y.out.2.1.bel,A,cc,rfl,World.ownsRow.mono h1 H0.out.bel.size⟩
    go_wp2_with fail
    go_ret
    exact X
end Go.Proofs.YtikhknnhmnopbaaGreatDoor
