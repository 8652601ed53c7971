/-
  Part 37 of what the laws of emul want: EmulCmd.
-/
import Derived.Laws.Strings
import Derived.Test.YtlcipgdnpilkfaaGreatDoorPo13
import Derived.Test.YtlcipgdnpilkfaaGreatDoorPo36
namespace Go.Proofs.YtlcipgdnpilkfaaGreatDoor
open Go.RowKit
section
variable {B:Nat} {w:World} {g:Nat} {x:CT}
theorem sep_cell (w:World) (fr:Nat × Nat):(w.alloc (.cells #[.int .u8 59] 5 fr)).cell? ⟨w.heap.size,0,none⟩=some (.int .u8 59):=by
 rw [cell_of_row _ _ 0 _ _ _ (heap_alloc_new w _)]
 rfl
theorem ba_is (l:List Int):strOfNums l=baS l:=by
 apply ByteArray.ext
 rw [← Array.toList_inj]
 show (strOfNums l).data.toList=_
 rw [strOfNums_data]
 rfl
theorem str_ne {l m:List Int} (h8:U8s l) (hm:U8s m) (h:l≠m):strOfNums l≠strOfNums m:=fun e=>h (by rw [← sL_nums h8,← sL_nums hm,e])
theorem Cz.titled (h:Cz B w g x) {w1 w':World} (hb:Below w.heap.size w w1) {s:ByteArray} {l:List Int} (hs:sL s=titleF [] l) (hr:RwG w1 g ((ctV x).set 109 (.string s)) w'):CzTo B g x { x.t with title:=titleF [] l } w w' { x with t:={ x.t with title:=titleF [] l },ttl:=s }:=by
 have hz:=h.below hb
 refine ((CzTo.refl h).below hb).trans (hr.fin hz (y:={ x with t:={ x.t with title:=titleF [] l },ttl:=s }) ?_ ⟨rfl,rfl,rfl,rfl,rfl,rfl,rfl,rfl,rfl,rfl,rfl,rfl,rfl,rfl,rfl,rfl,rfl,hs⟩ { h.ok with title:=title_ok l })
 exact ctV_setTl h.ok.tabs 0 (.string s) rfl rfl rfl
set_option maxRecDepth 100000 in
set_option maxHeartbeats 3200000 in
theorem command_any (hT:Tabs w) (h:Cz B w g x) (hl:LkOk x.t) {A:Option Addr} {n c:Nat} {zs:List Int} (hs:Sb w A n zs) (h8:U8s zs) (hn:n≤256) (hc:n≤c):Calls Tryz.prog 55 #[.pointer (some ⟨g,0,none⟩),.slice A n c] w (CzP B g x (x.t.osc zs) w):=by
 have HZ:=Lib.hid h
 have HT:=Lib.hid hT
 have HS:=Lib.hid (And.intro hs (And.intro h8 (And.intro hn hc)))
 have HL:=Lib.hid hl
 have kc:=fun (w:World) (C:Array Value) (n c:Nat)=>Lib.run_convert_bytes_const (P:=Tryz.prog) w 36 5 C n c Tryz.underlying36 Tryz.underlying5
 generalize hO:x.t.osc zs=T'
 have HO:=Lib.hid hO
 obtain ⟨w1,hw1⟩:∃ w1,w1=w.alloc (.cells #[.int .u8 59] 5 (1,2)):=⟨_,rfl⟩
 obtain ⟨b1,hb1⟩:∃ b1,b1=w.heap.size:=⟨_,rfl⟩
 have H1:=Lib.hid (show Below w.heap.size w w1∧w1.cell? ⟨b1,0,none⟩=some (.int .u8 59) from by rw [hw1,hb1];exact ⟨(Below.refl _ _).alloc (Nat.le_refl _) _,sep_cell w _⟩)
 clear h hT hs h8 hn hc hl hO
 go_enter Tryz.func55,Tryz.ntmps55
 go_wp2_with fail
 rw [← hw1,← hb1]
 clear hw1 hb1
 refine (cutB_any (HS.out.1.below H1.out.1) HS.out.2.1 (by have:=HS.out;omega) HS.out.2.2.2 b1 1 H1.out.2).mono ?_
 rintro e w2 ⟨⟨q,hq⟩,hP⟩
 have H2:=Lib.hid (show Below w.heap.size w w2 from by rw [hq];exact belowN H1.out.1 _)
 have H12:=Lib.hid (show Below w1.heap.size w1 w2 from by rw [hq];exact belowN (Below.refl _ _) _)
 clear hq
 rcases hP with ⟨hI,rfl⟩ | ⟨k,A2,hI,hk,rfl,hs1,hs2⟩
 · have E:=Lib.hid (show T'=x.t from by rw [← HO.out];unfold Tm.osc;rw [hI])
   clear hI
   go_wp2_with fail
   (try simp only [Exit.inBlock,Exit.then])
   refine bodyPost_ret (results_none rfl _ _ _) rfl ?_
   exact ⟨rfl,x,((CzTo.refl HZ.out).below H2.out).as E.out.symm⟩
 · obtain ⟨K,hK⟩:∃ K,zs.take k=K:=⟨_,rfl⟩
   obtain ⟨R,hR⟩:∃ R,zs.drop (k+1)=R:=⟨_,rfl⟩
   obtain ⟨n2,hn2⟩:∃ n2,n-(k+1)=n2:=⟨_,rfl⟩
   obtain ⟨c2,hc2⟩:∃ c2,c-(k+1)=c2:=⟨_,rfl⟩
   have HO2:=Lib.hid (show T'=if K=[48]∨K=[50] then { x.t with title:=titleF [] (foldS [] R) } else if K=[56] then (match R.idxOf? 59 with | none=>x.t | some j=>x.t.lead (baS (R.drop (j+1)))) else x.t from by
    rw [← HO.out]
    unfold Tm.osc
    rw [hI,← hK,← hR]
    rfl)
   have hU:U8s K∧U8s R:=⟨fun z hz=>HS.out.2.1 z (by rw [← hK] at hz;exact List.mem_of_mem_take hz),fun z hz=>HS.out.2.1 z (by rw [← hR] at hz;exact List.mem_of_mem_drop hz)⟩
   have HU:=Lib.hid hU
   rw [hK] at hs1
   rw [hR,hn2] at hs2
   rw [hn2,hc2]
   have HS2:=Lib.hid (show Sb w2 A2 n2 R∧n2≤256∧n2≤c2∧Sb w2 A k K from ⟨hs2.below H12.out,by have:=HS.out;omega,by have:=HS.out;omega,hs1.below H12.out⟩)
   have hcv:=conv_any (c:=c) HS2.out.2.2.2 9 Tryz.underlying9
   have i48:strOfNums [48]=⟨#[48]⟩:=by decide +kernel
   have i50:strOfNums [50]=⟨#[50]⟩:=by decide +kernel
   have i56:strOfNums [56]=⟨#[56]⟩:=by decide +kernel
   have m48:U8s [48]:=fun z hz=>by simp at hz;omega
   have m50:U8s [50]:=fun z hz=>by simp at hz;omega
   have m56:U8s [56]:=fun z hz=>by simp at hz;omega
   have HTL:=Lib.hid (titleOf_any (c:=c2) (HT.out.below H2.out (Nat.le_refl _)) HS2.out.1 HU.out.2 (by have:=HS2.out;omega))
   clear hs1 hs2 hK hR hn2 hc2 hU hI hk
   by_cases h48:K=[48]
   · rw [h48,i48] at hcv
     rw [if_pos (.inl h48)] at HO2
     clear i48 i50 i56 m48 m50 m56
     go_wp2_with fail
     refine HTL.out.mono ?_
     rintro e w5 ⟨s,rfl,hsl,hb5⟩
     have H5:=Lib.hid (H2.out.trans (hb5.mono H2.out.size))
     have Z:=HZ.out.below H5.out
     have c109:=Z.table.2
     have f109:=Z.fr 109
     have FIN:=Lib.hid (HZ.out.titled (l:=foldS [] R) H5.out hsl (Z.raw.set 109 (.string s)))
     clear hsl hb5 Z hcv
     go_wp2_with fail
     go_end0
     exact ⟨rfl,_,FIN.out.as HO2.out.symm⟩
   by_cases h50:K=[50]
   · rw [h50,i50] at hcv
     rw [if_pos (.inr h50)] at HO2
     clear i48 i50 i56 m48 m50 m56
     go_wp2_with fail
     refine HTL.out.mono ?_
     rintro e w5 ⟨s,rfl,hsl,hb5⟩
     have H5:=Lib.hid (H2.out.trans (hb5.mono H2.out.size))
     have Z:=HZ.out.below H5.out
     have c109:=Z.table.2
     have f109:=Z.fr 109
     have FIN:=Lib.hid (HZ.out.titled (l:=foldS [] R) H5.out hsl (Z.raw.set 109 (.string s)))
     clear hsl hb5 Z hcv
     go_wp2_with fail
     go_end0
     exact ⟨rfl,_,FIN.out.as HO2.out.symm⟩
   rw [if_neg (fun e=>e.elim h48 h50)] at HO2
   by_cases h56:K=[56]
   · rw [h56,i56] at hcv
     rw [if_pos h56] at HO2
     clear i48 i50 i56 m48 m50 m56 h48 h50
     obtain ⟨w3,hw3⟩:∃ w3,w3=w2.alloc (.cells #[.int .u8 59] 5 (1,2)):=⟨_,rfl⟩
     obtain ⟨b3,hb3⟩:∃ b3,b3=w2.heap.size:=⟨_,rfl⟩
     have H3:=Lib.hid (show Below w2.heap.size w2 w3∧w3.cell? ⟨b3,0,none⟩=some (.int .u8 59) from by rw [hw3,hb3];exact ⟨(Below.refl _ _).alloc (Nat.le_refl _) _,sep_cell w2 _⟩)
     go_wp2_with fail
     rw [← hw3,← hb3]
     clear hw3 hb3
     refine (cutB_any (HS2.out.1.below H3.out.1) HU.out.2 (by have:=HS2.out;omega) HS2.out.2.2.1 b3 1 H3.out.2).mono ?_
     rintro e w4 ⟨⟨q,hq⟩,hP⟩
     have H4:=Lib.hid (show Below w.heap.size w w4 from by rw [hq];exact belowN (H2.out.trans (H3.out.1.mono H2.out.size)) _)
     have H34:=Lib.hid (show Below w3.heap.size w3 w4 from by rw [hq];exact belowN (Below.refl _ _) _)
     clear hq hcv
     rcases hP with ⟨hI,rfl⟩ | ⟨j,A4,hI,hj,rfl,hs1,hs2⟩
     · rw [hI] at HO2
       clear hI
       go_wp2_with fail
       go_end0
       exact ⟨rfl,x,((CzTo.refl HZ.out).below H4.out).as HO2.out.symm⟩
     · rw [hI] at HO2
       dsimp only at HO2
       have hcv:=conv_any (c:=c2-(j+1)) (hs2.below H34.out) 9 Tryz.underlying9
       rw [ba_is] at hcv
       have hsz:(baS (R.drop (j+1))).size≤100000:=by
        rw [← ba_is,strOfNums_size,List.length_drop]
        have:=HS2.out
        have:=this.1.len
        omega
       generalize baS (R.drop (j+1))=u at hcv HO2 hsz
       have HLD:=Lib.hid (lead_any (HZ.out.below H4.out) HL.out u hsz)
       have K4:=Lib.hid ((CzTo.refl HZ.out).below H4.out)
       clear hI hj hs1 hs2 hsz
       go_wp2_with fail
       refine HLD.out.mono ?_
       rintro e w5 ⟨rfl,y,hy⟩
       have Y:=Lib.hid (K4.out.trans hy)
       clear hy
       go_wp2_with fail
       go_end0
       exact ⟨rfl,y,Y.out.as HO2.out.symm⟩
   · rw [if_neg h56] at HO2
     have n48:=str_ne HU.out.1 m48 h48
     have n50:=str_ne HU.out.1 m50 h50
     have n56:=str_ne HU.out.1 m56 h56
     rw [i48] at n48
     rw [i50] at n50
     rw [i56] at n56
     generalize strOfNums K=s at hcv n48 n50 n56
     have b48:(s.toList == [48])=false:=beq_eq_false_iff_ne.2 fun e=>n48 (ByteArray.ext (Array.toList_inj.1 (by rw [← ByteArray.toList_eq];exact e)))
     have b50:(s.toList == [50])=false:=beq_eq_false_iff_ne.2 fun e=>n50 (ByteArray.ext (Array.toList_inj.1 (by rw [← ByteArray.toList_eq];exact e)))
     have b56:(s.toList == [56])=false:=beq_eq_false_iff_ne.2 fun e=>n56 (ByteArray.ext (Array.toList_inj.1 (by rw [← ByteArray.toList_eq];exact e)))
     clear i48 i50 i56 m48 m50 m56 h48 h50 h56
     go_wp2_with fail
     go_end0
     exact ⟨rfl,x,((CzTo.refl HZ.out).below H2.out).as HO2.out.symm⟩
end
end Go.Proofs.YtlcipgdnpilkfaaGreatDoor
