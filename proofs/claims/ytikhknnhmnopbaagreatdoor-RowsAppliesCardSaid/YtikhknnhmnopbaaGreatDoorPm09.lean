/-
  Part 9 of what the laws of emul want: EmulTitle, GridBase, GridMove, LinksMem, ParseMem, ParseOut, UtfFeed.
-/
import Derived.Lib.ConvBytes
import Derived.Laws.EntriesVeiled
import Derived.StillTailTactics
import Derived.Laws.ResultCell
import Derived.Deep.RegionHeld3
import Derived.Laws.CopyOwn
import Derived.Deep.OwnRows
import Derived.RegionTactic
import Derived.Lib.SmallJoins
import Derived.Laws.Concat
import Derived.Laws.OwnMore
import Derived.Test.YtikhknnhmnopbaaGreatDoorPm02
import Derived.Test.YtikhknnhmnopbaaGreatDoorPm04
import Derived.Test.YtikhknnhmnopbaaGreatDoorPm05
import Derived.Test.YtikhknnhmnopbaaGreatDoorPm06
import Derived.Test.YtikhknnhmnopbaaGreatDoorPm07
import Derived.Test.YtikhknnhmnopbaaGreatDoorPm08
namespace Go.Proofs.YtikhknnhmnopbaaGreatDoor
open Go.RowKit
theorem str_bytes (w:World) (s:ByteArray) :
  ∃ (c2:Nat) (w2:World),(convert 9 26 (.string s)).run Tryz.prog w=.ok (.slice (some ⟨w.heap.size,0,none⟩) s.size c2) w2∧Below w.heap.size w w2∧Sb w2 (some ⟨w.heap.size,0,none⟩) s.size (sL s)∧s.size≤c2:=by
 have h1:=grownCap_ge w s.size 0 5
 refine ⟨_,_,Lib.run_convert_string_bytes w 9 26 5 s Tryz.underlying9 Tryz.underlying26 Tryz.underlying5,⟨rfl,rfl,rfl,?_,fun j hj=>Lib.bytesWorld_at_old w _ s j hj⟩,⟨sL_len s,fun _=>⟨_,rfl,?_,fun k hk=>?_⟩⟩,h1⟩
 · rw [Lib.bytesWorld_size];omega
 · rw [Lib.bytesWorld_size];simp
 · rw [addHead,Lib.bytesWorld_cell w _ s k hk,getD_lt (by rw [sL_len];exact hk)]
   have e:s.data.toList.getD k 0=s.data.toList[k]'(by simpa using hk):=by simp [List.getD,hk]
   rw [e]
   simp [sL]
structure PosSt (ls:List Int) (k pos:Nat):Prop where
 le:k≤ls.length
 at_:pos=(encAll (ls.take k)).length
theorem PosSt.start (ls:List Int):PosSt ls 0 0:=⟨Nat.zero_le _,rfl⟩
theorem PosSt.drop {ls:List Int} {k pos:Nat} (h:PosSt ls k pos):(encAll ls).drop pos=encAll (ls.drop k):=by
 rw [encAll_split ls k,h.at_]
 exact List.drop_left
theorem PosSt.next {ls:List Int} {k pos:Nat} (h:PosSt ls k pos) (hm:∀ r∈ls,mayS r=true) (hk:k<ls.length) :
  decS ((encAll ls).drop pos)=(ls.getD k 0,(encS (ls.getD k 0)).length)∧PosSt ls (k+1) (pos+(encS (ls.getD k 0)).length)∧pos+(encS (ls.getD k 0)).length≤(encAll ls).length:=by
 have hmay:mayS (ls.getD k 0)=true:=hm _ (by rw [getD_lt hk];exact List.getElem_mem hk)
 have hd:ls.drop k=ls.getD k 0 :: ls.drop (k+1):=by rw [getD_lt hk];exact List.drop_eq_getElem_cons hk
 have ht:ls.take (k+1)=ls.take k ++ [ls.getD k 0]:=by rw [List.take_add_one,List.getElem?_eq_getElem hk,getD_lt hk];rfl
 refine ⟨?_,⟨hk,?_⟩,?_⟩
 · rw [h.drop,hd,encAll_cons]
   unfold decS
   rw [head_enc hmay]
 · rw [ht,encAll_snoc,List.length_append,h.at_]
 · have h2:=congrArg List.length h.drop
   rw [hd,encAll_cons,List.length_append,List.length_drop] at h2
   have:=(encS_len (ls.getD k 0)).1
   omega
theorem PosSt.more {ls:List Int} {k pos:Nat} (h:PosSt ls k pos):pos<(encAll ls).length↔k<ls.length:=by
 rw [encAll_split ls k,List.length_append,← h.at_]
 constructor
 · intro h1
   refine Classical.byContradiction fun h2=>?_
   rw [List.drop_eq_nil_of_le (by omega)] at h1
   simp [encAll] at h1
 · intro h1
   rw [List.drop_eq_getElem_cons h1,encAll_cons,List.length_append]
   have:=(encS_len ls[k]).1
   omega
def tMay (l:List Int):Bool:=decide (l.length≤64) && validS l && (foldS [] l).all fun r=>decide (widthS r≠0)
theorem valid_runes {l:List Int} (h:validS l=true):encAll (foldS [] l)=l∧∀ r∈foldS [] l,mayS r=true:=by
 have h1:encAll (foldS [] l)=l:=by unfold validS at h;exact of_decide_eq_true h
 refine ⟨h1,fun r hr=>?_⟩
 have h2:=fold_encAll (foldS [] l)
 rw [h1] at h2
 rw [h2] at hr
 obtain ⟨z,_,rfl⟩:=List.mem_map.1 hr
 exact may_fix z
set_option maxHeartbeats 3200000 in
set_option maxRecDepth 100000 in
theorem titleMay_any {w:World} (s:ByteArray) (hT:Tabs w) (hsz:s.size≤140737488351232) :
  Calls Tryz.prog 56 #[.string s] w fun e w'=>e=.returned (.bool (tMay (sL s)))∧Below w.heap.size w w':=by
 have hl:=sL_len s
 by_cases hgt:(64:Int)<(s.size:Int)
 · have E:=Lib.hid (show tMay (sL s)=false from by unfold tMay;rw [decide_eq_false (by omega)];rfl)
   clear hT
   go_enter Tryz.func56,Tryz.ntmps56
   go_wp2_with fail
   go_ret
   exact ⟨by rw [E.out];rfl,Below.refl _ _⟩
 · obtain ⟨c2,w2,hrun,hb2,hs2,hc2⟩:=str_bytes w s
   have HS:=Lib.hid (And.intro hs2 hb2)
   have HT:=Lib.hid (hT.below hb2 (Nat.le_refl _))
   have HV:=Lib.hid (utfValid_any (c:=c2) HT.out hs2 (sL_b s) hc2 (by omega))
   have hls:=Lib.hid hl
   obtain ⟨V,hV⟩:∃ V,validS (sL s)=V:=⟨_,rfl⟩
   rw [hV] at HV
   have HVV:=Lib.hid hV
   clear hT hb2 hs2 hc2 hV hl
   go_enter Tryz.func56,Tryz.ntmps56
   go_wp2_with fail
   refine HV.out.mono ?_
   rintro e w3 ⟨rfl,hb3⟩
   have H3:=Lib.hid (HS.out.2.trans (hb3.mono HS.out.2.size))
   have T3:=Lib.hid (HT.out.below hb3 (Nat.le_refl _))
   clear hb3 hrun
   cases V
   · have E:=Lib.hid (show tMay (sL s)=false from by unfold tMay;rw [HVV.out,Bool.and_false,Bool.false_and])
     go_wp2_with fail
     go_ret
     exact ⟨by rw [E.out];rfl,H3.out⟩
   · obtain ⟨h1,h2⟩:=valid_runes HVV.out
     obtain ⟨l,hll⟩:∃ l,foldS [] (sL s)=l:=⟨_,rfl⟩
     rw [hll] at h1 h2
     have HE:=Lib.hid (show tMay (sL s)=l.all fun r=>decide (widthS r≠0) from by unfold tMay;rw [HVV.out,hll,decide_eq_true (by rw [hls.out];omega)];rfl)
     have HL:=Lib.hid (And.intro h1 h2)
     have hsz2:s.size=(encAll l).length:=by rw [h1,hls.out]
     have HSZ:=Lib.hid hsz2
     clear h1 h2 hll hsz2
     go_wp2_with fail
     obtain ⟨it,hit⟩:∃ it,it=w3.heap.size:=⟨_,rfl⟩
     have I0:It (w3.iter s 0) it s 0:=by rw [hit];exact World.iter_heap w3 s 0
     have B0:Below w3.heap.size w3 (w3.iter s 0):=(Below.refl _ _).alloc (Nat.le_refl _) _
     have HI:=Lib.hid hit
     clear hit
     go_loopw [4] (fun _ wr=>∃ (k pos:Nat),It wr it s pos∧PosSt l k pos∧(∀ j,j<k→widthS (l.getD j 0)≠0)∧Below w3.heap.size w3 wr) (fun _ wr=>s.size-wr.iterPos it)
     case atStart=>exact ⟨0,0,I0,PosSt.start l,fun j hj=>absurd hj (by omega),B0⟩
     case round =>
      clear I0 B0
      obtain ⟨j,pos,hi,hst,hall,hbw⟩:=hrel
      have X:=Lib.hid (And.intro hi (And.intro hst (And.intro hall hbw)))
      clear hi hst hall hbw
      by_cases hp:pos<s.size
      · obtain ⟨w5,hi2,hg2,hz2,hnx⟩:=X.out.1.next hp
        obtain ⟨e1,e2⟩:=dec_at s pos hp
        have hj:j<l.length:=X.out.2.1.more.1 (by rw [← HSZ.out];exact hp)
        obtain ⟨n1,n2,n3⟩:=X.out.2.1.next HL.out.2 hj
        rw [← HL.out.1,n1] at e1 e2
        rw [e1,HI.out] at hnx
        rw [e2] at hi2
        have hel:=(encS_len (l.getD j 0)).1
        obtain ⟨z,hz⟩:∃ z,l.getD j 0=z:=⟨_,rfl⟩
        have HZZ:=Lib.hid (And.intro hz hj)
        rw [hz] at hnx hi2 n1 n2 n3 hel
        have HN:=Lib.hid (And.intro n2 (And.intro n3 (And.intro hi2 (And.intro (X.out.2.2.2.grown hg2 X.out.2.2.2.size (fun k hk=>by cases hk;have:=HI.out;omega)) hel))))
        have HIP:=Lib.hid X.out.1.pos
        clear n1 n2 n3 hi2 hg2 hz2 e1 e2 hel hz hj
        go_wp2_with fail
        refine (width_any z (T3.out.below HN.out.2.2.2.1 (Nat.le_refl _))).mono ?_
        rintro e w6 ⟨rfl,hb6⟩
        have Y:=Lib.hid (And.intro (HN.out.2.2.1.below hb6) (HN.out.2.2.2.1.trans (hb6.mono HN.out.2.2.2.1.size)))
        clear hb6 hnx
        obtain ⟨W,hW⟩:∃ W,widthS z=W:=⟨_,rfl⟩
        rw [hW]
        by_cases h0:W=0
        · have E:=Lib.hid (show tMay (sL s)=false from by
           rw [HE.out,List.all_eq_false]
           exact ⟨z,by rw [← HZZ.out.1,getD_lt HZZ.out.2];exact List.getElem_mem _,by rw [hW,h0];decide⟩)
          clear hW
          subst h0
          go_wp2_with fail
          go_ret
          exact ⟨by rw [E.out];rfl,H3.out.trans (Y.out.2.mono H3.out.size)⟩
        · have HALL:=Lib.hid (show ∀ i,i<j+1→widthS (l.getD i 0)≠0 from fun i hi=>by
           by_cases e:i=j
           · rw [e,HZZ.out.1,hW];exact h0
           · exact X.out.2.2.1 i (by omega))
          have b0:(W == 0)=false:=beq_eq_false_iff_ne.2 h0
          clear hW
          go_wp2_with fail
          go_roundw
          case rel=>exact ⟨j+1,_,Y.out.1,HN.out.1,HALL.out,Y.out.2⟩
          case measure=>rw [HIP.out,Y.out.1.pos];have:=HN.out;have:=HSZ.out;omega
      · have hdn:=X.out.1.done hp
        rw [HI.out] at hdn
        have hj:¬ j<l.length:=fun hj=>hp (by rw [HSZ.out];exact X.out.2.1.more.2 hj)
        have E:=Lib.hid (show tMay (sL s)=true from by
         rw [HE.out,List.all_eq_true]
         intro r hr
         obtain ⟨i,hi,rfl⟩:=List.getElem_of_mem hr
         have:=X.out.2.2.1 i (by omega)
         rw [getD_lt hi] at this
         simpa using this)
        clear hj
        go_wp2_with fail
        go_ret
        exact ⟨by rw [E.out];rfl,H3.out.trans (X.out.2.2.2.mono H3.out.size)⟩
open Go.RowKit
def gV (c r:Int) (A:Option Addr) (n k:Nat):Array Value:=#[.int .i64 c,.int .i64 r,.slice A n k]
structure G3 (w:World) (b:Nat) (c r:Int) (A:Option Addr) (n k:Nat):Prop where
 c0:w.cell? ⟨b,0,none⟩=some (.int .i64 c)
 c1:w.cell? ⟨b,1,none⟩=some (.int .i64 r)
 c2:w.cell? ⟨b,2,none⟩=some (.slice A n k)
 lt:b<w.heap.size
theorem g3_new (w:World) (c r:Int) (A:Option Addr) (n k:Nat) (t:TypeId):G3 (w.alloc (.cells (gV c r A n k) t)) w.heap.size c r A n k :=
 ⟨cell_of_row _ _ 0 _ _ _ (heap_alloc_new w _),cell_of_row _ _ 1 _ _ _ (heap_alloc_new w _),cell_of_row _ _ 2 _ _ _ (heap_alloc_new w _),by simp⟩
section
variable {w w':World} {b:Nat} {c r:Int} {A:Option Addr} {n k:Nat}
theorem G3.kept (h:G3 w b c r A n k) (hb:w'.heap[b]?=w.heap[b]?) (hs:w.heap.size≤w'.heap.size):G3 w' b c r A n k :=
 ⟨(World.cell?_of_block hb).trans h.c0,(World.cell?_of_block hb).trans h.c1,(World.cell?_of_block hb).trans h.c2,Nat.lt_of_lt_of_le h.lt hs⟩
theorem G3.below (h:G3 w b c r A n k) (hb:Below w.heap.size w w'):G3 w' b c r A n k:=h.kept (hb.block _ h.lt) hb.size
theorem G3.grown (h:G3 w b c r A n k) {row:Option Nat} (hg:w.grownBy w' row) (hne:row≠some b):G3 w' b c r A n k:=h.kept (hg.block _ h.lt fun e=>hne e.symm) hg.size
end
theorem gSizeMay_any (c r:Int) (w:World):Calls Tryz.prog 81 #[.int .i64 c,.int .i64 r] w fun e w'=>e=.returned (.bool (sizeOk c r))∧w=w':=by
 obtain ⟨B,hB⟩:∃ B,sizeOk c r=B:=⟨_,rfl⟩
 rw [hB]
 have HB:=Lib.hid hB
 unfold sizeOk at hB
 by_cases h1:1≤c
 · by_cases h2:c≤80
   · by_cases h3:1≤r
     · by_cases h4:r≤24
       · obtain rfl:B=true:=by rw [← hB];simp;omega
         clear hB
         go_enter Tryz.func81,Tryz.ntmps81
         go_wp2_with fail
         go_ret
         exact ⟨rfl,rfl⟩
       · obtain rfl:B=false:=by rw [← hB];simp;omega
         clear hB
         have h5:24<r:=by omega
         go_enter Tryz.func81,Tryz.ntmps81
         go_wp2_with fail
         go_ret
         exact ⟨rfl,rfl⟩
     · obtain rfl:B=false:=by rw [← hB];simp;omega
       clear hB
       have h5:r<1:=by omega
       go_enter Tryz.func81,Tryz.ntmps81
       go_wp2_with fail
       go_ret
       exact ⟨rfl,rfl⟩
   · obtain rfl:B=false:=by rw [← hB];simp;omega
     clear hB
     have h5:80<c:=by omega
     go_enter Tryz.func81,Tryz.ntmps81
     go_wp2_with fail
     go_ret
     exact ⟨rfl,rfl⟩
 · obtain rfl:B=false:=by rw [← hB];simp;omega
   clear hB
   have h5:c<1:=by omega
   go_enter Tryz.func81,Tryz.ntmps81
   go_wp2_with fail
   go_ret
   exact ⟨rfl,rfl⟩
theorem Vs.seg {w:World} {ad:Addr} {n:Nat} {L:List Ce} (h:Vs ceV w (some ad) n L) {a c:Nat} (hac:a+c≤n):Vs ceV w (some (ad.add (a*6))) c ((L.drop a).take c):=by
 have h1:=h.cut ceV_len (k:=a) (c:=n+1) (by omega) (by omega)
 rw [if_neg (by omega)] at h1
 exact h1.front ceV_len (by omega)
theorem rowOf_any {w:World} {ad:Addr} {n k c r y:Nat} (hn:n=r*c) (hy:y<r) (hc1:1≤c) (hc:c≤80) (hr:r≤24) (hk:n≤k) :
  Calls Tryz.prog 83 #[.agg (gV c r (some ad) n k),.int .i64 y] w fun e w'=>e=.returned (.slice (some (ad.add (y*c*6))) c c)∧Below w.heap.size w w':=by
 obtain ⟨a,ha⟩:∃ a:Nat,y*c=a:=⟨_,rfl⟩
 have hac:a+c≤n:=by rw [← ha,hn];exact row_fits hy
 have hn2:n≤1920:=by rw [hn];exact Nat.mul_le_mul hr hc
 have h1:(y:Int)*(c:Int)=(a:Int):=by rw [← Int.natCast_mul,ha]
 have h2:((y:Int)+1)*(c:Int)=((a+c:Nat):Int):=by rw [Int.add_mul,h1];omega
 have w1:IntKind.i64.wrap ((y:Int)*(c:Int))=(a:Int):=by rw [h1];rw [IntKind.wrap_i64];omega
 have w3:IntKind.i64.wrap (((y:Int)+1)*(c:Int))=((a+c:Nat):Int):=by rw [h2];rw [IntKind.wrap_i64];omega
 have w2:IntKind.i64.wrap ((y:Int)+1)=(y:Int)+1:=by rw [IntKind.wrap_i64];omega
 rw [ha]
 have k1:(a:Int)≤((a+c:Nat):Int):=by omega
 have k2:((a+c:Nat):Int)≤(k:Int):=by omega
 have k3:¬ (k=a):=by omega
 have k4:a+c≤k:=by omega
 clear hn ha hr
 go_enter Tryz.func83,Tryz.ntmps83
 unfold gV
 go_wp2_with fail
 go_quiet (fail)
 go_wp2_with fail
 go_ret
 exact ⟨(by show Ending.returned (.slice _ (a+c-a) (a+c-a))=_;rw [Nat.add_sub_cancel_left]),belowN ((Below.refl _ _).alloc (Nat.le_refl _) _) _⟩
open Go.RowKit
theorem retFB {a:Bool} (h:a=false):Ending.returned (.bool false)=.returned (.bool a):=by rw [h]
theorem retTB {a:Bool} (h:a=true):Ending.returned (.bool true)=.returned (.bool a):=by rw [h]
theorem gridMay_sz {c r:Int} {L:List Ce} (h:sizeOk c r=false):gridMay c r L=false:=(gridMay_not _ _ _).2 fun h2=>by rw [h2.1] at h;cases h
theorem gridMay_len {c r:Int} {L:List Ce} (h:L.length≠r.toNat*c.toNat):gridMay c r L=false:=(gridMay_not _ _ _).2 fun h2=>h h2.2.1
theorem gridMay_row {c r y:Nat} {L:List Ce} (hy:y<r) (h:rowMay (rowAt c L y)=false):gridMay (c:Int) (r:Int) L=false:=(gridMay_not _ _ _).2 fun h2=>by
 have h3:=h2.2.2.ok y (by simpa using hy)
 rw [Int.toNat_natCast,Int.toNat_natCast,rowsS_at _ hy] at h3
 exact (rowMay_not _).1 h h3
theorem gridMay_all {c r:Nat} {L:List Ce} (h1:1≤c) (h2:c≤80) (h3:1≤r) (h4:r≤24) (hl:L.length=r*c) (h:∀ y,y<r→rowMay (rowAt c L y)=true):gridMay (c:Int) (r:Int) L=true :=
 (gridMay_iff _ _ _).2 ⟨by unfold sizeOk;simp;omega,by simpa using hl,by
  rw [Int.toNat_natCast,Int.toNat_natCast]
  exact ⟨rows_box hl,h1,h2,h3,h4,fun y hy=>by rw [rowsS_at _ hy];exact (rowMay_iff _).1 (h y hy)⟩⟩
set_option maxHeartbeats 1600000 in
theorem gMay_any {w:World} {A:Option Addr} {n k:Nat} {c r:Int} {L:List Ce} (h:Vs ceV w A n L) (hT:Tabs w) (hk:n≤k) (hn:n≤9223372036854775807) :
  Calls Tryz.prog 54 #[.agg (gV c r A n k)] w fun e w'=>e=.returned (.bool (gridMay c r L))∧Below w.heap.size w w':=by
 obtain ⟨w0,hw0⟩:∃ w0,w0=w.alloc (.cells (gV c r A n k) 58):=⟨_,rfl⟩
 obtain ⟨b,hbe⟩:∃ b,b=w.heap.size:=⟨_,rfl⟩
 have H:=Lib.hid (show Vs ceV w0 A n L∧Tabs w0∧G3 w0 b c r A n k∧Below w.heap.size w w0 from by
  rw [hw0,hbe]
  exact ⟨h.alloc _,hT.below ((Below.refl _ _).alloc (Nat.le_refl _) _) (Nat.le_refl _),g3_new w c r A n k _,(Below.refl _ _).alloc (Nat.le_refl _) _⟩)
 have HL:=Lib.hid h.len
 clear h hT
 obtain ⟨c0,c1,c2,_⟩:=H.out.2.2.1
 unfold gV at hw0
 obtain ⟨S,hS⟩:∃ S,sizeOk c r=S:=⟨_,rfl⟩
 have HS:=Lib.hid hS
 clear hS
 cases S
 · have HD:=Lib.hid (gridMay_sz (L:=L) HS.out)
   go_enter Tryz.func54,Tryz.ntmps54
   unfold gV
   go_upto_region 1 with fail
   rw [← hw0,← hbe]
   clear hw0 hbe
   go_wp2_with fail
   refine (gSizeMay_any c r w0).mono ?_
   rintro e w1 ⟨rfl,rfl⟩
   rw [HS.out]
   go_wp2_with fail
   go_ret
   exact ⟨retFB HD.out,H.out.2.2.2⟩
 · obtain ⟨c',rfl⟩:∃ c':Nat,c=(c':Int):=⟨c.toNat,by have:=HS.out;unfold sizeOk at this;simp at this;omega⟩
   obtain ⟨r',rfl⟩:∃ r':Nat,r=(r':Int):=⟨r.toNat,by have:=HS.out;unfold sizeOk at this;simp at this;omega⟩
   have h24:r'≤24:=by have:=HS.out;unfold sizeOk at this;simp at this;omega
   have hb4:1≤c'∧c'≤80∧1≤r'∧r'≤24:=by have:=HS.out;unfold sizeOk at this;simp at this;omega
   obtain ⟨m,hm⟩:∃ m:Nat,r'*c'=m:=⟨_,rfl⟩
   have hm2:m≤1920:=by rw [← hm];exact Nat.mul_le_mul hb4.2.2.2 hb4.2.1
   have w1:(c':Int)*(r':Int)=(m:Int):=by rw [← Int.natCast_mul,Nat.mul_comm,hm]
   have w2:IntKind.i64.wrap ((c':Int)*(r':Int))=(m:Int):=by rw [w1,IntKind.wrap_i64];omega
   have HB4:=Lib.hid (And.intro hb4 hm)
   clear hb4 hm
   by_cases hnm:n=m
   · subst hnm
     go_enter Tryz.func54,Tryz.ntmps54
     unfold gV
     go_upto_region 1 with fail
     rw [← hw0,← hbe]
     clear hw0 hbe
     go_wp2_with fail
     refine (gSizeMay_any _ _ w0).mono ?_
     rintro e w1 ⟨rfl,rfl⟩
     rw [HS.out]
     go_wp2_with fail
     clear c0 c1 c2 w1 w2
     go_loopw [23] (fun i wr=>∃ q:Nat,q≤r'∧i=.int .i64 q∧(∀ y,y<q→rowMay (rowAt c' L y)=true)∧Below w0.heap.size w0 wr) (fun i _=>r'-(intOf i).toNat)
     case atStart=>exact ⟨0,Nat.zero_le _,rfl,fun j hj=>absurd hj (by omega),Below.refl _ _⟩
     case round =>
      obtain ⟨q,hq,rfl,hall,hbw⟩:=hrel
      have X:=Lib.hid (show (∀ y,y<q→rowMay (rowAt c' L y)=true)∧Below w0.heap.size w0 wr∧Vs ceV wr A n L∧G3 wr b c' r' A n k from ⟨hall,hbw,H.out.1.below hbw,H.out.2.2.1.below hbw⟩)
      clear hall hbw
      by_cases hlt:q<r'
      · have hkl:(q:Int)<(r':Int):=by omega
        have hfit:=row_fits (c:=c') hlt
        rw [HB4.out.2] at hfit
        have h1c:=HB4.out.1.1
        obtain ⟨ad,rfl⟩:=H.out.1.addr (by omega)
        obtain ⟨c0,c1,c2,_⟩:=X.out.2.2.2
        go_wp2_with fail
        refine (rowOf_any HB4.out.2.symm hlt h1c HB4.out.1.2.1 HB4.out.1.2.2.2 hk).mono ?_
        rintro e w2 ⟨rfl,hb⟩
        have Y:=Lib.hid (show Below w0.heap.size w0 w2∧Vs ceV w2 (some ad) n L from ⟨X.out.2.1.trans (hb.mono X.out.2.1.size),X.out.2.2.1.below hb⟩)
        clear hb c0 c1 c2
        go_wp2_with fail
        refine (rowMay_any (Y.out.2.seg hfit) (H.out.2.1.below Y.out.1 (Nat.le_refl _)) (by omega)).mono ?_
        rintro e w3 ⟨rfl,hb⟩
        have Y2:=Lib.hid (Y.out.1.trans (hb.mono Y.out.1.size))
        clear hb
        obtain ⟨M,hM⟩:∃ M,rowMay ((L.drop (q*c')).take c')=M:=⟨_,rfl⟩
        rw [hM]
        have HM:=Lib.hid hM
        clear hM
        cases M
        · have HD:=Lib.hid (gridMay_row hlt HM.out)
          go_wp2_with fail
          go_ret
          exact ⟨retFB HD.out,H.out.2.2.2.trans (Y2.out.mono H.out.2.2.2.size)⟩
        · have HA:=Lib.hid (show ∀ y,y<q+1→rowMay (rowAt c' L y)=true from fun y hy=>by
           by_cases e:y=q
           · rw [e];exact HM.out
           · exact X.out.1 y (by omega))
          go_wp2_with fail
          go_roundw
          case rel=>exact ⟨q+1,by omega,by go_num,HA.out,Y2.out⟩
          case measure=>simp [intOf];omega
      · have HD:=Lib.hid (gridMay_all (L:=L) HB4.out.1.1 HB4.out.1.2.1 HB4.out.1.2.2.1 HB4.out.1.2.2.2 (by rw [HL.out,HB4.out.2]) (fun y hy=>X.out.1 y (by omega)))
        go_wp2_with fail
        go_ret
        exact ⟨retTB HD.out,H.out.2.2.2.trans (X.out.2.1.mono H.out.2.2.2.size)⟩
   · have hni:¬ ((n:Int)=(m:Int)):=by omega
     have HD:=Lib.hid (gridMay_len (c:=(c':Int)) (r:=(r':Int)) (L:=L) (by rw [Int.toNat_natCast,Int.toNat_natCast,HB4.out.2,HL.out];exact hnm))
     go_enter Tryz.func54,Tryz.ntmps54
     unfold gV
     go_upto_region 1 with fail
     rw [← hw0,← hbe]
     clear hw0 hbe
     go_wp2_with fail
     refine (gSizeMay_any _ _ w0).mono ?_
     rintro e w1 ⟨rfl,rfl⟩
     rw [HS.out]
     go_wp2_with fail
     go_ret
     exact ⟨retFB HD.out,H.out.2.2.2⟩
open Go.RowKit
set_option maxHeartbeats 800000 in
theorem gFill_any {w:World} {g o off m c:Nat} {L:List Ce} (p:Pn) (h:Rw ceV 43 w g L) (hl:o+m≤L.length) (hn:m≤1000000) (ho:off=o*6) :
  Calls Tryz.prog 106 #[.slice (some ⟨g,off,none⟩) m c,.agg (pnA p)] w (FillPost L o m g p w):=by
 obtain ⟨w0,hw0⟩:∃ w0,w0=w.alloc (.cells (pnA p) 41):=⟨_,rfl⟩
 have H:=Lib.hid (show Pen4 w0 w.heap.size p∧Rw ceV 43 w0 g L∧w.grownBy w0 (some g)∧g≠w.heap.size∧o+m≤L.length∧off=o*6 from by
  have hlt:=h.lt
  rw [hw0]
  exact ⟨pen4_new w p _,h.below ((Below.refl _ _).alloc (Nat.le_refl _) _),World.grownBy_alloc w _ _,by omega,hl,ho⟩)
 unfold pnA at hw0
 clear h hl ho
 go_enter Tryz.func106,Tryz.ntmps106
 unfold pnA
 go_wp2_with fail
 rw [← hw0]
 go_loopw [7] (fun i wr=>∃ k:Nat,k≤m∧i=.int .i64 k∧Rw ceV 43 wr g (overS L o (List.replicate k (blankS p)))∧w0.grownBy wr (some g)) (fun i _=>m-(intOf i).toNat)
 case atStart=>exact ⟨0,Nat.zero_le _,rfl,by rw [over_none];exact H.out.2.1,World.grownBy.refl _ _⟩
 case round =>
  obtain ⟨k,hk,rfl,hR,hg⟩:=hrel
  have X:=Lib.hid (And.intro hR hg)
  clear hR hg
  by_cases hlt:k<m
  · have hkl:(k:Int)<(m:Int):=by omega
    obtain ⟨c0,c1,c2,c3,_⟩:=H.out.1.grown X.out.2 (by have:=H.out.2.2.2.1;simp;exact this)
    go_wp2_with fail
    refine (blank_any p wr).mono ?_
    rintro e w1 ⟨rfl,hb⟩
    have hR:=X.out.1.below hb
    have Y:=Lib.hid (show w0.grownBy w1 (some g) from X.out.2.trans (grownBy_below hb))
    clear hb c0 c1 c2 c3
    go_wp2_with (refine wpList_store_V rfl 43 (.tmp 14) (.tmp 13) rfl ceV_len one_ce infoCe g _ (o+k) (blankS p) _ rfl (by have:=H.out.2.2.2.2.2;omega) rfl rfl 43 _ hR (by rw [overS_length (by rw [List.length_replicate];have:=H.out.2.2.2.2.1;omega)];have:=H.out.2.2.2.2.1;omega) ?_;intro w2 hR2 hg2;rw [over_next H.out.2.2.2.2.1 hlt] at hR2)
    have Y2:=Lib.hid (And.intro hR2 (Y.out.trans hg2))
    clear hR hR2 hg2 Y X
    go_wp2_with fail
    go_roundw
    case rel=>exact ⟨k+1,by omega,by go_num,Y2.out⟩
    case measure=>simp [intOf];omega
  · obtain rfl:k=m:=by omega
    go_wp2_with fail
    go_end0
    exact ⟨rfl,X.out.1,H.out.2.2.1.trans X.out.2⟩
open Go.RowKit
structure GR where
 c:Int
 r:Int
 A:Option Addr
 n:Nat
 k:Nat
def gRV (x:GR):List Value:=[.int .i64 x.c,.int .i64 x.r,.slice x.A x.n x.k]
theorem gRV_len (x:GR):(gRV x).length=3:=rfl
theorem one_g (L:List GR):∀ v∈rowV gRV L,v.oneCell'=true:=by
 induction L with
 | nil=>intro v hv;cases hv
 | cons c L ih =>
  intro v hv
  rcases List.mem_append.1 hv with hv | hv
  · simp only [gRV,List.mem_cons,List.not_mem_nil,or_false] at hv
    rcases hv with rfl | rfl | rfl<;>rfl
  · exact ih v hv
theorem infoG:(Tryz.prog.info? 58).map (·.size)=some 3:=by kernel_rfl
abbrev Gb (w:World) (b:Nat) (x:GR):Prop:=w.heap[b]?=some (.cells (gV x.c x.r x.A x.n x.k) 58 (0,0))
theorem gb_new (w:World) (x:GR):Gb (w.alloc (.cells (gV x.c x.r x.A x.n x.k) 58)) w.heap.size x:=heap_alloc_new w _
theorem Gb.lt {w:World} {b:Nat} {x:GR} (h:Gb w b x):b<w.heap.size:=(Array.getElem?_eq_some_iff.1 h).1
theorem Gb.g3 {w:World} {b:Nat} {x:GR} (h:Gb w b x):G3 w b x.c x.r x.A x.n x.k :=
 ⟨cell_of_row _ _ 0 _ _ _ h,cell_of_row _ _ 1 _ _ _ h,cell_of_row _ _ 2 _ _ _ h,h.lt⟩
theorem Gb.below {w w':World} {b:Nat} {x:GR} (h:Gb w b x) (hb:Below w.heap.size w w'):Gb w' b x:=(hb.block _ h.lt).trans h
theorem Gb.grown {w w':World} {b:Nat} {x:GR} (h:Gb w b x) {row:Option Nat} (hg:w.grownBy w' row) (hne:row≠some b):Gb w' b x:=(hg.block _ h.lt fun e=>hne e.symm).trans h
theorem Gb.rw {w:World} {b:Nat} {x:GR} (h:Gb w b x):Rw gRV 58 w b [x]:=⟨[],h⟩
theorem wpList_store_G {w:World} {ops:Array Oper} {rest:List Oper} {o:Oper} {a:Act} {Q:Exit→Act→World→Prop} (hgd:o.guard=none) (x y:Operand) (ho:o.op=.store 58 x y)
  (g:Nat) (old new:GR) (hx:a.eval x=.pointer (some ⟨g,0,none⟩)) (hy:a.eval y=.agg (gV new.c new.r new.A new.n new.k)) (hG:Gb w g old)
  (h:∀ w',Gb w' g new→w.grownBy w' (some g)→wpList Tryz.prog ops Q rest (a.put o.dst undef) w'):wpList Tryz.prog ops Q (o :: rest) a w:=by
 refine wpList_store_mid hgd 58 x y ho g 0 _ hx hy (hG.rw.there gRV_len (k:=0) (m:=1) (by simp)) infoG ?_ ?_
 · rw [Array.all_eq_true_iff_forall_mem]
   intro v hv
   exact one_g [new] v (by simpa [rowV,gRV,gV] using hv)
 · obtain ⟨e1,e2,e3,e4,e5,e6⟩:=setCells_row g 58 (gV new.c new.r new.A new.n new.k).toList 0 (gV old.c old.r old.A old.n old.k).toList w (by simpa using hG) (by simp [gV])
   refine h _ ?_ ⟨e4,e5,e6,by omega,fun i _ hne=>e2 i fun e=>hne (by rw [e])⟩
   unfold Gb
   rw [e1]
   rfl
theorem retG {fn:Func} {p:Tmp} (h:fn.results=#[.cell p 58]) {tmps:Array Value} {w:World} {b:Nat} {x:GR} (hG:Gb w b x) (hp:tmps.getD p undef=.pointer (some ⟨b,0,none⟩)) :
  (results fn tmps).run Tryz.prog w=.ok (.agg (gV x.c x.r x.A x.n x.k)) w:=results_cell_row h _ _ b 58 _ (0,0) _ hp hG Tryz.underlying58 rfl infoG
theorem retG2 {fn:Func} {p u:Tmp} (h:fn.results=#[.cell p 58,.tmp u]) {tmps:Array Value} {w:World} {b:Nat} {x:GR} {v:Value} (hG:Gb w b x) (hp:tmps.getD p undef=.pointer (some ⟨b,0,none⟩)) (hu:tmps.getD u undef=v) :
  (results fn tmps).run Tryz.prog w=.ok (.tuple #[.agg (gV x.c x.r x.A x.n x.k),v]) w:=by
 rw [results_cell_tmp h,hp,hu]
 simp [asAddr,run_loadVar_row w b 58 58 _ (0,0) _ hG Tryz.underlying58 rfl infoG]
def gr0:GR:=⟨0,0,none,0,0⟩
def MadeG (c r:Int) (L:List Ce) (w:World) (e:Ending) (w':World):Prop :=
 Below w.heap.size w w'∧∃ g k,e=.returned (.agg (gV c r (some ⟨g,0,none⟩) L.length k))∧w.heap.size≤g∧L.length≤k∧k≤maxLen∧Rw ceV 43 w' g L
def blankL (c r:Nat):List Ce:=List.replicate (c*r) (blankS pn0)
theorem alloc_size (w:World) (o:Obj):(w.alloc o).heap.size=w.heap.size+1:=by simp
theorem over_all {L M:List Ce} (h:M.length=L.length):overS L 0 M=M:=by
 unfold overS
 rw [List.take_zero,List.nil_append,Nat.zero_add,h,List.drop_length,List.append_nil]
set_option maxHeartbeats 1600000 in
theorem gBlank_any {w:World} {c r:Nat} (hc:c≤80) (hr:r≤24):Calls Tryz.prog 94 #[.int .i64 c,.int .i64 r] w (MadeG c r (blankL c r) w):=by
 obtain ⟨m,hm⟩:∃ m:Nat,c*r=m:=⟨_,rfl⟩
 have hm2:m≤1920:=by rw [← hm];exact Nat.mul_le_mul hc hr
 have w2:IntKind.i64.wrap ((c:Int)*(r:Int))=(m:Int):=by rw [← Int.natCast_mul,hm,IntKind.wrap_i64];omega
 unfold blankL
 rw [hm]
 have hmk:=make_any (P:=Tryz.prog) 22 Tryz.underlying22 ce0 ceV_len (by omega) (b8:=20) (by omega) infoCe3 m (by omega)
 clear hm
 obtain ⟨w3,hw3⟩:∃ w3,w3=((w.alloc (.cells (gV 0 0 none 0 0) 58)).alloc (.cells (rowV ceV (List.replicate m ce0)).toArray 43)).alloc (.cells (gV (c:Int) (r:Int) (some ⟨w.heap.size+1,0,none⟩) m m) 58):=⟨_,rfl⟩
 obtain ⟨g,hg⟩:∃ g,g=w.heap.size+1:=⟨_,rfl⟩
 have X:=Lib.hid (show Gb w3 w.heap.size gr0∧Rw ceV 43 w3 g (List.replicate m ce0)∧G3 w3 (g+1) c r (some ⟨g,0,none⟩) m m∧Below w.heap.size w w3∧g=w.heap.size+1 from by
  have b1:Below w.heap.size w (w.alloc (.cells (gV 0 0 none 0 0) 58)):=(Below.refl _ _).alloc (Nat.le_refl _) _
  have h1:=gb_new w gr0
  have h2:=made_rw (f:=ceV) (w.alloc (.cells (gV 0 0 none 0 0) 58)) 43 (List.replicate m ce0)
  have h3:=g3_new ((w.alloc (.cells (gV 0 0 none 0 0) 58)).alloc (.cells (rowV ceV (List.replicate m ce0)).toArray 43)) c r (some ⟨w.heap.size+1,0,none⟩) m m 58
  rw [alloc_size,alloc_size] at h3
  rw [alloc_size] at h2
  rw [hw3,hg]
  exact ⟨(h1.below ((Below.refl _ _).alloc (Nat.le_refl _) _)).below ((Below.refl _ _).alloc (Nat.le_refl _) _),h2.below ((Below.refl _ _).alloc (Nat.le_refl _) _),h3,(b1.alloc b1.size _).alloc (b1.alloc b1.size _).size _,rfl⟩)
 unfold gV at hw3
 go_enter Tryz.func94,Tryz.ntmps94
 go_upto_region 2 with fail
 rw [← hw3,← hg]
 clear hw3 hg hmk w2
 obtain ⟨c0,c1,c2,_⟩:=X.out.2.2.1
 go_wp2_with fail
 refine (gFill_any (o:=0) pn0 X.out.2.1 (by simp) (by omega) rfl).mono ?_
 rintro e w4 ⟨rfl,hR,hg⟩
 clear c0 c1 c2
 rw [over_all (by simp)] at hR
 have Y:=Lib.hid (show Rw ceV 43 w4 g (List.replicate m (blankS pn0))∧Gb w4 w.heap.size gr0∧Below w.heap.size w w4 from ⟨hR,X.out.1.grown hg (by have:=X.out.2.2.2.2;simp;omega),X.out.2.2.2.1.grown hg X.out.2.2.2.1.size (by intro k hk;injection hk with hk;have:=X.out.2.2.2.2;omega)⟩)
 obtain ⟨c0,c1,c2,_⟩:=X.out.2.2.1.grown hg (by simp)
 clear hR hg
 go_wp2_with (refine wpList_store_G rfl (.tmp 4) (.tmp 17) rfl w.heap.size gr0 ⟨c,r,some ⟨g,0,none⟩,m,m⟩ rfl rfl Y.out.2.1 ?_;intro w5 hG5 hg5)
 refine bodyPost_ret (retG Tryz.results94 hG5 rfl) rfl ?_
 have e:(List.replicate m (blankS pn0)).length=m:=by simp
 exact ⟨Y.out.2.2.grown hg5 Y.out.2.2.size (by intro k hk;injection hk with hk;omega),g,m,by rw [e],by have:=X.out.2.2.2.2;omega,by rw [e];exact Nat.le_refl _,by unfold maxLen;omega,Y.out.1.grown hg5 (by have:=X.out.2.2.2.2;simp;omega)⟩
def newS (c r:Int):GA:=if sizeOk c r=true then some (c.toNat,r.toNat,List.replicate r.toNat (blanksS c.toNat pn0)) else none
theorem blank_flat (c r:Nat):(List.replicate r (blanksS c pn0)).flatten=blankL c r:=by
 unfold blanksS blankL
 rw [List.flatten_replicate_replicate,Nat.mul_comm]
def NewPost (a:GA) (w:World) (e:Ending) (w':World):Prop :=
 (∀ c r LL,a=some (c,r,LL)→∃ v,e=.returned (.tuple #[v,.int .i64 0])∧MadeG (c:Nat) (r:Nat) LL.flatten w (.returned v) w')∧(a=none→e=.returned (.tuple #[.agg (gV 0 0 none 0 0),.int .i64 1])∧Below w.heap.size w w')
theorem NewPost.no {w:World} {e:Ending} {w':World} (h:e=.returned (.tuple #[.agg (gV 0 0 none 0 0),.int .i64 1])∧Below w.heap.size w w'):NewPost none w e w':=⟨fun _ _ _ e=>(by cases e),fun _=>h⟩
theorem NewPost.yes {w:World} {v:Value} {w':World} {c r:Nat} {LL:Rws} (h:MadeG c r LL.flatten w (.returned v) w'):NewPost (some (c,r,LL)) w (.returned (.tuple #[v,.int .i64 0])) w' :=
 ⟨fun _ _ _ e=>by injection e with e;injection e with e1 e;injection e with e2 e3;subst e1 e2 e3;exact ⟨v,rfl,h⟩,fun e=>(by cases e)⟩
theorem new_no {c r:Int} (h:sizeOk c r=false):newS c r=none:=by unfold newS;rw [if_neg (by rw [h];simp)]
theorem new_yes {c r:Nat} (h:sizeOk (c:Int) (r:Int)=true):newS (c:Int) (r:Int)=some (c,r,List.replicate r (blanksS c pn0)):=by unfold newS;rw [if_pos h];rfl
theorem size_nat {c r:Int} (h:sizeOk c r=true):∃ c' r':Nat,c=(c':Int)∧r=(r':Int)∧1≤c'∧c'≤80∧1≤r'∧r'≤24:=by
 unfold sizeOk at h
 have h4:=of_decide_eq_true h
 exact ⟨c.toNat,r.toNat,by omega,by omega,by omega,by omega,by omega,by omega⟩
set_option maxHeartbeats 800000 in
theorem gNew_any {c r:Int} (w:World):Calls Tryz.prog 75 #[.int .i64 c,.int .i64 r] w (NewPost (newS c r) w):=by
 obtain ⟨S,hS⟩:∃ S,sizeOk c r=S:=⟨_,rfl⟩
 cases S
 · rw [new_no hS]
   have HS:=Lib.hid hS
   clear hS
   go_enter Tryz.func75,Tryz.ntmps75
   go_wp2_with fail
   refine (gSizeMay_any c r _).mono ?_
   rintro e w1 ⟨rfl,rfl⟩
   rw [HS.out]
   have G0:=Lib.hid (gb_new w gr0)
   go_wp2_with (refine wpList_store_G rfl (.tmp 4) (.tmp 10) rfl w.heap.size gr0 gr0 rfl rfl G0.out ?_;intro w5 hG5 hg5)
   refine bodyPost_ret (retG2 Tryz.results75 hG5 rfl rfl) rfl ?_
   exact NewPost.no ⟨rfl,((Below.refl _ _).alloc (Nat.le_refl _) _).grown hg5 (by simp) (by intro k hk;injection hk with hk;omega)⟩
 · have HS:=Lib.hid hS
   obtain ⟨c',r',rfl,rfl,h1,h2,h3,h4⟩:=size_nat hS
   rw [new_yes hS]
   clear hS
   go_enter Tryz.func75,Tryz.ntmps75
   go_wp2_with fail
   refine (gSizeMay_any _ _ _).mono ?_
   rintro e w1 ⟨rfl,rfl⟩
   rw [HS.out]
   have G0:=Lib.hid (gb_new w gr0)
   go_wp2_with fail
   refine (gBlank_any h2 h4).mono ?_
   rintro e w2 ⟨hb,g,k,rfl,hg,hk1,hk2,hR⟩
   have X:=Lib.hid (And.intro hb (And.intro hR (G0.out.below hb)))
   clear hb hR
   go_wp2_with (refine wpList_store_G rfl (.tmp 4) (.tmp 13) rfl w.heap.size gr0 ⟨c',r',some ⟨g,0,none⟩,(blankL c' r').length,k⟩ rfl rfl X.out.2.2 ?_;intro w5 hG5 hg5)
   refine bodyPost_ret (retG2 Tryz.results75 hG5 rfl rfl) rfl ?_
   refine NewPost.yes ?_
   rw [blank_flat]
   have h0:w.heap.size<g:=by simp at hg;omega
   exact ⟨(((Below.refl _ _).alloc (Nat.le_refl _) _).trans (X.out.1.mono (by simp))).grown hg5 (Nat.le_trans (by simp) X.out.1.size) (by intro k hk;injection hk with hk;omega),g,k,rfl,by omega,hk1,hk2,X.out.2.1.grown hg5 (by simp;omega)⟩
open Go.RowKit
theorem below1 (w:World) (o:Obj):Below w.heap.size w (w.alloc o):=(Below.refl _ _).alloc (Nat.le_refl _) _
open Go.RowKit
theorem blanks_box (c r:Nat) (p:Pn):Box c r (List.replicate r (blanksS c p)):=by
 refine ⟨by simp,fun y hy=>?_⟩
 rw [lAt_lt (by simpa using hy),List.getElem_replicate,blanks_len]
open Go.RowKit
theorem eqBB (a b:ByteArray):(a.toList == b.toList)=decide (a=b):=by
 rw [Bool.eq_iff_iff]
 simp only [ByteArray.toList_eq,beq_iff_eq,decide_eq_true_eq]
 exact ⟨fun h=>WideShapes.bytes_inj h,fun h=>by rw [h]⟩
theorem eqBB_yes {a b:ByteArray} (h:(a.toList == b.toList)=true):a=b:=by rw [eqBB] at h;exact of_decide_eq_true h
theorem eqBB_no {a b:ByteArray} (h:(a.toList == b.toList)=false):a≠b:=by rw [eqBB] at h;exact of_decide_eq_false h
theorem empB (x:ByteArray):x.toList.isEmpty=decide (x=eT):=by
 rw [Bool.eq_iff_iff,decide_eq_true_eq,List.isEmpty_iff,ByteArray.toList_eq]
 exact ⟨fun h=>WideShapes.bytes_inj h,fun h=>by rw [h];rfl⟩
theorem emp_yes {x:ByteArray} (h:x=eT):(!x.toList.isEmpty)=false:=by rw [empB,decide_eq_true h];rfl
theorem emp_no {x:ByteArray} (h:x≠eT):(!x.toList.isEmpty)=true:=by rw [empB,decide_eq_false h];rfl
def stV (s:ByteArray):List Value:=[.string s]
theorem stV_len (s:ByteArray):(stV s).length=1:=rfl
theorem rowT_len (L:List ByteArray):(rowV stV L).length=L.length:=by rw [rowV_len stV_len,Nat.mul_one]
theorem one_st (L:List ByteArray):∀ v∈rowV stV L,v.oneCell'=true:=by
 induction L with
 | nil=>intro v hv;cases hv
 | cons c L ih =>
  intro v hv
  rcases List.mem_append.1 hv with hv | hv
  · rw [List.mem_singleton.1 hv];rfl
  · exact ih v hv
theorem rowT_map (L:List ByteArray):rowV stV L=L.map Value.string:=by
 induction L with
 | nil=>rfl
 | cons c L ih=>rw [rowV,ih];rfl
theorem rowT_get {L:List ByteArray} {k:Nat} (h:k<L.length):(rowV stV L)[k]?=some (.string (sAt L k)):=by
 rw [rowT_map,List.getElem?_map,getElem?_sAt h]
 rfl
theorem Vs.str {w:World} {ad:Addr} {n:Nat} {L:List ByteArray} (h:Vs stV w (some ad) n L) {k:Nat} (hk:k<n):w.cell? (ad.add k)=some (.string (sAt L k)) :=
 h.news _ _ (rowT_get (by rw [h.len];exact hk))
theorem infoTx:(Tryz.prog.info? 9).map (fun i=>(i.zero,i.size,i.bytes))=some (some (.string eT),1,16):=by kernel_rfl
structure Tx (base:Nat) (w:World) (A:Option Addr) (n c:Nat) (L:List ByteArray):Prop where
 len:L.length=n
 le:n≤c
 max:c≤maxLen
 own:w.ownsRow base 9 1 (.slice A n c) n (rowV stV L)
section
variable {base:Nat} {w w':World} {A:Option Addr} {n c:Nat} {L:List ByteArray}
theorem Tx.mk' (h:w.ownsRow base 9 1 (.slice A n c) n (rowV stV L)):Tx base w A n c L:=by
 obtain ⟨A',c',e,h1,h2⟩:=own_shape h
 injection e with e1 e2 e3
 subst e1 e3
 exact ⟨by have:=h.1;rw [rowT_len] at this;omega,h1,h2,h⟩
theorem Tx.vs (h:Tx base w A n c L):Vs stV w A n L:=own_vs h.len h.own
theorem Tx.lower {B:Nat} (h:Tx base w A n c L) (hB:B≤base):Tx B w A n c L:=⟨h.len,h.le,h.max,own_base h.own hB⟩
theorem Tx.nil (base:Nat) (w:World):Tx base w none 0 0 []:=⟨rfl,Nat.le_refl _,by unfold maxLen;omega,World.ownsRow_nil _ _ _ _⟩
theorem Tx.keep (h:Tx base w A n c L) (hs:∀ g,base≤g→g<w.heap.size→w'.heap[g]?=w.heap[g]?):Tx base w' A n c L:=by
 refine ⟨h.len,h.le,h.max,h.own.1,?_⟩
 rcases h.own.2 with h1 | ⟨g,cap,cur,hv,hb,hg,hr⟩
 · exact .inl h1
 · exact .inr ⟨g,cap,cur,hv,hb,(hs g hb (Array.getElem?_eq_some_iff.1 hg).1).trans hg,hr⟩
theorem Tx.below (h:Tx base w A n c L) (hb:Below w.heap.size w w'):Tx base w' A n c L:=h.keep fun g _ hg=>hb.block g hg
theorem Tx.blk (h:Tx base w A n c L) (hn:0<n):∃ g,A=Option.some ⟨g,0,none⟩∧base≤g∧g<w.heap.size∧(∀ k,w.frozen? ⟨g,k,none⟩=false):=by
 obtain ⟨g,e,hb,_,_,hR⟩:=own_some hn h.own
 exact ⟨g,e,hb,hR.lt,fun k=>hR.free k⟩
theorem Tx.grown (h:Tx base w A n c L) {row:Option Nat} (hg:w.grownBy w' row) (hne:∀ g,A=Option.some ⟨g,0,none⟩→row≠Option.some g):Tx base w' A n c L:=by
 refine ⟨h.len,h.le,h.max,h.own.1,?_⟩
 rcases h.own.2 with h1 | ⟨g,cap,cur,hv,hb,hgg,hr⟩
 · exact .inl h1
 · injection hv with hA
   exact .inr ⟨g,cap,cur,by rw [hA];simp_all,hb,(hg.block g (Array.getElem?_eq_some_iff.1 hgg).1 (fun e=>hne g hA e.symm)).trans hgg,hr⟩
theorem Tx.ownB (h:Tx base w A n c L):∀ k,(Value.slice A n c).ownBlock=Option.some k→base≤k:=by
 intro k hk
 rcases h.own.2 with ⟨h1,_⟩ | ⟨g,cap,cur,hv,hb,_⟩
 · rw [h1] at hk
   cases hk
 · rw [hv] at hk
   injection hk with hk
   rw [← hk]
   exact hb
end
theorem litT (w:World) (u:ByteArray):Vs stV (w.alloc (.cells #[.string u] 9)) (some ⟨w.heap.size,0,none⟩) 1 [u]:=(made_rw (f:=stV) w 9 [u]).vs
theorem wpList_appT (w:World) {ops:Array Oper} {rest:List Oper} {o:Oper} {a:Act} {Q:Exit→Act→World→Prop} (hgd:o.guard=none) (s x:Operand)
  (ho:o.op=.call { callee:=.builtin .append,args:=#[s,x],argTypes:=#[23,23] }) (base:Nat)
  (A0:Option Addr) (n c0:Nat) (L:List ByteArray) (hs:a.eval s=.slice A0 n c0) (hown:Tx base w A0 n c0 L)
  (A:Option Addr) (m c k:Nat) (hk:n+m=k) (M:List ByteArray) (hx:a.eval x=.slice A m c) (hr:Vs stV w A m M) (h63:k≤1000000) (hbase:base≤w.heap.size)
  (h:∀ A' c' w',Tx base w' A' k c' (L ++ M)→w.grownBy w' (Value.slice A0 n c0).ownBlock→wpList Tryz.prog ops Q rest (a.put o.dst (.slice A' k c')) w'):wpList Tryz.prog ops Q (o :: rest) a w :=
 wpList_app_V w hgd s x _ ho stV_len one_st base 9 (.string eT) 16 (by omega) Tryz.underlying23 infoTx rfl (by omega) _ n L hs hown.own A m c k hk M hx hr h63 hbase
  fun A' c' w' h1 h2=>h A' c' w' (Tx.mk' h1) h2
open Go.RowKit
structure AcR where
 a:AcS
 P:Option Addr
 np:Nat
 cp:Nat
 T:Option Addr
 nt:Nat
 ct:Nat
open Go.RowKit
theorem row_same {w w':World} {base:Nat} {e:TypeId} {size:Nat} {v:Value} {n:Nat} {xs:List Value} (h:w.ownsRow base e size v n xs) (hs:∀ g,v.ownBlock=some g→w'.heap[g]?=w.heap[g]?):w'.ownsRow base e size v n xs:=by
 refine ⟨h.1,?_⟩
 rcases h.2 with h1 | ⟨g,cap,cur,hv,hb,hg,hr⟩
 · exact .inl h1
 · exact .inr ⟨g,cap,cur,hv,hb,(hs g (by rw [hv];rfl)).trans hg,hr⟩
open Go.RowKit
def Dc (w:World) (d:Nat) (o:List Int):Prop:=∃ s:ByteArray,w.heap[d]?=some (.cells #[.string s] 152 (0,0))∧sL s=o
theorem Dc.lt {w:World} {d:Nat} {o:List Int} (h:Dc w d o):d<w.heap.size:=by obtain ⟨s,h1,_⟩:=h;exact (Array.getElem?_eq_some_iff.1 h1).1
theorem Dc.below {w w':World} {d:Nat} {o:List Int} (h:Dc w d o) (hb:Below w.heap.size w w'):Dc w' d o:=by
 have hl:=h.lt
 obtain ⟨s,h1,h2⟩:=h
 exact ⟨s,(hb.block d hl).trans h1,h2⟩
theorem sL_empty:sL (⟨#[]⟩:ByteArray)=[]:=rfl
theorem new_any' (w:World):Calls Tryz.prog 95 #[] w fun e w'=>e=.returned (.pointer (some ⟨w.heap.size,0,none⟩))∧Dc w' w.heap.size []∧Below w.heap.size w w':=by
 go_enter Tryz.func95,Tryz.ntmps95
 go_wp2_with fail
 go_ret
 exact ⟨rfl,⟨_,heap_alloc_new _ _,sL_empty⟩,(Below.refl _ _).alloc (Nat.le_refl _) _⟩
theorem beg_not_whole {L:List Int} (h:begS L=true):wholeS L=none:=by
 rcases L with _ | ⟨a,_ | ⟨b,_ | ⟨c,_ | ⟨d,t⟩⟩⟩⟩<;>simp [begS] at h<;>simp [wholeS]<;>(intros;omega)
theorem feed_more {o:List Int} {b:Int} (h:begS (o ++ [b])=true):feedS o b=([],o ++ [b]):=by simp [feedS,beg_not_whole h,h]
theorem feed_done {o:List Int} {b r:Int} (h:wholeS (o ++ [b])=some r):feedS o b=([r],[]):=by simp [feedS,h]
theorem feed_bad {b:Int} (h:wholeS [b]=none) (h':begS [b]=false):feedS [] b=([65533],[]):=by simp [feedS,h,h']
theorem feed_fall {o:List Int} {b:Int} (h:wholeS (o ++ [b])=none) (h':begS (o ++ [b])=false) (ho:o≠[]):feedS o b=(65533 :: (feed1 b).1,(feed1 b).2):=by simp [feedS,h,h',ho]
end Go.Proofs.YtikhknnhmnopbaaGreatDoor
