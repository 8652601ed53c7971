/-
  Part 13 of what the laws of emul want: UtfVals, EmulTitle.
-/
import Derived.Lib.ConvBytes
import Derived.Test.YtlcipgdnpilkfaaGreatDoorPo02
import Derived.Test.YtlcipgdnpilkfaaGreatDoorPo10
import Derived.Test.YtlcipgdnpilkfaaGreatDoorPo11
import Derived.Test.YtlcipgdnpilkfaaGreatDoorPo12
namespace Go.Proofs.YtlcipgdnpilkfaaGreatDoor
open Go.RowKit
theorem utfValid_any {w:World} {A:Option Addr} {n c:Nat} {zs:List Int} (hT:Tabs w) (hs:Sb w A n zs) (h8:U8s zs) (hc:n≤c) (hn:n≤100000) :
  Calls Tryz.prog 136 #[.slice A n c] w fun e w'=>e=.returned (.bool (validS zs))∧Below w.heap.size w w':=by
 have H:=Lib.hid (valid8_any hT hs h8 hc hn)
 clear hT hs h8 hc hn
 obtain ⟨V,hV⟩:∃ V,validS zs=V:=⟨_,rfl⟩
 rw [hV] at H ⊢
 go_enter Tryz.func136,Tryz.ntmps136
 go_wp2_with fail
 refine H.out.mono ?_
 rintro e w1 ⟨rfl,hb1⟩
 go_wp2_with fail
 go_ret
 exact ⟨rfl,hb1⟩
open Go.RowKit
theorem fold_few:∀ (l o:List Int),(foldS o l).length≤2*l.length+1
 | [],o=>by
  show (endS o).length≤_
  unfold endS
  split<;>simp
 | b :: t,o=>by
  have h1:=feedS_len o b
  have h2:=fold_few t (feedS o b).2
  show ((feedS o b).1 ++ foldS (feedS o b).2 t).length≤_
  rw [List.length_append,List.length_cons]
  omega
theorem encAll_len':∀ l:List Int,(encAll l).length≤4*l.length
 | []=>by simp [encAll]
 | r :: l=>by
  have h1:=(encS_len r).2
  have h2:=encAll_len' l
  rw [encAll_cons,List.length_append,List.length_cons]
  omega
theorem conv_runes {w:World} {base:Nat} {v:Value} {l:List Int} (h:w.ownsRow base 21 1 v l.length (l.map (Value.int .i32))) :
  (convert 72 9 v).run Tryz.prog w=.ok (.string (runesBytes l)) w:=by
 obtain ⟨A,c,rfl,_,_⟩:=own_shape h
 have hI:=Ik.own h
 cases A with
 | none =>
  have h0:l.length=0:=by
   rcases Nat.eq_zero_or_pos l.length with h0 | h0
   · exact h0
   · obtain ⟨ad,e,_⟩:=hI.at_ h0;cases e
  obtain rfl:=List.eq_nil_of_length_eq_zero h0
  exact run_convert_runes_nil w _ _ _ 0 c Tryz.underlying72 Tryz.underlying21 Tryz.underlying9
 | some ad =>
  have h1:=run_convert_runes (P:=Tryz.prog) w 72 9 21 ad l.length c l (Nat.le_refl _) Tryz.underlying72 Tryz.underlying21 Tryz.underlying9 (fun j hj=>by
   obtain ⟨ad',e,_,hc⟩:=hI.at_ (by omega)
   injection e with e
   rw [e]
   exact hc j hj)
  rw [List.take_length] at h1
  exact h1
theorem str_bytes (w:World) (s:ByteArray) :
  ∃ (c2:Nat) (w2:World),(convert 9 36 (.string s)).run Tryz.prog w=.ok (.slice (some ⟨w.heap.size,0,none⟩) s.size c2) w2∧Below w.heap.size w w2∧Sb w2 (some ⟨w.heap.size,0,none⟩) s.size (sL s)∧s.size≤c2:=by
 have h1:=grownCap_ge w s.size 0 5
 refine ⟨_,_,Lib.run_convert_string_bytes w 9 36 5 s Tryz.underlying9 Tryz.underlying36 Tryz.underlying5,⟨rfl,rfl,rfl,?_,fun j hj=>Lib.bytesWorld_at_old w _ s j hj⟩,⟨sL_len s,fun _=>⟨_,rfl,?_,fun k hk=>?_⟩⟩,h1⟩
 · rw [Lib.bytesWorld_size];omega
 · rw [Lib.bytesWorld_size];simp
 · rw [addHead,Lib.bytesWorld_cell w _ s k hk,getD_lt (by rw [sL_len];exact hk)]
   have e:s.data.toList.getD k 0=s.data.toList[k]'(by simpa using hk):=by simp [List.getD,hk]
   rw [e]
   simp [sL]
theorem wide_filter {l:List Int}:∀ r∈l.filter (fun r=>decide (widthS r > 0)),widthS r > 0:=fun r hr=>by
 have:=(List.mem_filter.1 hr).2
 simpa using this
set_option maxHeartbeats 3200000 in
set_option maxRecDepth 100000 in
theorem titleOf_any {w:World} {A:Option Addr} {n c:Nat} {zs:List Int} (hT:Tabs w) (hs:Sb w A n zs) (h8:U8s zs) (hn:n≤10000) :
  Calls Tryz.prog 118 #[.slice A n c] w fun e w'=>∃ s,e=.returned (.string s)∧sL s=titleF [] (foldS [] zs)∧Below w.heap.size w w':=by
 have HR:=Lib.hid (runes_any (c:=c) hT hs h8 (by omega))
 have HT:=Lib.hid hT
 have HL:=Lib.hid (show (foldS [] zs).length≤100000 from by have:=fold_few zs [];have:=hs.len;omega)
 clear hT hs h8
 go_enter Tryz.func118,Tryz.ntmps118
 go_wp2_with fail
 refine HR.out.mono ?_
 rintro e w1 ⟨A1,n1,c1,rfl,hown,hb⟩
 obtain ⟨R,hR⟩:∃ R,foldS [] zs=R:=⟨_,rfl⟩
 rw [hR] at hown HL
 obtain rfl:n1=R.length:=by have:=hown.1;simpa using this.symm
 have H1:=Lib.hid (And.intro (Ik.own hown) (And.intro hb (HT.out.below hb (Nat.le_refl _))))
 clear hown hb
 have hR5:(R.length:Int)≤100000:=by have:=HL.out;omega
 have HRR:=Lib.hid hR
 clear hR
 go_wp2_with fail
 go_loopw [3,12] (fun v i wr=>∃ (k:Nat) (M:List Int),k≤R.length∧i=.int .i64 k∧M=(R.take k).filter (fun r=>decide (widthS r > 0))∧wr.ownsRow w1.heap.size 21 1 v M.length (M.map (Value.int .i32))∧Below w1.heap.size w1 wr) (fun _ i _=>R.length-(intOf i).toNat)
 case atStart=>exact ⟨0,[],Nat.zero_le _,rfl,rfl,World.ownsRow_nil _ _ _ _,Below.refl _ _⟩
 case round =>
  obtain ⟨k,M,hk,rfl,hM,hown,hb⟩:=hrel
  have X:=Lib.hid (And.intro hM (And.intro hown hb))
  clear hM hown hb
  by_cases hlt:k<R.length
  · obtain ⟨ad,rfl,_,hcl⟩:=(H1.out.1.below X.out.2.2).at_ (by omega)
    have hcell:=hcl k hlt
    clear hcl
    have hkl:(k:Int)<(R.length:Int):=by omega
    obtain ⟨z,hz⟩:∃ z,R.getD k 0=z:=⟨_,rfl⟩
    rw [hz] at hcell
    have HS:=Lib.hid (filter_snoc hlt (fun r=>decide (widthS r > 0)))
    rw [hz,← X.out.1] at HS
    clear hz
    go_wp2_with fail
    refine (width_any z (H1.out.2.2.below X.out.2.2 (Nat.le_refl _))).mono ?_
    rintro e w3 ⟨rfl,hb3⟩
    have Y:=Lib.hid (And.intro (ownI_below X.out.2.1 hb3) (X.out.2.2.trans (hb3.mono X.out.2.2.size)))
    clear hb3 hcell
    obtain ⟨W,hW⟩:∃ W,widthS z=W:=⟨_,rfl⟩
    rw [hW] at HS
    rw [hW]
    clear hW
    by_cases hw:0<W
    · rw [if_pos (by simpa using hw)] at HS
      have hml:M.length≤k:=by rw [X.out.1];have:=List.length_filter_le (fun r=>decide (widthS r > 0)) (R.take k);rw [List.length_take] at this;omega
      have HML:=Lib.hid (show M.length+1≤1000000 from by have:=HL.out;omega)
      clear hml
      go_wp2_with (refine wpList_appI _ rfl (.tmp 19) (.tmp 21) 72 rfl w1.heap.size 21 .i32 4 (by omega) Tryz.underlying72 info32 u3 M.length _ rfl (ownI_below Y.out.1 ((Below.refl _ _).alloc (Nat.le_refl _) _)) (some ⟨w3.heap.size,0,none⟩) 1 1 (M.length+1) rfl [z] rfl (Ik.one _ _ _ _) HML.out (by have:=Y.out.2.size;simp [World.size_alloc];omega) ?_)
      intro A' c' w4 hown4 hg4
      have Z:=Lib.hid (show w4.ownsRow w1.heap.size 21 1 (.slice A' (M.length+1) c') (M ++ [z]).length ((M ++ [z]).map (Value.int .i32))∧Below w1.heap.size w1 w4 from ⟨by simpa using hown4,(Y.out.2.alloc Y.out.2.size _).grown hg4 (by have:=Y.out.2.size;simp [World.size_alloc];omega) (fun q hq=>(Y.out.1.lt q hq).1)⟩)
      clear hown4 hg4
      go_wp2_with fail
      go_roundw
      case rel=>exact ⟨k+1,M ++ [z],by omega,by go_num,HS.out.symm,Z.out.1,Z.out.2⟩
      case measure=>simp [intOf];omega
    · rw [if_neg (by simpa using hw),List.append_nil] at HS
      go_wp2_with fail
      go_roundw
      case rel=>exact ⟨k+1,M,by omega,by go_num,HS.out.symm,Y.out.1,Y.out.2⟩
      case measure=>simp [intOf];omega
  · have e:R.take k=R:=List.take_of_length_le (by omega)
    have hM:=X.out.1
    rw [e] at hM
    have hcv:=conv_runes X.out.2.1
    have HB:=Lib.hid (H1.out.2.1.trans (X.out.2.2.mono H1.out.2.1.size))
    have HW:=Lib.hid (show (∀ r∈M,widthS r > 0)∧titleF [] R=titleF [] M∧Tabs wr from ⟨by rw [hM];exact wide_filter,by rw [hM];exact title_filter R [],H1.out.2.2.below X.out.2.2 (Nat.le_refl _)⟩)
    have hsL:=runes_utf M
    have hsz:(runesBytes M).size=(encAll M).length:=by rw [← hsL,sL_len]
    have hml:M.length≤100000:=by rw [hM];have:=List.length_filter_le (fun r=>decide (widthS r > 0)) R;have:=HL.out;omega
    have hbig:=encAll_len' M
    generalize runesBytes M=s at hcv hsL hsz
    have HS:=Lib.hid (And.intro hsL hsz)
    have HBG:=Lib.hid (show s.size≤400000 from by omega)
    clear hsL hsz hM e hml hbig X
    go_wp2_with fail
    clear hlt
    obtain ⟨it,hit⟩:∃ it,it=wr.heap.size:=⟨_,rfl⟩
    have I0:It (wr.iter s 0) it s 0:=by rw [hit];exact World.iter_heap wr s 0
    have B0:Below wr.heap.size wr (wr.iter s 0):=(Below.refl _ _).alloc (Nat.le_refl _) _
    have HI:=Lib.hid hit
    clear hit hcv
    go_loopw [7] (fun _ w4=>∃ (k pos:Nat),It w4 it s pos∧TlSt M k pos∧Below wr.heap.size wr w4) (fun _ w4=>s.size-w4.iterPos it)
    case atStart=>exact ⟨0,0,I0,TlSt.start M,B0⟩
    case round =>
     clear I0 B0
     obtain ⟨j,pos,hi,hst,hbw⟩:=hrel
     have X:=Lib.hid (And.intro hi (And.intro hst hbw))
     clear hi hst hbw
     by_cases hp:pos<s.size
     · obtain ⟨w5,hi2,hg2,hz2,hnx⟩:=X.out.1.next hp
       obtain ⟨e1,e2⟩:=dec_at s pos hp
       have hj:j<M.length:=X.out.2.1.more.1 (by rw [← HS.out.2];exact hp)
       obtain ⟨n1,n2,n3⟩:=X.out.2.1.next HW.out.1 hj
       rw [HS.out.1,n1] at e1 e2
       rw [e1,HI.out] at hnx
       rw [e2] at hi2
       have hes:=enc_utf (M.getD j 0)
       have hel:=encS_len (M.getD j 0)
       have hps:pos+(encS (M.getD j 0)).length≤s.size:=by
        have h1:=X.out.2.1.drop.1
        have h2:=congrArg List.length h1
        have h3:M.drop j=M.getD j 0 :: M.drop (j+1):=by rw [getD_lt hj];exact List.drop_eq_getElem_cons hj
        rw [h3,encAll_cons,List.length_append,List.length_drop,← HS.out.2] at h2
        omega
       generalize M.getD j 0=z at hnx hi2 n1 n2 n3 hes hel hps e1 e2
       have hes2:(Utf8.encode z).size=(encS z).length:=by rw [← hes,sL_len]
       generalize (encS z).length=m at hi2 n1 n2 n3 hel hps hes2 e2
       have HN:=Lib.hid (And.intro n2 (And.intro n3 (And.intro hi2 (And.intro (X.out.2.2.grown hg2 X.out.2.2.size (fun k hk=>by cases hk;have:=HI.out;omega)) (And.intro hel hps)))))
       have HE:=Lib.hid hes2
       have hip:=X.out.1.pos
       have HIP:=Lib.hid hip
       have hf:=X.out.2.1.fit
       have k0:wrap64 ((pos:Int)+(m:Int))=(pos:Int)+(m:Int):=by unfold wrap64;omega
       have k1:IntKind.i64.wrap ((pos:Int)+(m:Int))=(pos:Int)+(m:Int):=by clear k0;rw [IntKind.wrap_i64];omega
       have hesz:((Utf8.encode z).size:Int)=(m:Int):=by rw [hes2]
       have hpi:(pos:Int)≤(s.size:Int):=by omega
       clear n1 n2 n3 hi2 hg2 hz2 e1 e2 hes hel hps hes2 hip hf
       by_cases hgt:(64:Int)<(pos:Int)+(m:Int)
       · go_wp2_with fail
         go_ret
         refine ⟨s.extract 0 pos,rfl,?_,HB.out.trans (HN.out.2.2.2.1.mono HB.out.size)⟩
         rw [HRR.out,sL_take,HS.out.1,X.out.2.1.drop.2,HW.out.2.1,HN.out.1 (by omega)]
       · go_wp2_with fail
         go_roundw
         case rel=>exact ⟨j+1,pos+m,HN.out.2.2.1,HN.out.2.1 (by omega),HN.out.2.2.2.1⟩
         case measure=>rw [HIP.out,HN.out.2.2.1.pos];have:=HN.out;omega
     · have hdn:=X.out.1.done hp
       rw [HI.out] at hdn
       have hj:¬ j<M.length:=fun hj=>hp (by rw [HS.out.2];exact X.out.2.1.more.2 hj)
       have E:=Lib.hid (show sL s=titleF [] R from by rw [HS.out.1,HW.out.2.1,X.out.2.1.done hj])
       clear hj
       go_wp2_with fail
       go_ret
       exact ⟨s,rfl,by rw [HRR.out];exact E.out,HB.out.trans (X.out.2.2.mono HB.out.size)⟩
structure PosSt (ls:List Int) (k pos:Nat):Prop where
 le:k≤ls.length
 at_:pos=(encAll (ls.take k)).length
theorem PosSt.start (ls:List Int):PosSt ls 0 0:=⟨Nat.zero_le _,rfl⟩
theorem PosSt.drop {ls:List Int} {k pos:Nat} (h:PosSt ls k pos):(encAll ls).drop pos=encAll (ls.drop k):=by
 rw [encAll_split ls k,h.at_]
 exact List.drop_left
theorem PosSt.next {ls:List Int} {k pos:Nat} (h:PosSt ls k pos) (hm:∀ r∈ls,mayS r=true) (hk:k<ls.length) :
  decS ((encAll ls).drop pos)=(ls.getD k 0,(encS (ls.getD k 0)).length)∧PosSt ls (k+1) (pos+(encS (ls.getD k 0)).length)∧pos+(encS (ls.getD k 0)).length≤(encAll ls).length:=by
 have hmay:mayS (ls.getD k 0)=true:=hm _ (by rw [getD_lt hk];exact List.getElem_mem hk)
 have hd:ls.drop k=ls.getD k 0 :: ls.drop (k+1):=by rw [getD_lt hk];exact List.drop_eq_getElem_cons hk
 have ht:ls.take (k+1)=ls.take k ++ [ls.getD k 0]:=by rw [List.take_add_one,List.getElem?_eq_getElem hk,getD_lt hk];rfl
 refine ⟨?_,⟨hk,?_⟩,?_⟩
 · rw [h.drop,hd,encAll_cons]
   unfold decS
   rw [head_enc hmay]
 · rw [ht,encAll_snoc,List.length_append,h.at_]
 · have h2:=congrArg List.length h.drop
   rw [hd,encAll_cons,List.length_append,List.length_drop] at h2
   have:=(encS_len (ls.getD k 0)).1
   omega
theorem PosSt.more {ls:List Int} {k pos:Nat} (h:PosSt ls k pos):pos<(encAll ls).length↔k<ls.length:=by
 rw [encAll_split ls k,List.length_append,← h.at_]
 constructor
 · intro h1
   refine Classical.byContradiction fun h2=>?_
   rw [List.drop_eq_nil_of_le (by omega)] at h1
   simp [encAll] at h1
 · intro h1
   rw [List.drop_eq_getElem_cons h1,encAll_cons,List.length_append]
   have:=(encS_len ls[k]).1
   omega
def tMay (l:List Int):Bool:=decide (l.length≤64) && validS l && (foldS [] l).all fun r=>decide (widthS r≠0)
theorem valid_runes {l:List Int} (h:validS l=true):encAll (foldS [] l)=l∧∀ r∈foldS [] l,mayS r=true:=by
 have h1:encAll (foldS [] l)=l:=by unfold validS at h;exact of_decide_eq_true h
 refine ⟨h1,fun r hr=>?_⟩
 have h2:=fold_encAll (foldS [] l)
 rw [h1] at h2
 rw [h2] at hr
 obtain ⟨z,_,rfl⟩:=List.mem_map.1 hr
 exact may_fix z
set_option maxHeartbeats 3200000 in
set_option maxRecDepth 100000 in
theorem titleMay_any {w:World} (s:ByteArray) (hT:Tabs w) (hsz:s.size≤140737488351232) :
  Calls Tryz.prog 64 #[.string s] w fun e w'=>e=.returned (.bool (tMay (sL s)))∧Below w.heap.size w w':=by
 have hl:=sL_len s
 by_cases hgt:(64:Int)<(s.size:Int)
 · have E:=Lib.hid (show tMay (sL s)=false from by unfold tMay;rw [decide_eq_false (by omega)];rfl)
   clear hT
   go_enter Tryz.func64,Tryz.ntmps64
   go_wp2_with fail
   go_ret
   exact ⟨by rw [E.out];rfl,Below.refl _ _⟩
 · obtain ⟨c2,w2,hrun,hb2,hs2,hc2⟩:=str_bytes w s
   have HS:=Lib.hid (And.intro hs2 hb2)
   have HT:=Lib.hid (hT.below hb2 (Nat.le_refl _))
   have HV:=Lib.hid (utfValid_any (c:=c2) HT.out hs2 (sL_b s) hc2 (by omega))
   have hls:=Lib.hid hl
   obtain ⟨V,hV⟩:∃ V,validS (sL s)=V:=⟨_,rfl⟩
   rw [hV] at HV
   have HVV:=Lib.hid hV
   clear hT hb2 hs2 hc2 hV hl
   go_enter Tryz.func64,Tryz.ntmps64
   go_wp2_with fail
   refine HV.out.mono ?_
   rintro e w3 ⟨rfl,hb3⟩
   have H3:=Lib.hid (HS.out.2.trans (hb3.mono HS.out.2.size))
   have T3:=Lib.hid (HT.out.below hb3 (Nat.le_refl _))
   clear hb3 hrun
   cases V
   · have E:=Lib.hid (show tMay (sL s)=false from by unfold tMay;rw [HVV.out,Bool.and_false,Bool.false_and])
     go_wp2_with fail
     go_ret
     exact ⟨by rw [E.out];rfl,H3.out⟩
   · obtain ⟨h1,h2⟩:=valid_runes HVV.out
     obtain ⟨l,hll⟩:∃ l,foldS [] (sL s)=l:=⟨_,rfl⟩
     rw [hll] at h1 h2
     have HE:=Lib.hid (show tMay (sL s)=l.all fun r=>decide (widthS r≠0) from by unfold tMay;rw [HVV.out,hll,decide_eq_true (by rw [hls.out];omega)];rfl)
     have HL:=Lib.hid (And.intro h1 h2)
     have hsz2:s.size=(encAll l).length:=by rw [h1,hls.out]
     have HSZ:=Lib.hid hsz2
     clear h1 h2 hll hsz2
     go_wp2_with fail
     obtain ⟨it,hit⟩:∃ it,it=w3.heap.size:=⟨_,rfl⟩
     have I0:It (w3.iter s 0) it s 0:=by rw [hit];exact World.iter_heap w3 s 0
     have B0:Below w3.heap.size w3 (w3.iter s 0):=(Below.refl _ _).alloc (Nat.le_refl _) _
     have HI:=Lib.hid hit
     clear hit
     go_loopw [4] (fun _ wr=>∃ (k pos:Nat),It wr it s pos∧PosSt l k pos∧(∀ j,j<k→widthS (l.getD j 0)≠0)∧Below w3.heap.size w3 wr) (fun _ wr=>s.size-wr.iterPos it)
     case atStart=>exact ⟨0,0,I0,PosSt.start l,fun j hj=>absurd hj (by omega),B0⟩
     case round =>
      clear I0 B0
      obtain ⟨j,pos,hi,hst,hall,hbw⟩:=hrel
      have X:=Lib.hid (And.intro hi (And.intro hst (And.intro hall hbw)))
      clear hi hst hall hbw
      by_cases hp:pos<s.size
      · obtain ⟨w5,hi2,hg2,hz2,hnx⟩:=X.out.1.next hp
        obtain ⟨e1,e2⟩:=dec_at s pos hp
        have hj:j<l.length:=X.out.2.1.more.1 (by rw [← HSZ.out];exact hp)
        obtain ⟨n1,n2,n3⟩:=X.out.2.1.next HL.out.2 hj
        rw [← HL.out.1,n1] at e1 e2
        rw [e1,HI.out] at hnx
        rw [e2] at hi2
        have hel:=(encS_len (l.getD j 0)).1
        obtain ⟨z,hz⟩:∃ z,l.getD j 0=z:=⟨_,rfl⟩
        have HZZ:=Lib.hid (And.intro hz hj)
        rw [hz] at hnx hi2 n1 n2 n3 hel
        have HN:=Lib.hid (And.intro n2 (And.intro n3 (And.intro hi2 (And.intro (X.out.2.2.2.grown hg2 X.out.2.2.2.size (fun k hk=>by cases hk;have:=HI.out;omega)) hel))))
        have HIP:=Lib.hid X.out.1.pos
        clear n1 n2 n3 hi2 hg2 hz2 e1 e2 hel hz hj
        go_wp2_with fail
        refine (width_any z (T3.out.below HN.out.2.2.2.1 (Nat.le_refl _))).mono ?_
        rintro e w6 ⟨rfl,hb6⟩
        have Y:=Lib.hid (And.intro (HN.out.2.2.1.below hb6) (HN.out.2.2.2.1.trans (hb6.mono HN.out.2.2.2.1.size)))
        clear hb6 hnx
        obtain ⟨W,hW⟩:∃ W,widthS z=W:=⟨_,rfl⟩
        rw [hW]
        by_cases h0:W=0
        · have E:=Lib.hid (show tMay (sL s)=false from by
           rw [HE.out,List.all_eq_false]
           exact ⟨z,by rw [← HZZ.out.1,getD_lt HZZ.out.2];exact List.getElem_mem _,by rw [hW,h0];decide⟩)
          clear hW
          subst h0
          go_wp2_with fail
          go_ret
          exact ⟨by rw [E.out];rfl,H3.out.trans (Y.out.2.mono H3.out.size)⟩
        · have HALL:=Lib.hid (show ∀ i,i<j+1→widthS (l.getD i 0)≠0 from fun i hi=>by
           by_cases e:i=j
           · rw [e,HZZ.out.1,hW];exact h0
           · exact X.out.2.2.1 i (by omega))
          have b0:(W == 0)=false:=beq_eq_false_iff_ne.2 h0
          clear hW
          go_wp2_with fail
          go_roundw
          case rel=>exact ⟨j+1,_,Y.out.1,HN.out.1,HALL.out,Y.out.2⟩
          case measure=>rw [HIP.out,Y.out.1.pos];have:=HN.out;have:=HSZ.out;omega
      · have hdn:=X.out.1.done hp
        rw [HI.out] at hdn
        have hj:¬ j<l.length:=fun hj=>hp (by rw [HSZ.out];exact X.out.2.1.more.2 hj)
        have E:=Lib.hid (show tMay (sL s)=true from by
         rw [HE.out,List.all_eq_true]
         intro r hr
         obtain ⟨i,hi,rfl⟩:=List.getElem_of_mem hr
         have:=X.out.2.2.1 i (by omega)
         rw [getD_lt hi] at this
         simpa using this)
        clear hj
        go_wp2_with fail
        go_ret
        exact ⟨by rw [E.out];rfl,H3.out.trans (X.out.2.2.2.mono H3.out.size)⟩
end Go.Proofs.YtlcipgdnpilkfaaGreatDoor
