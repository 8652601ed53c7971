/-
  Part 39 of what the laws of emul want: EmulShelf, EmulCutB, EmulCmd.
-/
import Derived.Shelf.Bytes.SlIndexSmall
import Derived.Shelf.Bytes.SlIndexAt
import Derived.Shelf.Bytes.SlCut
import Derived.Test.YtlcipgdnpilkfaaGreatDoorProg
import Derived.Lib.IndexLaws
import Derived.WalkKit
import Derived.Laws.Strings
import Derived.Test.YtlcipgdnpilkfaaGreatDoorPm01
import Derived.Test.YtlcipgdnpilkfaaGreatDoorPm13
import Derived.Test.YtlcipgdnpilkfaaGreatDoorPm15
import Derived.Test.YtlcipgdnpilkfaaGreatDoorPm38
namespace Go.Proofs
open Go.Shelf
def Tryz.lays185_ren:Go.Shelf.Ren:=⟨fun | 185=>187 | 187=>232 | 115=>233 | 253=>234 | 224=>235 | 254=>236 | 255=>264 | 291=>265 | n=>n,fun | 37=>36 | 3=>3 | 4=>4 | 0=>0 | 5=>5 | 46=>217 | 9=>9 | 146=>243 | 51=>27 | n=>n,fun | 1=>1 | n=>n⟩
theorem Tryz.lays185:Go.Proofs.Lays.n185 Tryz.prog Tryz.lays185_ren:={
 mixed:=by kernel_rfl
 f115:=Tryz.func233.trans (congrArg some (by kernel_rfl))
 f185:=Tryz.func187.trans (congrArg some (by kernel_rfl))
 f187:=Tryz.func232.trans (congrArg some (by kernel_rfl))
 f224:=Tryz.func235.trans (congrArg some (by kernel_rfl))
 f253:=Tryz.func234.trans (congrArg some (by kernel_rfl))
 f254:=Tryz.func236.trans (congrArg some (by kernel_rfl))
 f255:=Tryz.func264.trans (congrArg some (by kernel_rfl))
 f291:=Tryz.func265.trans (congrArg some (by kernel_rfl))
 t0:=Tryz.underlying0
 a0:=Tryz.isAgg0
 z0:=Tryz.sizeOf0
 v0:=Tryz.zeroValue0
 t3:=Tryz.underlying3
 a3:=Tryz.isAgg3
 z3:=Tryz.sizeOf3
 v3:=Tryz.zeroValue3
 t4:=Tryz.underlying4
 a4:=Tryz.isAgg4
 z4:=Tryz.sizeOf4
 v4:=Tryz.zeroValue4
 t5:=Tryz.underlying5
 a5:=Tryz.isAgg5
 z5:=Tryz.sizeOf5
 v5:=Tryz.zeroValue5
 t9:=Tryz.underlying9
 a9:=Tryz.isAgg9
 z9:=Tryz.sizeOf9
 v9:=Tryz.zeroValue9
 t37:=Tryz.underlying36
 a37:=Tryz.isAgg36
 z37:=Tryz.sizeOf36
 v37:=Tryz.zeroValue36
 t46:=Tryz.underlying217
 a46:=Tryz.isAgg217
 z46:=Tryz.sizeOf217
 v46:=Tryz.zeroValue217
 t51:=Tryz.underlying27
 a51:=Tryz.isAgg27
 z51:=Tryz.sizeOf27
 v51:=Tryz.zeroValue27
 t146:=Tryz.underlying243
 a146:=Tryz.isAgg243
 z146:=Tryz.sizeOf243
 v146:=Tryz.zeroValue243
 g1:=by kernel_rfl }
open Go.RowKit Go.Lib in
theorem Tryz.bytes_Index_one_nil (b2 o2 d:Nat) (cv:Int) (w:World) (hc2:w.cell? ⟨b2,o2,none⟩=some (.int .u8 cv)) :
  Calls Tryz.prog 187 #[.slice none 0 0,.slice (some ⟨b2,o2,none⟩) 1 d] w fun e w'=>e=.returned (.int .i64 (-1))∧w'=w:=Any.bytes_Index_one_nil Tryz.lays185 b2 o2 d cv w hc2
open Go.RowKit Go.Lib in
theorem Tryz.bytes_Index_one_at (a:Addr) (n c b2 o2 d:Nat) (xs:List Int) (cv:Int) (w:World) (hx:xs.length=n) (hc:∀ i,i<n→w.cell? (a.add i)=some (.int .u8 (xs.getD i 0))) (hc2:w.cell? ⟨b2,o2,none⟩=some (.int .u8 cv)) :
  Calls Tryz.prog 187 #[.slice (some a) n c,.slice (some ⟨b2,o2,none⟩) 1 d] w fun e w'=>e=.returned (.int .i64 (Lib.indexByte (Lib.bytesOf xs) cv.toNat.toUInt8))∧w'=w:=Any.bytes_Index_one_at Tryz.lays185 a n c b2 o2 d xs cv w hx hc hc2
def Tryz.laysSlT4_ren:Go.Shelf.Ren:=⟨fun | 4=>117 | 5=>187 | 6=>232 | 7=>233 | 8=>234 | 9=>235 | 10=>236 | 11=>264 | 12=>265 | n=>n,fun | 22=>36 | 4=>4 | 3=>3 | 0=>0 | 5=>5 | 29=>217 | 9=>9 | 31=>243 | 30=>27 | n=>n,fun | 0=>1 | n=>n⟩
theorem Tryz.laysSlT4:Go.Proofs.SlLaysT.n4 Tryz.prog Tryz.laysSlT4_ren:={
 mixed:=by kernel_rfl
 f4:=Tryz.func117.trans (congrArg some (by kernel_rfl))
 f5:=Tryz.func187.trans (congrArg some (by kernel_rfl))
 f6:=Tryz.func232.trans (congrArg some (by kernel_rfl))
 f7:=Tryz.func233.trans (congrArg some (by kernel_rfl))
 f8:=Tryz.func234.trans (congrArg some (by kernel_rfl))
 f9:=Tryz.func235.trans (congrArg some (by kernel_rfl))
 f10:=Tryz.func236.trans (congrArg some (by kernel_rfl))
 f11:=Tryz.func264.trans (congrArg some (by kernel_rfl))
 f12:=Tryz.func265.trans (congrArg some (by kernel_rfl))
 t0:=Tryz.underlying0
 a0:=Tryz.isAgg0
 z0:=Tryz.sizeOf0
 v0:=Tryz.zeroValue0
 t3:=Tryz.underlying3
 a3:=Tryz.isAgg3
 z3:=Tryz.sizeOf3
 v3:=Tryz.zeroValue3
 t4:=Tryz.underlying4
 a4:=Tryz.isAgg4
 z4:=Tryz.sizeOf4
 v4:=Tryz.zeroValue4
 t5:=Tryz.underlying5
 a5:=Tryz.isAgg5
 z5:=Tryz.sizeOf5
 v5:=Tryz.zeroValue5
 t9:=Tryz.underlying9
 a9:=Tryz.isAgg9
 z9:=Tryz.sizeOf9
 v9:=Tryz.zeroValue9
 t22:=Tryz.underlying36
 a22:=Tryz.isAgg36
 z22:=Tryz.sizeOf36
 v22:=Tryz.zeroValue36
 t29:=Tryz.underlying217
 a29:=Tryz.isAgg217
 z29:=Tryz.sizeOf217
 v29:=Tryz.zeroValue217
 t30:=Tryz.underlying27
 a30:=Tryz.isAgg27
 z30:=Tryz.sizeOf27
 v30:=Tryz.zeroValue27
 t31:=Tryz.underlying243
 a31:=Tryz.isAgg243
 z31:=Tryz.sizeOf243
 v31:=Tryz.zeroValue243
 g0:=by kernel_rfl }
theorem Tryz.bytes_Cut_of (p1 p2:Option Addr) (n c1 k c2:Nat) (i:Int) (w:World) (hcap:n≤c1) (hlo:-1≤i) (hroom:0≤i→i+k≤n) (hn:n≤4611686018427387904) (hidx:Calls Tryz.prog 187 #[.slice p1 n c1,.slice p2 k c2] w fun e w'=>e=.returned (.int .i64 i)∧∃ q,w'=w.drewN q) :
  Calls Tryz.prog 117 #[.slice p1 n c1,.slice p2 k c2] w fun e w'=>e=.returned (Lib.cutV p1 n c1 k i)∧∃ q,w'=w.drewN q:=Any.bytes_Cut_of Tryz.laysSlT4 p1 p2 n c1 k c2 i w hcap hlo hroom hn hidx
end Go.Proofs
namespace Go.Proofs.YtlcipgdnpilkfaaGreatDoor
open Go.RowKit
set_option maxRecDepth 1000000 in
theorem indexByte_nilc (c:Nat) (cv:Int) (w:World):Calls Tryz.prog 232 #[.slice none 0 c,.int .u8 cv] w fun e w'=>e=.returned (.int .i64 (-1))∧w'=w:=by
 go_enter Tryz.func232,Tryz.ntmps232
 go_wp2_with fail
 rw [run_callFunc_extern Tryz.func264 (by kernel_rfl) (by kernel_rfl) (by kernel_rfl) (e:=Extern.BytealgIndexByte.indexByte) (by kernel_rfl),Lib.run_indexByteNil w 0 c cv]
 simp only [Result.andThen]
 rw [Oper.upon_value]
 go_wp2_with fail
 go_ret
 exact ⟨rfl,rfl⟩
set_option maxHeartbeats 2000000 in
set_option maxRecDepth 1000000 in
theorem index_nilc (c b2 o2 d:Nat) (cv:Int) (w:World) (hc2:w.cell? ⟨b2,o2,none⟩=some (.int .u8 cv)) :
  Calls Tryz.prog 187 #[.slice none 0 c,.slice (some ⟨b2,o2,none⟩) 1 d] w fun e w'=>e=.returned (.int .i64 (-1))∧w'=w:=by
 go_enter Tryz.func187,Tryz.ntmps187
 go_wp2_with fail
 refine (indexByte_nilc c cv w).mono ?_
 rintro e w' ⟨rfl,rfl⟩
 go_wp2_with fail
 go_ret
 exact ⟨rfl,rfl⟩
theorem idx_is:∀ {zs:List Int},U8s zs→Lib.indexByte (Lib.bytesOf zs) (59:Int).toNat.toUInt8=match zs.idxOf? 59 with | some k=>(k:Int) | none=>-1
 | [],_=>rfl
 | z :: zs,h=>by
  have hz:=h z (by simp)
  have ih:=idx_is (zs:=zs) fun y hy=>h y (by simp [hy])
  have hb:Lib.bytesOf (z :: zs)=z.toNat.toUInt8 :: Lib.bytesOf zs:=rfl
  have hiff:(z.toNat.toUInt8 == (59:Int).toNat.toUInt8)=decide (z=59):=by
   rw [Bool.eq_iff_iff]
   simp only [beq_iff_eq,decide_eq_true_eq]
   constructor
   · intro e
     have:=congrArg UInt8.toNat e
     simp at this
     omega
   · rintro rfl;rfl
  rw [hb]
  unfold Lib.indexByte
  rw [hiff,ih]
  by_cases h9:z=59
  · subst h9
    simp [List.idxOf?,List.findIdx?_cons]
  · have e:(z :: zs).idxOf? 59=(zs.idxOf? 59).map (·+1):=by
     simp [List.idxOf?,List.findIdx?_cons,h9]
    rw [e,decide_eq_false h9]
    cases zs.idxOf? 59 with
    | none=>simp
    | some k =>
     simp only [Option.map_some,Bool.false_eq_true,if_false]
     rw [if_neg (by simp)]
     rfl
theorem idx_lt {zs:List Int} {k:Nat} (h:zs.idxOf? 59=some k):k<zs.length:=by
 simp [List.idxOf?,List.findIdx?_eq_some_iff_findIdx_eq] at h
 omega
def CutP (A:Option Addr) (n c:Nat) (zs:List Int) (w:World) (e:Ending) (w':World):Prop :=
 (∃ q,w'=w.drewN q)∧((zs.idxOf? 59=none∧e=.returned (.tuple #[.slice A n c,.slice none 0 0,.bool false])) ∨
  ∃ (k:Nat) (A':Option Addr),zs.idxOf? 59=some k∧k<n∧e=.returned (.tuple #[.slice A k c,.slice A' (n-(k+1)) (c-(k+1)),.bool true])∧Sb w A k (zs.take k)∧Sb w A' (n-(k+1)) (zs.drop (k+1)))
theorem cutB_any {w:World} {A:Option Addr} {n c:Nat} {zs:List Int} (hs:Sb w A n zs) (h8:U8s zs) (hn:n≤1000000) (hc:n≤c) (b2 d:Nat) (hc2:w.cell? ⟨b2,0,none⟩=some (.int .u8 59)) :
  Calls Tryz.prog 117 #[.slice A n c,.slice (some ⟨b2,0,none⟩) 1 d] w (CutP A n c zs w):=by
 have hl:=hs.len
 have hidx:Calls Tryz.prog 187 #[.slice A n c,.slice (some ⟨b2,0,none⟩) 1 d] w fun e w'=>e=.returned (.int .i64 (match zs.idxOf? 59 with | some k=>(k:Int) | none=>-1))∧∃ q,w'=w.drewN q:=by
  cases A with
  | none =>
   have h0:n=0:=by
    rcases Nat.eq_zero_or_pos n with h0 | h0
    · exact h0
    · obtain ⟨ad,e,_⟩:=hs.at_ h0;cases e
   subst h0
   obtain rfl:=List.eq_nil_of_length_eq_zero hl
   refine (index_nilc c b2 0 d 59 w hc2).mono ?_
   rintro e w' ⟨rfl,rfl⟩
   exact ⟨rfl,0,rfl⟩
  | some ad =>
   refine (Tryz.bytes_Index_one_at ad n c b2 0 d zs 59 w hl (fun i hi=>?_) hc2).mono ?_
   · obtain ⟨ad',e,_,hcl⟩:=hs.at_ (by omega)
     injection e with e
     rw [e]
     exact hcl i hi
   · rintro e w' ⟨rfl,rfl⟩
     exact ⟨by rw [idx_is h8],0,rfl⟩
 cases hI:zs.idxOf? 59 with
 | none =>
  rw [hI] at hidx
  refine (Tryz.bytes_Cut_of A (some ⟨b2,0,none⟩) n c 1 d (-1) w hc (by omega) (by omega) (by omega) hidx).mono ?_
  rintro e w' ⟨rfl,hq⟩
  exact ⟨hq,.inl ⟨hI,rfl⟩⟩
 | some k =>
  rw [hI] at hidx
  have hk:=idx_lt hI
  rw [hl] at hk
  refine (Tryz.bytes_Cut_of A (some ⟨b2,0,none⟩) n c 1 d (k:Int) w hc (by omega) (by omega) (by omega) hidx).mono ?_
  rintro e w' ⟨rfl,hq⟩
  obtain ⟨ad,rfl⟩:∃ ad,A=some ad:=by obtain ⟨ad,e,_⟩:=hs.at_ (by omega);exact ⟨ad,e⟩
  refine ⟨hq,.inr ⟨k,_,hI,hk,?_,hs.front (by omega),hs.cut (by omega) hc⟩⟩
  unfold Lib.cutV Lib.fromV
  rw [if_pos (by omega),Int.toNat_natCast]
open Go.RowKit
section
variable {B:Nat} {w:World} {g:Nat} {x:CT}
theorem sep_cell (w:World) (fr:Nat × Nat):(w.alloc (.cells #[.int .u8 59] 5 fr)).cell? ⟨w.heap.size,0,none⟩=some (.int .u8 59):=by
 rw [cell_of_row _ _ 0 _ _ _ (heap_alloc_new w _)]
 rfl
theorem ba_is (l:List Int):strOfNums l=baS l:=by
 apply ByteArray.ext
 rw [← Array.toList_inj]
 show (strOfNums l).data.toList=_
 rw [strOfNums_data]
 rfl
theorem str_ne {l m:List Int} (h8:U8s l) (hm:U8s m) (h:l≠m):strOfNums l≠strOfNums m:=fun e=>h (by rw [← sL_nums h8,← sL_nums hm,e])
theorem Cz.titled (h:Cz B w g x) {w1 w':World} (hb:Below w.heap.size w w1) {s:ByteArray} {l:List Int} (hs:sL s=titleF [] l) (hr:RwG w1 g ((ctV x).set 109 (.string s)) w'):CzTo B g x { x.t with title:=titleF [] l } w w' { x with t:={ x.t with title:=titleF [] l },ttl:=s }:=by
 have hz:=h.below hb
 refine ((CzTo.refl h).below hb).trans (hr.fin hz (y:={ x with t:={ x.t with title:=titleF [] l },ttl:=s }) ?_ ⟨rfl,rfl,rfl,rfl,rfl,rfl,rfl,rfl,rfl,rfl,rfl,rfl,rfl,rfl,rfl,rfl,rfl,hs⟩ { h.ok with title:=title_ok l })
 exact ctV_setTl h.ok.tabs 0 (.string s) rfl rfl rfl
set_option maxRecDepth 100000 in
set_option maxHeartbeats 3200000 in
theorem command_any (hT:Tabs w) (h:Cz B w g x) (hl:LkOk x.t) {A:Option Addr} {n c:Nat} {zs:List Int} (hs:Sb w A n zs) (h8:U8s zs) (hn:n≤256) (hc:n≤c):Calls Tryz.prog 55 #[.pointer (some ⟨g,0,none⟩),.slice A n c] w (CzP B g x (x.t.osc zs) w):=by
 have HZ:=Lib.hid h
 have HT:=Lib.hid hT
 have HS:=Lib.hid (And.intro hs (And.intro h8 (And.intro hn hc)))
 have HL:=Lib.hid hl
 have kc:=fun (w:World) (C:Array Value) (n c:Nat)=>Lib.run_convert_bytes_const (P:=Tryz.prog) w 36 5 C n c Tryz.underlying36 Tryz.underlying5
 generalize hO:x.t.osc zs=T'
 have HO:=Lib.hid hO
 obtain ⟨w1,hw1⟩:∃ w1,w1=w.alloc (.cells #[.int .u8 59] 5 (1,2)):=⟨_,rfl⟩
 obtain ⟨b1,hb1⟩:∃ b1,b1=w.heap.size:=⟨_,rfl⟩
 have H1:=Lib.hid (show Below w.heap.size w w1∧w1.cell? ⟨b1,0,none⟩=some (.int .u8 59) from by rw [hw1,hb1];exact ⟨(Below.refl _ _).alloc (Nat.le_refl _) _,sep_cell w _⟩)
 clear h hT hs h8 hn hc hl hO
 go_enter Tryz.func55,Tryz.ntmps55
 go_wp2_with fail
 rw [← hw1,← hb1]
 clear hw1 hb1
 refine (cutB_any (HS.out.1.below H1.out.1) HS.out.2.1 (by have:=HS.out;omega) HS.out.2.2.2 b1 1 H1.out.2).mono ?_
 rintro e w2 ⟨⟨q,hq⟩,hP⟩
 have H2:=Lib.hid (show Below w.heap.size w w2 from by rw [hq];exact belowN H1.out.1 _)
 have H12:=Lib.hid (show Below w1.heap.size w1 w2 from by rw [hq];exact belowN (Below.refl _ _) _)
 clear hq
 rcases hP with ⟨hI,rfl⟩ | ⟨k,A2,hI,hk,rfl,hs1,hs2⟩
 · have E:=Lib.hid (show T'=x.t from by rw [← HO.out];unfold Tm.osc;rw [hI])
   clear hI
   go_wp2_with fail
   (try simp only [Exit.inBlock,Exit.then])
   refine bodyPost_ret (results_none rfl _ _ _) rfl ?_
   exact ⟨rfl,x,((CzTo.refl HZ.out).below H2.out).as E.out.symm⟩
 · obtain ⟨K,hK⟩:∃ K,zs.take k=K:=⟨_,rfl⟩
   obtain ⟨R,hR⟩:∃ R,zs.drop (k+1)=R:=⟨_,rfl⟩
   obtain ⟨n2,hn2⟩:∃ n2,n-(k+1)=n2:=⟨_,rfl⟩
   obtain ⟨c2,hc2⟩:∃ c2,c-(k+1)=c2:=⟨_,rfl⟩
   have HO2:=Lib.hid (show T'=if K=[48]∨K=[50] then { x.t with title:=titleF [] (foldS [] R) } else if K=[56] then (match R.idxOf? 59 with | none=>x.t | some j=>x.t.lead (baS (R.drop (j+1)))) else x.t from by
    rw [← HO.out]
    unfold Tm.osc
    rw [hI,← hK,← hR]
    rfl)
   have hU:U8s K∧U8s R:=⟨fun z hz=>HS.out.2.1 z (by rw [← hK] at hz;exact List.mem_of_mem_take hz),fun z hz=>HS.out.2.1 z (by rw [← hR] at hz;exact List.mem_of_mem_drop hz)⟩
   have HU:=Lib.hid hU
   rw [hK] at hs1
   rw [hR,hn2] at hs2
   rw [hn2,hc2]
   have HS2:=Lib.hid (show Sb w2 A2 n2 R∧n2≤256∧n2≤c2∧Sb w2 A k K from ⟨hs2.below H12.out,by have:=HS.out;omega,by have:=HS.out;omega,hs1.below H12.out⟩)
   have hcv:=conv_any (c:=c) HS2.out.2.2.2 9 Tryz.underlying9
   have i48:strOfNums [48]=⟨#[48]⟩:=by decide +kernel
   have i50:strOfNums [50]=⟨#[50]⟩:=by decide +kernel
   have i56:strOfNums [56]=⟨#[56]⟩:=by decide +kernel
   have m48:U8s [48]:=fun z hz=>by simp at hz;omega
   have m50:U8s [50]:=fun z hz=>by simp at hz;omega
   have m56:U8s [56]:=fun z hz=>by simp at hz;omega
   have HTL:=Lib.hid (titleOf_any (c:=c2) (HT.out.below H2.out (Nat.le_refl _)) HS2.out.1 HU.out.2 (by have:=HS2.out;omega))
   clear hs1 hs2 hK hR hn2 hc2 hU hI hk
   by_cases h48:K=[48]
   · rw [h48,i48] at hcv
     rw [if_pos (.inl h48)] at HO2
     clear i48 i50 i56 m48 m50 m56
     go_wp2_with fail
     refine HTL.out.mono ?_
     rintro e w5 ⟨s,rfl,hsl,hb5⟩
     have H5:=Lib.hid (H2.out.trans (hb5.mono H2.out.size))
     have Z:=HZ.out.below H5.out
     have c109:=Z.table.2
     have f109:=Z.fr 109
     have FIN:=Lib.hid (HZ.out.titled (l:=foldS [] R) H5.out hsl (Z.raw.set 109 (.string s)))
     clear hsl hb5 Z hcv
     go_wp2_with fail
     go_end0
     exact ⟨rfl,_,FIN.out.as HO2.out.symm⟩
   by_cases h50:K=[50]
   · rw [h50,i50] at hcv
     rw [if_pos (.inr h50)] at HO2
     clear i48 i50 i56 m48 m50 m56
     go_wp2_with fail
     refine HTL.out.mono ?_
     rintro e w5 ⟨s,rfl,hsl,hb5⟩
     have H5:=Lib.hid (H2.out.trans (hb5.mono H2.out.size))
     have Z:=HZ.out.below H5.out
     have c109:=Z.table.2
     have f109:=Z.fr 109
     have FIN:=Lib.hid (HZ.out.titled (l:=foldS [] R) H5.out hsl (Z.raw.set 109 (.string s)))
     clear hsl hb5 Z hcv
     go_wp2_with fail
     go_end0
     exact ⟨rfl,_,FIN.out.as HO2.out.symm⟩
   rw [if_neg (fun e=>e.elim h48 h50)] at HO2
   by_cases h56:K=[56]
   · rw [h56,i56] at hcv
     rw [if_pos h56] at HO2
     clear i48 i50 i56 m48 m50 m56 h48 h50
     obtain ⟨w3,hw3⟩:∃ w3,w3=w2.alloc (.cells #[.int .u8 59] 5 (1,2)):=⟨_,rfl⟩
     obtain ⟨b3,hb3⟩:∃ b3,b3=w2.heap.size:=⟨_,rfl⟩
     have H3:=Lib.hid (show Below w2.heap.size w2 w3∧w3.cell? ⟨b3,0,none⟩=some (.int .u8 59) from by rw [hw3,hb3];exact ⟨(Below.refl _ _).alloc (Nat.le_refl _) _,sep_cell w2 _⟩)
     go_wp2_with fail
     rw [← hw3,← hb3]
     clear hw3 hb3
     refine (cutB_any (HS2.out.1.below H3.out.1) HU.out.2 (by have:=HS2.out;omega) HS2.out.2.2.1 b3 1 H3.out.2).mono ?_
     rintro e w4 ⟨⟨q,hq⟩,hP⟩
     have H4:=Lib.hid (show Below w.heap.size w w4 from by rw [hq];exact belowN (H2.out.trans (H3.out.1.mono H2.out.size)) _)
     have H34:=Lib.hid (show Below w3.heap.size w3 w4 from by rw [hq];exact belowN (Below.refl _ _) _)
     clear hq hcv
     rcases hP with ⟨hI,rfl⟩ | ⟨j,A4,hI,hj,rfl,hs1,hs2⟩
     · rw [hI] at HO2
       clear hI
       go_wp2_with fail
       go_end0
       exact ⟨rfl,x,((CzTo.refl HZ.out).below H4.out).as HO2.out.symm⟩
     · rw [hI] at HO2
       dsimp only at HO2
       have hcv:=conv_any (c:=c2-(j+1)) (hs2.below H34.out) 9 Tryz.underlying9
       rw [ba_is] at hcv
       have hsz:(baS (R.drop (j+1))).size≤100000:=by
        rw [← ba_is,strOfNums_size,List.length_drop]
        have:=HS2.out
        have:=this.1.len
        omega
       generalize baS (R.drop (j+1))=u at hcv HO2 hsz
       have HLD:=Lib.hid (lead_any (HZ.out.below H4.out) HL.out u hsz)
       have K4:=Lib.hid ((CzTo.refl HZ.out).below H4.out)
       clear hI hj hs1 hs2 hsz
       go_wp2_with fail
       refine HLD.out.mono ?_
       rintro e w5 ⟨rfl,y,hy⟩
       have Y:=Lib.hid (K4.out.trans hy)
       clear hy
       go_wp2_with fail
       go_end0
       exact ⟨rfl,y,Y.out.as HO2.out.symm⟩
   · rw [if_neg h56] at HO2
     have n48:=str_ne HU.out.1 m48 h48
     have n50:=str_ne HU.out.1 m50 h50
     have n56:=str_ne HU.out.1 m56 h56
     rw [i48] at n48
     rw [i50] at n50
     rw [i56] at n56
     generalize strOfNums K=s at hcv n48 n50 n56
     have b48:(s.toList == [48])=false:=beq_eq_false_iff_ne.2 fun e=>n48 (ByteArray.ext (Array.toList_inj.1 (by rw [← ByteArray.toList_eq];exact e)))
     have b50:(s.toList == [50])=false:=beq_eq_false_iff_ne.2 fun e=>n50 (ByteArray.ext (Array.toList_inj.1 (by rw [← ByteArray.toList_eq];exact e)))
     have b56:(s.toList == [56])=false:=beq_eq_false_iff_ne.2 fun e=>n56 (ByteArray.ext (Array.toList_inj.1 (by rw [← ByteArray.toList_eq];exact e)))
     clear i48 i50 i56 m48 m50 m56 h48 h50 h56
     go_wp2_with fail
     go_end0
     exact ⟨rfl,x,((CzTo.refl HZ.out).below H2.out).as HO2.out.symm⟩
end
end Go.Proofs.YtlcipgdnpilkfaaGreatDoor
