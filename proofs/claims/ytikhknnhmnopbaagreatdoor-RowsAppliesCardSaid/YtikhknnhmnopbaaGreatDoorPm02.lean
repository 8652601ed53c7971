/-
  Part 2 of what the laws of emul want: UtfShelf, UtfTab, UtfFull, UtfBegin, UtfWid, WireLeaf, CellSpec, Recs, CellMem.
-/
import Derived.Shelf.Small.Utf8
import Derived.Test.YtikhknnhmnopbaaGreatDoorProg
import Derived.Lib.LaidU8T
import Derived.Test.YtikhknnhmnopbaaGreatDoorRows
import Derived.Lib.LaidTab
import Derived.LaidMore
import Derived.Lay
import Derived.Stop.Joined
import Derived.Handed
import Derived.WalkKit
import Derived.RegionTactic
import Derived.Deep.Draws
import Derived.Deep.QuietTactic
import Derived.Lib.Hide
import Derived.LoopTactic
import Derived.Deep.CutBlock
import Derived.Laws.Rows
import Derived.BigQuiet
import Derived.Laws.CopyOwn
import Derived.WalkSpells
import Derived.Deep.MidRow
import Derived.Laws.MakeOwn
import Derived.Test.YtikhknnhmnopbaaGreatDoorPm01
namespace Go.Proofs
open Go.Shelf
def Tryz.lays119_ren:Go.Shelf.Ren:=⟨fun | 119=>103 | n=>n,fun | 21=>21 | 4=>4 | n=>n,fun | n=>n⟩
theorem Tryz.lays119:Go.Proofs.Lays.n119 Tryz.prog Tryz.lays119_ren:={
 mixed:=by kernel_rfl
 f119:=Tryz.func103.trans (congrArg some (by kernel_rfl))
 t4:=Tryz.underlying4
 a4:=Tryz.isAgg4
 z4:=Tryz.sizeOf4
 v4:=Tryz.zeroValue4
 t21:=Tryz.underlying21
 a21:=Tryz.isAgg21
 z21:=Tryz.sizeOf21
 v21:=Tryz.zeroValue21 }
theorem Tryz.utf8_ValidRune (r:Int) (w:World) :
  Calls Tryz.prog 103 #[.int .i32 r] w fun e w'=>e=.returned (.bool (Lib.validRune r))∧w'=w:=Any.utf8_ValidRune Tryz.lays119 r w
end Go.Proofs
namespace Go.Proofs.YtikhknnhmnopbaaGreatDoor
open Go.ChangeShapes Go.WideShapes Go.ChangeAt Go.RowKit
def stL:List (Int × Int × Int):=[(0,31,0),(127,159,0),(768,879,0),(8203,8207,0),(65024,65039,0),(4352,4447,2),(11904,12350,2),(12353,42191,2),(44032,55203,2),(63744,64255,2),(65072,65135,2),(65280,65376,2),(65504,65510,2),(127744,128591,2),(131072,262141,2)]
def stCells:List Value:=(stL.map fun x=>[Value.int .i32 x.1,Value.int .i32 x.2.1,Value.int .i64 x.2.2]).flatten
structure Tabs (w:World):Prop where
 u8:Lib.Utf8Tabs 1 2 w
 st:∃ t fr,w.heap[0]?=some (.cells stCells.toArray t fr)
theorem Tabs.below {w w':World} (h:Tabs w) {B:Nat} (hb:Below B w w') (hB:w.heap.size≤B):Tabs w':=by
 have hb':Below w.heap.size w w':=⟨hb.os,hb.tape,hb.output,hb.size,fun k hk=>hb.block k (by omega)⟩
 obtain ⟨t,fr,hs⟩:=h.st
 have hl:0<w.heap.size:=(Array.getElem?_eq_some_iff.1 hs).1
 exact ⟨Utf8Tabs_below h.u8 hb',t,fr,(hb'.block _ hl).trans hs⟩
def ren8:Go.Shelf.Ren:=⟨fun n=>n,fun | 5=>5 | 119=>154 | 138=>156 | 139=>157 | n=>n,fun | 3=>1 | 4=>2 | n=>n⟩
theorem u8t:U8Types Tryz.prog ren8 where
 t5:=Tryz.underlying5
 t119:=Tryz.underlying154
 t138:=Tryz.underlying156
 t139:=Tryz.underlying157
theorem u8x:U8Extra Tryz.prog ren8 where
 n3:=by kernel_rfl
 n4:=by kernel_rfl
 y3:=by kernel_rfl
 y4:=by kernel_rfl
 c5:=by kernel_rfl
 c119:=by kernel_rfl
 c138:=by kernel_rfl
theorem firstEq:Rows.laid_unicode_utf8_first=Lib.firstData:=by kernel_rfl
theorem acceptEq:(Rows.laid_unicode_utf8_acceptRanges:DataW Unit)=Lib.acceptData:=by kernel_rfl
theorem str_three {H:Type} {enc:TypeId × Value→H} {w:World} {base:Nat} {sp:Nat→Bool} {held:Bool} {fuel:Nat} {cs:List Value} {a b c:Int} {p:List MemPlace}
  (h:DataW.trod enc Tryz.prog w base sp held fuel 148 cs=some (.agg [.lit (.int .i32 a),.lit (.int .i32 b),.lit (.int .i64 c)],p)):cs=[.int .i32 a,.int .i32 b,.int .i64 c]:=by
 have c1:Tryz.prog.cellsOf 21=1:=by kernel_rfl
 have c1':Tryz.prog.cellsOf 3=1:=by kernel_rfl
 have c3:Tryz.prog.cellsOf 148=3:=by kernel_rfl
 obtain ⟨xs,n,rfl,hx,hl,hxl,hall⟩:=DataW.trod_struct Tryz.underlying148 h
 have hxs:xs.map (·.1)=[.lit (.int .i32 a),.lit (.int .i32 b),.lit (.int .i64 c)]:=by
  have:=congrArg Prod.fst hx
  simpa using this.symm
 have hzl:xs.length=3:=by have:=congrArg List.length hxs;simpa using this
 rw [c3] at hl
 obtain ⟨x0,x1,x2,rfl⟩:∃ x0 x1 x2,xs=[x0,x1,x2]:=by
  rcases xs with _ | ⟨x0,_ | ⟨x1,_ | ⟨x2,_ | ⟨x3,t⟩⟩⟩⟩<;>simp at hzl
  exact ⟨x0,x1,x2,rfl⟩
 obtain ⟨v0,v1,v2,rfl⟩:∃ v0 v1 v2,cs=[v0,v1,v2]:=by
  rcases cs with _ | ⟨x0,_ | ⟨x1,_ | ⟨x2,_ | ⟨x3,t⟩⟩⟩⟩<;>simp at hl
  exact ⟨x0,x1,x2,rfl⟩
 simp at hxs
 have h0:=hall 0 _ rfl
 have h1:=hall 1 _ rfl
 have h2:=hall 2 _ rfl
 simp [c1] at h0 h1
 simp [c1'] at h2
 obtain ⟨z0,e0,f0,_⟩:=DataW.trod_int Tryz.underlying21 h0
 obtain ⟨z1,e1,f1,_⟩:=DataW.trod_int Tryz.underlying21 h1
 obtain ⟨z2,e2,f2,_⟩:=DataW.trod_int Tryz.underlying3 h2
 simp_all
theorem stretch_cells {w:World} {fuel:Nat} {cs:List Value} {p:List MemPlace}
  (h:DataW.trod (fun _=>()) Tryz.prog w 0 (fun _=>true) false fuel 149 cs=some (Rows.laid_spyglass_utf_stretches,p)):cs=stCells:=by
 have c45:Tryz.prog.cellsOf 149=45:=by kernel_rfl
 have c3:Tryz.prog.cellsOf 148=3:=by kernel_rfl
 have hl:cs.length=45:=by
  obtain ⟨xs,m,_,_,hl,_⟩:=DataW.trod_array Tryz.underlying149 h
  rw [hl,c45]
 have he:∀ i,(hi:i<15)→(cs.drop (i*3)).take 3=(let x:=stL.getD i (0,0,0);[Value.int .i32 x.1,Value.int .i32 x.2.1,Value.int .i64 x.2.2]):=by
  intro i hi
  obtain ⟨fuel',d,q,hdi,hd'⟩:=Lib.array_elem Tryz.underlying149 h i hi
  rw [c3] at hd'
  have e:d=(let x:=stL.getD i (0,0,0);DataW.agg [.lit (.int .i32 x.1),.lit (.int .i32 x.2.1),.lit (.int .i64 x.2.2)]):=by
   have h15:i=0∨i=1∨i=2∨i=3∨i=4∨i=5∨i=6∨i=7∨i=8∨i=9∨i=10∨i=11∨i=12∨i=13∨i=14:=by omega
   rcases h15 with rfl | rfl | rfl | rfl | rfl | rfl | rfl | rfl | rfl | rfl | rfl | rfl | rfl | rfl | rfl<;>(cases hdi;rfl)
  subst e
  exact str_three hd'
 have key:∀ (n i:Nat) (cs:List Value),cs.length=3*n→(∀ k,k<n→(cs.drop (k*3)).take 3=(let x:=(stL.drop i).getD k (0,0,0);[Value.int .i32 x.1,Value.int .i32 x.2.1,Value.int .i64 x.2.2]))→i+n=15 →
   cs=((stL.drop i).map fun x=>[Value.int .i32 x.1,Value.int .i32 x.2.1,Value.int .i64 x.2.2]).flatten:=by
  intro n
  induction n with
  | zero => intro i cs hc _ hi; obtain rfl : i = 15 := by omega
            rw [List.drop_of_length_le (show stL.length≤15 from Nat.le_refl 15)];simpa using hc
  | succ n ih =>
   intro i cs hc hk hi
   have h0:=hk 0 (by omega)
   have hlen:i<stL.length:=by show i<15;omega
   rw [List.drop_eq_getElem_cons hlen] at h0 ⊢
   have h2:=ih (i+1) (cs.drop 3) (by simp [hc];omega) (fun k hk'=>by
    have:=hk (k+1) (by omega)
    rw [List.drop_drop,show 3+k*3=(k+1)*3 by omega]
    rw [this,List.drop_eq_getElem_cons hlen];rfl) (by omega)
   simp only [List.map_cons,List.flatten_cons,← h2]
   simp only [Nat.zero_mul,List.drop_zero] at h0
   conv=>lhs;rw [← List.take_append_drop 3 cs]
   rw [h0];rfl
 exact key 15 0 _ (by rw [hl]) (fun k hk=>he k hk) rfl
open Go.RowKit
def sL (s:ByteArray):List Int:=s.data.toList.map fun b=>(b.toNat:Int)
theorem sL_len (s:ByteArray):(sL s).length=s.size:=by simp [sL]
theorem sL_b (s:ByteArray):∀ z∈sL s,0≤z∧z≤255:=fun z hz=>by
 obtain ⟨b,_,rfl⟩:=List.mem_map.1 hz
 have:=b.toNat_lt;omega
theorem begN {L:List Int}:begS L=decide (1≤L.length∧L.length<szF (L.getD 0 0)∧(2≤L.length→okF (L.getD 0 0) (L.getD 1 0)=true)∧(3≤L.length→ctF (L.getD 2 0)=true)):=by
 rcases L with _ | ⟨a,_ | ⟨b,_ | ⟨c,_ | ⟨d,t⟩⟩⟩⟩
 · simp [begS]
 · simp [begS];omega
 · simp [begS]
   by_cases h:okF a b=true<;>simp [h] ; omega
 · simp [begS]
   by_cases h:okF a b=true<;>by_cases h':ctF c=true<;>simp [h,h'] ; omega
 · simp [begS]
   intro h;rcases szF_le a with e | e | e | e | e<;>omega
theorem first_sz (x:Nat) (h:x<256):(Lib.firstT x=240∧szF x=1)∨(Lib.firstT x=241∧szF x=0) ∨
  (∃ X,Lib.firstT x=X∧2≤X∧X<240∧X % 8=szF x∧2≤szF x∧szF x≤4∧(Lib.accLo (X / 16):Int)=loF x∧(Lib.accHi (X / 16):Int)=hiF x∧X / 16<5):=by
 have key:∀ y:Fin 256,(Lib.firstT y.val=240∧szF y.val=1)∨(Lib.firstT y.val=241∧szF y.val=0) ∨
   (2≤Lib.firstT y.val∧Lib.firstT y.val<240∧Lib.firstT y.val % 8=szF y.val∧2≤szF y.val∧szF y.val≤4∧(Lib.accLo (Lib.firstT y.val / 16):Int)=loF y.val∧(Lib.accHi (Lib.firstT y.val / 16):Int)=hiF y.val∧Lib.firstT y.val / 16<5):=by decide +kernel
 rcases key ⟨x,h⟩ with h | h | h
 · exact .inl h
 · exact .inr (.inl h)
 · exact .inr (.inr ⟨_,rfl,h⟩)
open Go.RowKit
def iOf:Value→Int
 | .int _ x=>x
 | _=>0
open Go.RowKit
def inSt (r:Int):List (Int × Int × Int)→Int
 | []=>1
 | x :: l=>if x.1≤r∧r≤x.2.1 then x.2.2 else inSt r l
def widthS (r:Int):Int:=if mayS r=true then inSt r stL else 0
theorem valid_may (r:Int):Lib.validRune r=mayS r:=by
 unfold Lib.validRune mayS
 rw [Bool.eq_iff_iff]
 simp
 omega
theorem idx_st (k:Nat) (hk:k<15) (w:World):(Instr.index 149 (.agg stCells.toArray) (.int .i64 (k:Int))).run Tryz.prog w =
  .ok (.agg #[.int .i32 (stL.getD k (0,0,0)).1,.int .i32 (stL.getD k (0,0,0)).2.1,.int .i64 (stL.getD k (0,0,0)).2.2]) w:=by
 have h15:k=0∨k=1∨k=2∨k=3∨k=4∨k=5∨k=6∨k=7∨k=8∨k=9∨k=10∨k=11∨k=12∨k=13∨k=14:=by omega
 rcases h15 with rfl | rfl | rfl | rfl | rfl | rfl | rfl | rfl | rfl | rfl | rfl | rfl | rfl | rfl | rfl<;>(show _=_;kernel_rfl)
theorem infoSt:(Tryz.prog.info? 149).map (·.size)=some stCells.toArray.size:=by kernel_rfl
set_option maxHeartbeats 1600000 in
theorem width_any {w:World} (r:Int) (hT:Tabs w) :
  Calls Tryz.prog 87 #[.int .i32 r] w fun e w'=>e=.returned (.int .i64 (widthS r))∧Below w.heap.size w w':=by
 have H:=Lib.hid (And.intro hT (valid_may r))
 clear hT
 cases hm:mayS r
 · have HV:=Lib.hid (H.out.2.trans hm)
   go_enter Tryz.func87,Tryz.ntmps87
   go_wp2_with fail
   refine (Tryz.utf8_ValidRune r w).mono ?_
   rintro e w1 ⟨rfl,rfl⟩
   rw [HV.out]
   go_wp2_with fail
   go_ret
   exact ⟨by simp [widthS,hm],Below.refl _ _⟩
 · have HV:=Lib.hid (H.out.2.trans hm)
   obtain ⟨t,fr,hst⟩:=H.out.1.st
   have HS:=Lib.hid hst
   clear hst
   obtain ⟨ANS,hA⟩:∃ ANS,inSt r stL=ANS:=⟨_,rfl⟩
   have HA:=Lib.hid hA
   clear hA
   go_enter Tryz.func87,Tryz.ntmps87
   go_wp2_with fail
   refine (Tryz.utf8_ValidRune r w).mono ?_
   rintro e w1 ⟨rfl,rfl⟩
   rw [HV.out]
   go_wp2_with (refine wpList_load_row rfl 149 (.global 0) rfl 0 rfl t stCells.toArray fr _ HS.out Tryz.underlying149 rfl infoSt ?_)
   generalize hcs:stCells.toArray=CS
   go_loopw [9] (fun i wr=>∃ k:Nat,k≤15∧i=.int .i64 k∧inSt r (stL.drop k)=ANS∧Below w1.heap.size w1 wr) (fun i _=>15-(iOf i).toNat)
   case atStart=>exact ⟨0,by omega,rfl,HA.out,Below.refl _ _⟩
   case round =>
    obtain ⟨k,hk,rfl,hst,hbw⟩:=hrel
    have HW:=Lib.hid (And.intro hst hbw)
    clear hst hbw
    by_cases hlt:k<15
    · have hkl:(k:Int)<15:=by omega
      obtain ⟨lo,hi,co,he⟩:∃ lo hi co,stL.getD k (0,0,0)=(lo,hi,co):=⟨_,_,_,rfl⟩
      have hidx:=idx_st k hlt
      rw [he,hcs] at hidx
      have hd:stL.drop k=(lo,hi,co) :: stL.drop (k+1):=by
       have hl:k<stL.length:=hlt
       rw [List.drop_eq_getElem_cons hl,← he];simp [List.getD,List.getElem?_eq_getElem hl]
      have HD:=Lib.hid hd
      clear hd he
      by_cases h1:lo≤r
      · have h1':decide (lo≤r)=true:=by simpa using h1
        by_cases h2:r≤hi
        · have h2':decide (r≤hi)=true:=by simpa using h2
          go_wp2_with fail
          go_ret
          have:=HW.out.1
          rw [HD.out] at this
          simp only [inSt,h1,h2,and_self,if_true] at this
          exact ⟨by simp [widthS,hm,HA.out,this],HW.out.2.alloc HW.out.2.size _⟩
        · have h2':decide (r≤hi)=false:=by simpa using h2
          go_wp2_with fail
          go_roundw
          case rel =>
           have:=HW.out.1
           rw [HD.out] at this
           simp only [inSt,h2,and_false,if_false] at this
           exact ⟨k+1,by omega,by go_num,this,HW.out.2.alloc HW.out.2.size _⟩
          case measure=>simp [iOf];omega
      · have h1':decide (lo≤r)=false:=by simpa using h1
        go_wp2_with fail
        go_roundw
        case rel =>
         have:=HW.out.1
         rw [HD.out] at this
         simp only [inSt,h1,false_and,if_false] at this
         exact ⟨k+1,by omega,by go_num,this,HW.out.2.alloc HW.out.2.size _⟩
        case measure=>simp [iOf];omega
    · obtain rfl:k=15:=by omega
      go_wp2_with fail
      go_ret
      have:=HW.out.1
      exact ⟨by simp only [widthS,hm,if_true,HA.out,← this];rfl,HW.out.2⟩
open Go.RowKit
theorem retI {k:IntKind} {a b:Int} (h:a=b):Ending.returned (.int k a)=.returned (.int k b):=by rw [h]
theorem err_any {base:Nat} {w:World} {r:Nat} {A:Option Addr} {n c:Nat} {zs:List Int} {e:Int} (h:Rd 72 base w r A n c zs e) :
  Calls Tryz.prog 34 #[.pointer (some ⟨r,0,none⟩)] w fun e' w'=>e'=.returned (.int .i64 e)∧w=w':=by
 have h1:=h.cell1
 clear h
 go_enter Tryz.func34,Tryz.ntmps34
 go_wp2
 go_ret
 exact ⟨rfl,rfl⟩
theorem left_any {base:Nat} {w:World} {r:Nat} {A:Option Addr} {n c:Nat} {zs:List Int} {e:Int} (h:Rd 72 base w r A n c zs e) :
  Calls Tryz.prog 62 #[.pointer (some ⟨r,0,none⟩)] w fun e' w'=>e'=.returned (.int .i64 n)∧w=w':=by
 have h1:=h.cell0
 clear h
 go_enter Tryz.func62,Tryz.ntmps62
 go_wp2
 go_ret
 exact ⟨rfl,rfl⟩
theorem reads_any {base:Nat} {w:World} {r:Nat} {A:Option Addr} {n c:Nat} {zs:List Int} {e:Int} (h:Rd 72 base w r A n c zs e) :
  Calls Tryz.prog 58 #[.pointer (some ⟨r,0,none⟩)] w fun e' w'=>e'=.returned (.bool (e == 0))∧w=w':=by
 go_enter Tryz.func58,Tryz.ntmps58
 go_wp2_with (go_at_call 34;refine (err_any h).mono ?_;rintro e w' ⟨rfl,rfl⟩)
 go_ret
 exact ⟨rfl,rfl⟩
theorem sizeMay_any (n:Int) (w:World):Calls Tryz.prog 59 #[.int .i64 n] w fun e w'=>e=.returned (.bool (decide (1≤n∧n≤8)))∧w=w':=by
 by_cases h1:1≤n
 · by_cases h2:n≤8
   · go_enter Tryz.func59,Tryz.ntmps59
     go_wp2
     go_ret
     exact ⟨by simp [h1,h2],rfl⟩
   · go_enter Tryz.func59,Tryz.ntmps59
     go_wp2
     go_ret
     exact ⟨by simp [h2],rfl⟩
 · go_enter Tryz.func59,Tryz.ntmps59
   go_wp2
   go_ret
   exact ⟨by simp;omega,rfl⟩
def endE (e:Int) (n:Nat):Int:=if e=0 then (if n=0 then 0 else 6) else e
theorem end_any {base:Nat} {w:World} {r:Nat} {A:Option Addr} {n c:Nat} {zs:List Int} {e:Int} (h:Rd 72 base w r A n c zs e) :
  Calls Tryz.prog 38 #[.pointer (some ⟨r,0,none⟩)] w fun e' w'=>e'=.returned (.int .i64 (endE e n))∧w=w':=by
 by_cases h0:e=0
 · subst h0
   by_cases hn:0<n
   · go_enter Tryz.func38,Tryz.ntmps38
     go_wp2_with (first | (go_at_call 34;refine (err_any h).mono ?_;rintro e w' ⟨rfl,rfl⟩) | (go_at_call 62;refine (left_any h).mono ?_;rintro e w' ⟨rfl,rfl⟩))
     go_ret
     exact ⟨retI (by unfold endE;rw [if_pos rfl,if_neg (by omega)]),rfl⟩
   · go_enter Tryz.func38,Tryz.ntmps38
     go_wp2_with (first | (go_at_call 34;refine (err_any h).mono ?_;rintro e w' ⟨rfl,rfl⟩) | (go_at_call 62;refine (left_any h).mono ?_;rintro e w' ⟨rfl,rfl⟩))
     go_ret
     exact ⟨retI (by unfold endE;rw [if_pos rfl,if_pos (by omega)]),rfl⟩
 · have H:(e == 0)=false:=by simpa using h0
   have H':(e != 0)=true:=by simpa using h0
   have HH:=Lib.hid h0
   clear h0
   go_enter Tryz.func38,Tryz.ntmps38
   go_wp2_with (first | (go_at_call 34;refine (err_any h).mono ?_;rintro e w' ⟨rfl,rfl⟩))
   go_ret
   exact ⟨retI (by unfold endE;rw [if_neg HH.out]),rfl⟩
theorem info8:(Tryz.prog.info? 5).map (fun i=>(i.zero,i.size,i.bytes))=some (some (.int .u8 0),1,1):=by kernel_rfl
theorem clone_any {w:World} {A:Option Addr} {n c:Nat} {zs:List Int} (h:Sb w A n zs) (hn:n≤140737488355328) :
  Calls Tryz.prog 39 #[.slice A n c] w fun e w'=>∃ v,e=.returned v∧Made 5 zs w v w':=by
 have hrun:=fun (w:World)=>Lib.run_eql_slice_nil (P:=Tryz.prog) w 26 5 A n c 0 0 Tryz.underlying26
 cases A with
 | none =>
  have hz:n=0:=by
   rcases Nat.eq_zero_or_pos n with h0 | h0
   · exact h0
   · obtain ⟨ad,h1⟩:=h.addr h0
     cases h1
  subst hz
  obtain rfl:zs=[]:=List.eq_nil_of_length_eq_zero h.len
  go_enter Tryz.func39,Tryz.ntmps39
  go_wp2
  go_ret
  exact ⟨_,rfl,Made.nil _ _⟩
 | some ad =>
  have hl:=h.len
  go_enter Tryz.func39,Tryz.ntmps39
  go_wp2_with (at_builtin;refine wpList_app _ rfl _ _ 26 rfl w.heap.size 5 Tryz.underlying26 info8 (.slice (some ⟨w.heap.size,0,none⟩) 0 0) 0 [] rfl (World.ownsRow_lit w #[] 0 (Nat.le_refl _) (by unfold maxLen;omega) rfl) (some ad) n c zs rfl (h.alloc _) (by omega) (by simp) ?_;intro A' c' w1 hown hg;simp only [Nat.zero_add,List.nil_append] at hown)
  have H:=Made.mk (w:=w) hown (((Below.refl _ _).alloc (Nat.le_refl _) _).grown hg (by simp) (by intro k hk;have:w.heap.size=k:=(by simpa [Value.ownBlock] using hk);omega))
  clear hown hg
  go_ret
  exact ⟨_,rfl,H⟩
theorem size8:(Tryz.prog.info? 5).map (·.size)=some 1:=by kernel_rfl
theorem copy_any {w:World} {A:Option Addr} {n c:Nat} {zs:List Int} (h:Sb w A n zs) (hn:n≤140737488355328) :
  Calls Tryz.prog 8 #[.slice A n c] w fun e w'=>∃ g,e=.returned (.slice (some ⟨g,0,none⟩) n n) ∧
   w'.ownsRow w.heap.size 5 1 (.slice (some ⟨g,0,none⟩) n n) n (zs.map (Value.int .u8))∧Below w.heap.size w w':=by
 obtain ⟨i0,hi,hz0,hz1,hz2⟩:=info_parts info8
 have hl:=Lib.hid h.len
 go_enter Tryz.func8,Tryz.ntmps8
 go_wp2_with (first
  | (at_make;refine wpList_make_full _ rfl _ _ 26 rfl w.heap.size 5 i0 (.int .u8 0) 1 Tryz.underlying26 hi hz0 hz1 .i64 .i64 (n:Int) (n:Int) n rfl rfl rfl rfl (by rw [hz2];omega) (by unfold maxLen;omega) (Nat.le_refl _) ?_;intro w1 hown hg)
  | (with_reducible refine wpList_cpy rfl (.tmp 7) (.tmp 8) 26 rfl w.heap.size 5 Tryz.underlying26 size8 w.heap.size n c A rfl rfl _ hown zs (h.below (Below.grown (Below.refl _ _) hg (Nat.le_refl _) (by intro k hk;cases hk))) ?_;intro w2 hown2 hb2))
 go_ret
 exact ⟨_,rfl,hown2,((Below.refl _ _).grown hg (Nat.le_refl _) (by intro k hk;cases hk)).trans hb2⟩
structure Pn where
 fg:Int
 bg:Int
 st:Int
 lk:Int
structure Ce where
 r:Int
 wd:Int
 p:Pn
theorem Pn.ext' {a b:Pn} (h1:a.fg=b.fg) (h2:a.bg=b.bg) (h3:a.st=b.st) (h4:a.lk=b.lk):a=b:=by cases a;cases b;simp_all
theorem Ce.ext' {a b:Ce} (h1:a.r=b.r) (h2:a.wd=b.wd) (h3:a.p=b.p):a=b:=by cases a;cases b;simp_all
instance:DecidableEq Pn:=fun a b =>
 if h:a.fg=b.fg∧a.bg=b.bg∧a.st=b.st∧a.lk=b.lk then isTrue (Pn.ext' h.1 h.2.1 h.2.2.1 h.2.2.2) else isFalse fun e=>h (by rw [e];exact ⟨rfl,rfl,rfl,rfl⟩)
instance:DecidableEq Ce:=fun a b =>
 if h:a.r=b.r∧a.wd=b.wd∧a.p=b.p then isTrue (Ce.ext' h.1 h.2.1 h.2.2) else isFalse fun e=>h (by rw [e];exact ⟨rfl,rfl,rfl⟩)
def pn0:Pn:=⟨0,0,0,0⟩
def ce0:Ce:=⟨0,0,pn0⟩
def colMay (c:Int):Bool:=decide (c≤256∨(16777216≤c∧c≤33554431))
def penMayS (p:Pn):Bool:=colMay p.fg && colMay p.bg
def cellMay (c:Ce):Bool:=penMayS c.p && ((decide (c.wd=0) && decide (widthS c.r=1)) || (decide (c.wd=1) && decide (widthS c.r=2)) || (decide (c.wd=2) && decide (c.r=0)))
def blankS (p:Pn):Ce:=⟨32,0,⟨0,p.bg,0,0⟩⟩
def rightS (c:Ce):Ce:=⟨0,2,c.p⟩
def cAt (L:List Ce) (i:Nat):Ce:=L.getD i ce0
def OkAt (L:List Ce) (i:Nat):Prop :=
 cellMay (cAt L i)=true∧((cAt L i).wd=1→i+1<L.length∧cAt L (i+1)=rightS (cAt L i))∧((cAt L i).wd=2→0<i∧(cAt L (i-1)).wd=1)
structure RowOk (L:List Ce):Prop where
 pos:1≤L.length
 le:L.length≤80
 at_:∀ i,i<L.length→OkAt L i
noncomputable def rowMay (L:List Ce):Bool:=@decide (RowOk L) (Classical.propDecidable _)
theorem rowMay_iff (L:List Ce):rowMay L=true↔RowOk L:=by unfold rowMay;exact @decide_eq_true_iff _ (Classical.propDecidable _)
theorem rowMay_not (L:List Ce):rowMay L=false↔¬ RowOk L:=by rw [← rowMay_iff];simp
theorem cAt_lt {L:List Ce} {i:Nat} (h:i<L.length):cAt L i=L[i]:=by simp [cAt,List.getD,List.getElem?_eq_getElem h]
theorem cAt_mem {L:List Ce} {i:Nat} (h:i<L.length):cAt L i∈L:=by rw [cAt_lt h];exact List.getElem_mem h
theorem row_ext {L M:List Ce} (hl:L.length=M.length) (h:∀ i,i<L.length→cAt L i=cAt M i):L=M:=by
 apply List.ext_getElem hl
 intro i h1 h2
 rw [← cAt_lt h1,← cAt_lt h2,h i h1]
theorem cAt_set (L:List Ce) (k:Nat) (c:Ce) (i:Nat):cAt (L.set k c) i=if i=k∧i<L.length then c else cAt L i:=by
 unfold cAt
 simp only [List.getD,List.getElem?_set]
 by_cases h:k=i
 · subst h
   by_cases h2:k<L.length
   · simp [h2]
   · simp [h2]
 · simp [h,Ne.symm h]
theorem cAt_append (L M:List Ce) (i:Nat):cAt (L ++ M) i=if i<L.length then cAt L i else cAt M (i-L.length):=by
 unfold cAt
 simp only [List.getD]
 by_cases h:i<L.length
 · rw [List.getElem?_append_left h,if_pos h]
 · rw [List.getElem?_append_right (by omega),if_neg h]
theorem cAt_take (L:List Ce) (k i:Nat):cAt (L.take k) i=if i<k then cAt L i else ce0:=by
 unfold cAt
 simp only [List.getD,List.getElem?_take]
 split<;>simp
theorem cAt_drop (L:List Ce) (k i:Nat):cAt (L.drop k) i=cAt L (k+i):=by
 unfold cAt
 simp [List.getD]
theorem cAt_replicate (n:Nat) (c:Ce) (i:Nat):cAt (List.replicate n c) i=if i<n then c else ce0:=by
 unfold cAt
 simp only [List.getD,List.getElem?_replicate]
 split<;>simp
def overS (L:List Ce) (x:Nat) (M:List Ce):List Ce:=L.take x ++ (M ++ L.drop (x+M.length))
theorem overS_length {L:List Ce} {x:Nat} {M:List Ce} (h:x+M.length≤L.length):(overS L x M).length=L.length:=by simp [overS];omega
theorem cAt_overS {L:List Ce} {x:Nat} {M:List Ce} (h:x+M.length≤L.length) (i:Nat):cAt (overS L x M) i=if x≤i∧i<x+M.length then cAt M (i-x) else cAt L i:=by
 unfold overS
 rw [cAt_append,cAt_append,List.length_take,cAt_take,cAt_drop,Nat.min_eq_left (by omega)]
 by_cases h1:i<x
 · simp only [h1,if_true]
   rw [if_neg (by omega)]
 · rw [if_neg h1]
   by_cases h2:i<x+M.length
   · rw [if_pos (by omega),if_pos ⟨by omega,h2⟩]
   · rw [if_neg (by omega),if_neg (by omega)]
     congr 1
     omega
abbrev Pc:=Ce × Int
open Go.RowKit
section
variable {α:Type} {f:α→List Value} {d:Nat} {w w':World} {A:Option Addr} {n:Nat} {L:List α}
def rowV (f:α→List Value):List α→List Value
 | []=>[]
 | a :: L=>f a ++ rowV f L
theorem rowV_append (f:α→List Value) (L M:List α):rowV f (L ++ M)=rowV f L ++ rowV f M:=by
 induction L with
 | nil=>rfl
 | cons a L ih=>simp [rowV,ih]
theorem rowV_len (hf:∀ a,(f a).length=d) (L:List α):(rowV f L).length=L.length*d:=by
 induction L with
 | nil=>simp [rowV]
 | cons a L ih=>simp [rowV,ih,hf,Nat.succ_mul];omega
theorem rowV_get (hf:∀ a,(f a).length=d) {k:Nat} {a:α} (hk:L[k]?=some a) {j:Nat} {v:Value} (hj:(f a)[j]?=some v):(rowV f L)[k*d+j]?=some v:=by
 have hlt:j<(f a).length:=(List.getElem?_eq_some_iff.1 hj).1
 induction L generalizing k with
 | nil=>simp at hk
 | cons b L ih =>
  cases k with
  | zero =>
   simp at hk
   subst hk
   rw [rowV,Nat.zero_mul,Nat.zero_add,List.getElem?_append_left hlt,hj]
  | succ k =>
   have:=ih (k:=k) (by simpa using hk)
   rw [rowV,List.getElem?_append_right (by rw [hf,Nat.succ_mul];omega),hf,← this]
   congr 1
   rw [Nat.succ_mul]
   omega
theorem rowV_take (hf:∀ a,(f a).length=d) (L:List α) (k:Nat):(rowV f L).take (k*d)=rowV f (L.take k):=by
 induction L generalizing k with
 | nil=>simp [rowV]
 | cons a L ih =>
  cases k with
  | zero=>simp [rowV]
  | succ k =>
   rw [rowV,List.take_append,hf,List.take_of_length_le (by rw [hf,Nat.succ_mul];omega),show (k+1)*d-d=k*d by rw [Nat.succ_mul];omega,ih]
   simp [rowV]
theorem rowV_drop (hf:∀ a,(f a).length=d) (L:List α) (k:Nat):(rowV f L).drop (k*d)=rowV f (L.drop k):=by
 induction L generalizing k with
 | nil=>simp [rowV]
 | cons a L ih =>
  cases k with
  | zero=>simp [rowV]
  | succ k =>
   rw [rowV,List.drop_append,hf,List.drop_eq_nil_of_le (by rw [hf,Nat.succ_mul];omega),show (k+1)*d-d=k*d by rw [Nat.succ_mul];omega,ih]
   simp
structure Vs (f:α→List Value) (w:World) (A:Option Addr) (n:Nat) (L:List α):Prop where
 len:L.length=n
 at_:0<n→∃ ad,A=some ad∧ad.block<w.heap.size∧∀ j v,(rowV f L)[j]?=some v→w.cell? (ad.add j)=some v
theorem Vs.nil (w:World) (A:Option Addr):Vs f w A 0 []:=⟨rfl,fun h=>absurd h (by omega)⟩
theorem Vs.keep (h:Vs f w A n L) (hs:w.heap.size≤w'.heap.size) (hk:∀ p:Addr,0<n→A.map (·.block)=some p.block→p.block<w.heap.size→w'.cell? p=w.cell? p):Vs f w' A n L :=
 ⟨h.len,fun hn=>by
  obtain ⟨ad,rfl,hb,hc⟩:=h.at_ hn
  exact ⟨ad,rfl,by omega,fun j v hj=>(hk (ad.add j) hn (by simp [addBlock]) (by rw [addBlock];exact hb)).trans (hc j v hj)⟩⟩
theorem Vs.below (h:Vs f w A n L) (hb:Below w.heap.size w w'):Vs f w' A n L:=h.keep hb.size fun _ _ _ hp=>hb.cell hp
theorem Vs.drewN (h:Vs f w A n L) (q:Nat):Vs f (w.drewN q) A n L:=⟨h.len,h.at_⟩
theorem Vs.alloc (h:Vs f w A n L) (o:Obj):Vs f (w.alloc o) A n L:=h.below ((Below.refl _ _).alloc (Nat.le_refl _) o)
theorem Vs.addr (h:Vs f w A n L) (hn:0<n):∃ ad,A=some ad:=by obtain ⟨ad,e,_⟩:=h.at_ hn;exact ⟨ad,e⟩
theorem Vs.lt {ad:Addr} (h:Vs f w (some ad) n L) (hn:0<n):ad.block<w.heap.size:=by
 obtain ⟨ad',e,hb,_⟩:=h.at_ hn
 injection e with e
 subst e
 exact hb
theorem Vs.news {ad:Addr} (h:Vs f w (some ad) n L):∀ j v,(rowV f L)[j]?=some v→w.cell? (ad.add j)=some v:=by
 intro j v hj
 by_cases hn:0<n
 · obtain ⟨ad',e,_,hc⟩:=h.at_ hn
   injection e with e
   subst e
   exact hc j v hj
 · obtain rfl:L=[]:=List.eq_nil_of_length_eq_zero (by rw [h.len];omega)
   simp [rowV] at hj
theorem Vs.get (hf:∀ a,(f a).length=d) {ad:Addr} (h:Vs f w (some ad) n L) {k:Nat} {a:α} (hk:L[k]?=some a):∀ j v,(f a)[j]?=some v→w.cell? ((ad.add (k*d)).add j)=some v:=fun j v hj=>by
 rw [addAdd]
 exact h.news _ _ (rowV_get hf hk hj)
theorem Vs.front (hf:∀ a,(f a).length=d) (h:Vs f w A n L) {k:Nat} (hk:k≤n):Vs f w A k (L.take k):=by
 refine ⟨by rw [List.length_take,h.len];omega,fun hn=>?_⟩
 obtain ⟨ad,rfl,hb,hc⟩:=h.at_ (by omega)
 refine ⟨ad,rfl,hb,fun j v hj=>hc j v ?_⟩
 rw [← rowV_take hf,List.getElem?_take] at hj
 split at hj
 · exact hj
 · cases hj
theorem Vs.cut (hf:∀ a,(f a).length=d) (h:Vs f w A n L) {k c:Nat} (hk:k≤n) (hc:n≤c):Vs f w (if c=k then A else A.map (·.add (k*d))) (n-k) (L.drop k):=by
 refine ⟨by rw [List.length_drop,h.len],fun hn=>?_⟩
 obtain ⟨ad,rfl,hb,hcell⟩:=h.at_ (by omega)
 rw [if_neg (by omega)]
 refine ⟨ad.add (k*d),rfl,by rw [addBlock];exact hb,fun j v hj=>?_⟩
 rw [addAdd]
 rw [← rowV_drop hf,List.getElem?_drop] at hj
 exact hcell _ _ hj
def Rw (f:α→List Value) (t:TypeId) (w:World) (g:Nat) (L:List α):Prop:=∃ rest:List Value,w.heap[g]?=some (.cells (rowV f L ++ rest).toArray t (0,0))
theorem Rw.lt {t:TypeId} {g:Nat} (h:Rw f t w g L):g<w.heap.size:=by obtain ⟨r,h⟩:=h;exact (Array.getElem?_eq_some_iff.1 h).1
theorem Rw.kept {t:TypeId} {g:Nat} (h:Rw f t w g L) (hb:w'.heap[g]?=w.heap[g]?):Rw f t w' g L:=by obtain ⟨r,h⟩:=h;exact ⟨r,hb.trans h⟩
theorem Rw.below {t:TypeId} {g:Nat} (h:Rw f t w g L) (hb:Below w.heap.size w w'):Rw f t w' g L:=h.kept (hb.block _ h.lt)
theorem Rw.grown {t:TypeId} {g:Nat} (h:Rw f t w g L) {row:Option Nat} (hg:w.grownBy w' row) (hne:row≠some g):Rw f t w' g L:=h.kept (hg.block _ h.lt fun e=>hne e.symm)
theorem Rw.cell {t:TypeId} {g:Nat} (h:Rw f t w g L) {j:Nat} {v:Value} (hj:(rowV f L)[j]?=some v):w.cell? ⟨g,j,none⟩=some v:=by
 obtain ⟨r,h⟩:=h
 rw [cell_of_row w g j _ t (0,0) h]
 have hlt:j<(rowV f L).length:=(List.getElem?_eq_some_iff.1 hj).1
 rw [List.getElem?_toArray,List.getElem?_append_left hlt,hj]
theorem Rw.vs {t:TypeId} {g:Nat} (h:Rw f t w g L):Vs f w (some ⟨g,0,none⟩) L.length L:=⟨rfl,fun _=>⟨_,rfl,h.lt,fun j v hj=>by rw [addHead];exact h.cell hj⟩⟩
theorem Rw.get (hf:∀ a,(f a).length=d) {t:TypeId} {g:Nat} (h:Rw f t w g L) {k:Nat} {a:α} (hk:L[k]?=some a):w.rangeAt g (k*d) (f a):=fun _ _ hj=>h.cell (rowV_get hf hk hj)
theorem Rw.free {t:TypeId} {g:Nat} (h:Rw f t w g L) (j:Nat):w.frozen? ⟨g,j,none⟩=false:=by obtain ⟨r,h⟩:=h;simp [World.frozen?,h]
theorem Rw.there (hf:∀ a,(f a).length=d) {t:TypeId} {g:Nat} (h:Rw f t w g L) {k m:Nat} (hk:k+m≤L.length):w.there g (k*d) (m*d):=fun j hj=>by
 refine ⟨?_,h.free _⟩
 have hl:=rowV_len hf L
 have h2:(k+m)*d≤L.length*d:=Nat.mul_le_mul_right _ hk
 have h3:k*d+j<(rowV f L).length:=by rw [hl];rw [Nat.add_mul] at h2;omega
 rw [h.cell (List.getElem?_eq_getElem h3)]
 rfl
theorem own_rw {base:Nat} {e:TypeId} {g c:Nat} (h:w.ownsRow base e d (.slice (some ⟨g,0,none⟩) n c) n (rowV f L)):Rw f e w g L:=by
 rcases h.2 with ⟨h3,h4⟩ | ⟨g',cap,cur,hv,hb,hg,hle,hm,hs,ht⟩
 · cases h3
 · injection hv with hA _ hc
   injection hA with hA
   injection hA with hA
   subst hA
   refine ⟨cur.toList.drop (n*d),?_⟩
   rw [← ht,List.take_append_drop,Array.toArray_toList]
   exact hg
theorem setCells_row (g:Nat) (t:TypeId):∀ (vs:List Value) (o:Nat) (cur:List Value) (w:World),w.heap[g]?=some (.cells cur.toArray t (0,0))→o+vs.length≤cur.length →
  (w.setCells g o vs).heap[g]?=some (.cells (cur.take o ++ (vs ++ cur.drop (o+vs.length))).toArray t (0,0))∧(∀ k,k≠g→(w.setCells g o vs).heap[k]?=w.heap[k]?)∧(w.setCells g o vs).heap.size=w.heap.size ∧
   (w.setCells g o vs).os=w.os∧(w.setCells g o vs).tape=w.tape∧(w.setCells g o vs).output=w.output:=by
 intro vs
 induction vs with
 | nil=>intro o cur w h _;exact ⟨by simpa [World.setCells] using h,fun _ _=>rfl,rfl,rfl,rfl,rfl⟩
 | cons v vs ih =>
  intro o cur w h hl
  simp only [List.length_cons] at hl
  have h1:(w.setCell ⟨g,o,none⟩ v).heap[g]?=some (.cells (cur.set o v).toArray t (0,0)):=by
   rw [heap_setCell_same w _ _ _ _ _ h]
   simp
  obtain ⟨e1,e2,e3,e4,e5,e6⟩:=ih (o+1) (cur.set o v) (w.setCell ⟨g,o,none⟩ v) h1 (by simp;omega)
  have e0:w.setCells g o (v :: vs)=(w.setCell ⟨g,o,none⟩ v).setCells g (o+1) vs:=rfl
  rw [e0]
  refine ⟨?_,fun k hk=>(e2 k hk).trans (heap_setCell_other w _ k v hk),by rw [e3];simp,e4,e5,e6⟩
  rw [e1]
  congr 3
  have:=list_seg_step cur o v vs (by simpa using hl)
  simpa [Nat.add_assoc] using this
theorem Rw.stored (hf:∀ a,(f a).length=d) {t:TypeId} {g:Nat} (h:Rw f t w g L) {k:Nat} {M:List α} (hk:k+M.length≤L.length) :
  Rw f t (w.setCells g (k*d) (rowV f M)) g (L.take k ++ (M ++ L.drop (k+M.length)))∧w.grownBy (w.setCells g (k*d) (rowV f M)) (some g):=by
 obtain ⟨r,h⟩:=h
 have hl:=rowV_len hf L
 have hm:=rowV_len hf M
 have h2:(k+M.length)*d≤L.length*d:=Nat.mul_le_mul_right _ hk
 rw [Nat.add_mul] at h2
 obtain ⟨e1,e2,e3,e4,e5,e6⟩:=setCells_row g t (rowV f M) (k*d) _ w h (by rw [List.length_append];omega)
 refine ⟨⟨r,?_⟩,e4,e5,e6,by omega,fun i _ hne=>e2 i fun e=>hne (by rw [e])⟩
 rw [e1]
 congr 2
 rw [List.take_append_of_le_length (by omega),List.drop_append_of_le_length (by omega),hm,← Nat.add_mul,rowV_take hf,rowV_drop hf,rowV_append,rowV_append]
 simp only [List.append_assoc]
end
open Go.RowKit
def ceV (c:Ce):List Value:=[.int .i32 c.r,.int .u8 c.wd,.int .u32 c.p.fg,.int .u32 c.p.bg,.int .u8 c.p.st,.int .u16 c.p.lk]
def ceA (c:Ce):Array Value:=#[.int .i32 c.r,.int .u8 c.wd,.int .u32 c.p.fg,.int .u32 c.p.bg,.int .u8 c.p.st,.int .u16 c.p.lk]
def pnA (p:Pn):Array Value:=#[.int .u32 p.fg,.int .u32 p.bg,.int .u8 p.st,.int .u16 p.lk]
theorem ceV_len (c:Ce):(ceV c).length=6:=rfl
theorem getElem?_cAt {L:List Ce} {k:Nat} (h:k<L.length):L[k]?=some (cAt L k):=by rw [cAt_lt h,List.getElem?_eq_getElem h]
theorem one_ce (L:List Ce):∀ v∈rowV ceV L,v.oneCell'=true:=by
 induction L with
 | nil=>intro v hv;cases hv
 | cons c L ih =>
  intro v hv
  rcases List.mem_append.1 hv with hv | hv
  · simp only [ceV,List.mem_cons,List.not_mem_nil,or_false] at hv
    rcases hv with rfl | rfl | rfl | rfl | rfl | rfl<;>rfl
  · exact ih v hv
end Go.Proofs.YtikhknnhmnopbaaGreatDoor
