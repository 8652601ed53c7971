/-
  Part 2 of what the laws of emul want: UtfShelf, UtfTab, UtfFull, UtfBegin, UtfWid, WireLeaf.
-/
import Derived.Shelf.Small.Utf8
import Derived.Shelf.Utf8.AppendRune
import Derived.Shelf.Utf8.AppendRunePlain
import Derived.Shelf.Unicode.DecodeSlow
import Derived.Shelf.Unicode.DecodeAny
import Derived.Test.YtlcipgdnpilkfaaGreatDoorProg
import Derived.Lib.LaidU8
import Derived.Lib.LaidTab
import Derived.LaidMore
import Derived.Lay
import Derived.Stop.Joined
import Derived.Handed
import Derived.WalkKit
import Derived.RegionTactic
import Derived.Deep.Draws
import Derived.Deep.QuietTactic
import Derived.Lib.Hide
import Derived.LoopTactic
import Derived.Deep.CutBlock
import Derived.Laws.Rows
import Derived.BigQuiet
import Derived.Laws.CopyOwn
import Derived.WalkSpells
import Derived.Test.YtlcipgdnpilkfaaGreatDoorPo01
namespace Go.Proofs
open Go.Shelf
def Tryz.lays119_ren:Go.Shelf.Ren:=⟨fun | 119=>156 | n=>n,fun | 21=>21 | 4=>4 | n=>n,fun | n=>n⟩
theorem Tryz.lays119:Go.Proofs.Lays.n119 Tryz.prog Tryz.lays119_ren:={
 mixed:=by kernel_rfl
 f119:=Tryz.func156.trans (congrArg some (by kernel_rfl))
 t4:=Tryz.underlying4
 a4:=Tryz.isAgg4
 z4:=Tryz.sizeOf4
 v4:=Tryz.zeroValue4
 t21:=Tryz.underlying21
 a21:=Tryz.isAgg21
 z21:=Tryz.sizeOf21
 v21:=Tryz.zeroValue21 }
theorem Tryz.utf8_ValidRune (r:Int) (w:World) :
  Calls Tryz.prog 156 #[.int .i32 r] w fun e w'=>e=.returned (.bool (Lib.validRune r))∧w'=w:=Any.utf8_ValidRune Tryz.lays119 r w
open Go.RowKit in
def Tryz.lays260_ren:Go.Shelf.Ren:=⟨fun | 260=>249 | n=>n,fun | 9=>9 | 21=>21 | 3=>3 | 4=>4 | 5=>5 | 119=>229 | 0=>0 | 46=>217 | 139=>232 | 138=>231 | n=>n,fun | 3=>2 | 4=>3 | n=>n⟩
theorem Tryz.lays260:Go.Proofs.Lays.n260 Tryz.prog Tryz.lays260_ren:={
 mixed:=by kernel_rfl
 f260:=Tryz.func249.trans (congrArg some (by kernel_rfl))
 t0:=Tryz.underlying0
 a0:=Tryz.isAgg0
 z0:=Tryz.sizeOf0
 v0:=Tryz.zeroValue0
 t3:=Tryz.underlying3
 a3:=Tryz.isAgg3
 z3:=Tryz.sizeOf3
 v3:=Tryz.zeroValue3
 t4:=Tryz.underlying4
 a4:=Tryz.isAgg4
 z4:=Tryz.sizeOf4
 v4:=Tryz.zeroValue4
 t5:=Tryz.underlying5
 a5:=Tryz.isAgg5
 z5:=Tryz.sizeOf5
 v5:=Tryz.zeroValue5
 t9:=Tryz.underlying9
 a9:=Tryz.isAgg9
 z9:=Tryz.sizeOf9
 v9:=Tryz.zeroValue9
 t21:=Tryz.underlying21
 a21:=Tryz.isAgg21
 z21:=Tryz.sizeOf21
 v21:=Tryz.zeroValue21
 t46:=Tryz.underlying217
 a46:=Tryz.isAgg217
 z46:=Tryz.sizeOf217
 v46:=Tryz.zeroValue217
 t119:=Tryz.underlying229
 a119:=Tryz.isAgg229
 z119:=Tryz.sizeOf229
 t138:=Tryz.underlying231
 a138:=Tryz.isAgg231
 z138:=Tryz.sizeOf231
 v138:=Tryz.zeroValue231
 t139:=Tryz.underlying232
 a139:=Tryz.isAgg232
 z139:=Tryz.sizeOf232
 v139:=Tryz.zeroValue232
 g3:=by kernel_rfl
 g4:=by kernel_rfl }
def Tryz.lays197_ren:Go.Shelf.Ren:=⟨fun | 197=>213 | 260=>249 | n=>n,fun | 9=>9 | 21=>21 | 3=>3 | 4=>4 | 5=>5 | 105=>199 | 119=>229 | 0=>0 | 46=>217 | 139=>232 | 138=>231 | n=>n,fun | 3=>2 | 4=>3 | n=>n⟩
theorem Tryz.lays197:Go.Proofs.Lays.n197 Tryz.prog Tryz.lays197_ren:={
 mixed:=by kernel_rfl
 f197:=Tryz.func213.trans (congrArg some (by kernel_rfl))
 f260:=Tryz.func249.trans (congrArg some (by kernel_rfl))
 t0:=Tryz.underlying0
 a0:=Tryz.isAgg0
 z0:=Tryz.sizeOf0
 v0:=Tryz.zeroValue0
 t3:=Tryz.underlying3
 a3:=Tryz.isAgg3
 z3:=Tryz.sizeOf3
 v3:=Tryz.zeroValue3
 t4:=Tryz.underlying4
 a4:=Tryz.isAgg4
 z4:=Tryz.sizeOf4
 v4:=Tryz.zeroValue4
 t5:=Tryz.underlying5
 a5:=Tryz.isAgg5
 z5:=Tryz.sizeOf5
 v5:=Tryz.zeroValue5
 t9:=Tryz.underlying9
 a9:=Tryz.isAgg9
 z9:=Tryz.sizeOf9
 v9:=Tryz.zeroValue9
 t21:=Tryz.underlying21
 a21:=Tryz.isAgg21
 z21:=Tryz.sizeOf21
 v21:=Tryz.zeroValue21
 t46:=Tryz.underlying217
 a46:=Tryz.isAgg217
 z46:=Tryz.sizeOf217
 v46:=Tryz.zeroValue217
 t105:=Tryz.underlying199
 a105:=Tryz.isAgg199
 z105:=Tryz.sizeOf199
 v105:=Tryz.zeroValue199
 t119:=Tryz.underlying229
 a119:=Tryz.isAgg229
 z119:=Tryz.sizeOf229
 t138:=Tryz.underlying231
 a138:=Tryz.isAgg231
 z138:=Tryz.sizeOf231
 v138:=Tryz.zeroValue231
 t139:=Tryz.underlying232
 a139:=Tryz.isAgg232
 z139:=Tryz.sizeOf232
 v139:=Tryz.zeroValue232
 g3:=by kernel_rfl
 g4:=by kernel_rfl }
open Go.RowKit Go.Lib in
theorem Tryz.utf8_DecodeRuneInString (s:ByteArray) (w:World) (hT:Lib.Utf8Tabs 2 3 w) :
  Calls Tryz.prog 213 #[.string s] w fun e w'=>e=.returned (.tuple #[.int .i32 (Lib.decodeGo s).1,.int .i64 (Lib.decodeGo s).2])∧Below w.heap.size w w':=Any.utf8_DecodeRuneInString Tryz.lays197 s w hT
end Go.Proofs
namespace Go.Proofs.YtlcipgdnpilkfaaGreatDoor
open Go.ChangeShapes Go.WideShapes Go.ChangeAt Go.RowKit
def stL:List (Int × Int × Int):=[(0,31,0),(127,159,0),(768,879,0),(8203,8207,0),(65024,65039,0),(4352,4447,2),(11904,12350,2),(12353,42191,2),(44032,55203,2),(63744,64255,2),(65072,65135,2),(65280,65376,2),(65504,65510,2),(127744,128591,2),(131072,262141,2)]
def stCells:List Value:=(stL.map fun x=>[Value.int .i32 x.1,Value.int .i32 x.2.1,Value.int .i64 x.2.2]).flatten
structure Tabs (w:World):Prop where
 u8:Lib.Utf8Tabs 2 3 w
 st:∃ t fr,w.heap[0]?=some (.cells stCells.toArray t fr)
theorem Tabs.below {w w':World} (h:Tabs w) {B:Nat} (hb:Below B w w') (hB:w.heap.size≤B):Tabs w':=by
 have hb':Below w.heap.size w w':=⟨hb.os,hb.tape,hb.output,hb.size,fun k hk=>hb.block k (by omega)⟩
 obtain ⟨t,fr,hs⟩:=h.st
 have hl:0<w.heap.size:=(Array.getElem?_eq_some_iff.1 hs).1
 exact ⟨Utf8Tabs_below h.u8 hb',t,fr,(hb'.block _ hl).trans hs⟩
abbrev laidL:List (String × DataW Unit):=[("unicode/utf8.acceptRanges",Rows.laid_unicode_utf8_acceptRanges),("spyglass/utf.stretches",Rows.laid_spyglass_utf_stretches),("unicode/utf8.first",Rows.laid_unicode_utf8_first)]
theorem u8x:U8Extra Tryz.prog Tryz.lays260_ren where
 n3:=by kernel_rfl
 n4:=by kernel_rfl
 y3:=by kernel_rfl
 y4:=by kernel_rfl
 c5:=by kernel_rfl
 c119:=by kernel_rfl
 c138:=by kernel_rfl
theorem firstEq:Rows.laid_unicode_utf8_first=Lib.firstData:=by kernel_rfl
theorem acceptEq:(Rows.laid_unicode_utf8_acceptRanges:DataW Unit)=Lib.acceptData:=by kernel_rfl
theorem str_three {H:Type} {enc:TypeId × Value→H} {w:World} {base:Nat} {sp:Nat→Bool} {held:Bool} {fuel:Nat} {cs:List Value} {a b c:Int} {p:List MemPlace}
  (h:DataW.trod enc Tryz.prog w base sp held fuel 174 cs=some (.agg [.lit (.int .i32 a),.lit (.int .i32 b),.lit (.int .i64 c)],p)):cs=[.int .i32 a,.int .i32 b,.int .i64 c]:=by
 have c1:Tryz.prog.cellsOf 21=1:=by kernel_rfl
 have c1':Tryz.prog.cellsOf 3=1:=by kernel_rfl
 have c3:Tryz.prog.cellsOf 174=3:=by kernel_rfl
 obtain ⟨xs,n,rfl,hx,hl,hxl,hall⟩:=DataW.trod_struct Tryz.underlying174 h
 have hxs:xs.map (·.1)=[.lit (.int .i32 a),.lit (.int .i32 b),.lit (.int .i64 c)]:=by
  have:=congrArg Prod.fst hx
  simpa using this.symm
 have hzl:xs.length=3:=by have:=congrArg List.length hxs;simpa using this
 rw [c3] at hl
 obtain ⟨x0,x1,x2,rfl⟩:∃ x0 x1 x2,xs=[x0,x1,x2]:=by
  rcases xs with _ | ⟨x0,_ | ⟨x1,_ | ⟨x2,_ | ⟨x3,t⟩⟩⟩⟩<;>simp at hzl
  exact ⟨x0,x1,x2,rfl⟩
 obtain ⟨v0,v1,v2,rfl⟩:∃ v0 v1 v2,cs=[v0,v1,v2]:=by
  rcases cs with _ | ⟨x0,_ | ⟨x1,_ | ⟨x2,_ | ⟨x3,t⟩⟩⟩⟩<;>simp at hl
  exact ⟨x0,x1,x2,rfl⟩
 simp at hxs
 have h0:=hall 0 _ rfl
 have h1:=hall 1 _ rfl
 have h2:=hall 2 _ rfl
 simp [c1] at h0 h1
 simp [c1'] at h2
 obtain ⟨z0,e0,f0,_⟩:=DataW.trod_int Tryz.underlying21 h0
 obtain ⟨z1,e1,f1,_⟩:=DataW.trod_int Tryz.underlying21 h1
 obtain ⟨z2,e2,f2,_⟩:=DataW.trod_int Tryz.underlying3 h2
 simp_all
theorem stretch_cells {w:World} {fuel:Nat} {cs:List Value} {p:List MemPlace}
  (h:DataW.trod (fun _=>()) Tryz.prog w 0 (fun _=>true) false fuel 175 cs=some (Rows.laid_spyglass_utf_stretches,p)):cs=stCells:=by
 have c45:Tryz.prog.cellsOf 175=45:=by kernel_rfl
 have c3:Tryz.prog.cellsOf 174=3:=by kernel_rfl
 have hl:cs.length=45:=by
  obtain ⟨xs,m,_,_,hl,_⟩:=DataW.trod_array Tryz.underlying175 h
  rw [hl,c45]
 have he:∀ i,(hi:i<15)→(cs.drop (i*3)).take 3=(let x:=stL.getD i (0,0,0);[Value.int .i32 x.1,Value.int .i32 x.2.1,Value.int .i64 x.2.2]):=by
  intro i hi
  obtain ⟨fuel',d,q,hdi,hd'⟩:=Lib.array_elem Tryz.underlying175 h i hi
  rw [c3] at hd'
  have e:d=(let x:=stL.getD i (0,0,0);DataW.agg [.lit (.int .i32 x.1),.lit (.int .i32 x.2.1),.lit (.int .i64 x.2.2)]):=by
   have h15:i=0∨i=1∨i=2∨i=3∨i=4∨i=5∨i=6∨i=7∨i=8∨i=9∨i=10∨i=11∨i=12∨i=13∨i=14:=by omega
   rcases h15 with rfl | rfl | rfl | rfl | rfl | rfl | rfl | rfl | rfl | rfl | rfl | rfl | rfl | rfl | rfl<;>(cases hdi;rfl)
  subst e
  exact str_three hd'
 have key:∀ (n i:Nat) (cs:List Value),cs.length=3*n→(∀ k,k<n→(cs.drop (k*3)).take 3=(let x:=(stL.drop i).getD k (0,0,0);[Value.int .i32 x.1,Value.int .i32 x.2.1,Value.int .i64 x.2.2]))→i+n=15 →
   cs=((stL.drop i).map fun x=>[Value.int .i32 x.1,Value.int .i32 x.2.1,Value.int .i64 x.2.2]).flatten:=by
  intro n
  induction n with
  | zero => intro i cs hc _ hi; obtain rfl : i = 15 := by omega
            rw [List.drop_of_length_le (show stL.length≤15 from Nat.le_refl 15)];simpa using hc
  | succ n ih =>
   intro i cs hc hk hi
   have h0:=hk 0 (by omega)
   have hlen:i<stL.length:=by show i<15;omega
   rw [List.drop_eq_getElem_cons hlen] at h0 ⊢
   have h2:=ih (i+1) (cs.drop 3) (by simp [hc];omega) (fun k hk'=>by
    have:=hk (k+1) (by omega)
    rw [List.drop_drop,show 3+k*3=(k+1)*3 by omega]
    rw [this,List.drop_eq_getElem_cons hlen];rfl) (by omega)
   simp only [List.map_cons,List.flatten_cons,← h2]
   simp only [Nat.zero_mul,List.drop_zero] at h0
   conv=>lhs;rw [← List.take_append_drop 3 cs]
   rw [h0];rfl
 exact key 15 0 _ (by rw [hl]) (fun k hk=>he k hk) rfl
theorem tabs_of_laid {W:World} (h:laidMetH Tryz.prog laidL W):Tabs W:=by
 rw [MakeChecks.laidMetH_plain _ _ _ (by kernel_rfl)] at h
 have h3:Lib.VarReads Tryz.prog W "unicode/utf8.first" Lib.firstData:=firstEq ▸ Lib.laidMet.reads h (by simp [laidL])
 have h4:Lib.VarReads Tryz.prog W "unicode/utf8.acceptRanges" Lib.acceptData:=acceptEq ▸ Lib.laidMet.reads h (by simp [laidL])
 have h5:Lib.VarReads Tryz.prog W "spyglass/utf.stretches" Rows.laid_spyglass_utf_stretches:=Lib.laidMet.reads h (by simp [laidL])
 refine ⟨utf8Tabs_of_reads Tryz.lays260 u8x h3 h4,?_⟩
 obtain ⟨g,t,cs,fuel,p,hg,hty,hvar,hd⟩:=h5
 obtain rfl:=Option.some.inj ((show Tryz.prog.globalNamed "spyglass/utf.stretches"=some 0 by kernel_rfl).symm.trans hg)
 obtain rfl:=Option.some.inj ((show (Tryz.prog.globals[0]?).map (·.type)=some 175 by kernel_rfl).symm.trans hty)
 have hcs:cs.toList=stCells:=stretch_cells hd
 unfold World.var? at hvar
 rw [hg] at hvar
 simp only [Option.bind_some] at hvar
 split at hvar
 · rename_i c t' fr hc
   cases hvar
   exact ⟨t',fr,by rw [hc,← hcs]⟩
 · cases hvar
theorem start_shaped (os:Os):(World.laidAll Tryz.prog os laidL).Shaped Tryz.prog:=World.shaped_of_ZipB (by kernel_rfl) (by kernel_rfl)
theorem start_met (os:Os) (args:Array Value):laidMetH Tryz.prog laidL ((World.laidAll Tryz.prog os laidL).forCall (fun _ _=>0) ⟨#[],args,[]⟩).memory:=by
 rw [MakeChecks.laidMetH_plain _ _ _ (by kernel_rfl)];exact laidMet_laidAll _ (by kernel_rfl) (by kernel_rfl)
open Go.RowKit
def sL (s:ByteArray):List Int:=s.data.toList.map fun b=>(b.toNat:Int)
theorem sL_len (s:ByteArray):(sL s).length=s.size:=by simp [sL]
theorem sL_b (s:ByteArray):∀ z∈sL s,0≤z∧z≤255:=fun z hz=>by
 obtain ⟨b,_,rfl⟩:=List.mem_map.1 hz
 have:=b.toNat_lt;omega
theorem sL_get {s:ByteArray} {k:Nat} (h:k<s.size):(sL s).getD k 0=((s.get! k).toNat:Int):=by
 rw [Utf8W.get!_of_lt s k h]
 simp [sL,List.getD,List.getElem?_eq_getElem (show k<s.data.toList.length from h)]
 rfl
theorem begN {L:List Int}:begS L=decide (1≤L.length∧L.length<szF (L.getD 0 0)∧(2≤L.length→okF (L.getD 0 0) (L.getD 1 0)=true)∧(3≤L.length→ctF (L.getD 2 0)=true)):=by
 rcases L with _ | ⟨a,_ | ⟨b,_ | ⟨c,_ | ⟨d,t⟩⟩⟩⟩
 · simp [begS]
 · simp [begS];omega
 · simp [begS]
   by_cases h:okF a b=true<;>simp [h] ; omega
 · simp [begS]
   by_cases h:okF a b=true<;>by_cases h':ctF c=true<;>simp [h,h'] ; omega
 · simp [begS]
   intro h;rcases szF_le a with e | e | e | e | e<;>omega
theorem first_sz (x:Nat) (h:x<256):(Lib.firstT x=240∧szF x=1)∨(Lib.firstT x=241∧szF x=0) ∨
  (∃ X,Lib.firstT x=X∧2≤X∧X<240∧X % 8=szF x∧2≤szF x∧szF x≤4∧(Lib.accLo (X / 16):Int)=loF x∧(Lib.accHi (X / 16):Int)=hiF x∧X / 16<5):=by
 have key:∀ y:Fin 256,(Lib.firstT y.val=240∧szF y.val=1)∨(Lib.firstT y.val=241∧szF y.val=0) ∨
   (2≤Lib.firstT y.val∧Lib.firstT y.val<240∧Lib.firstT y.val % 8=szF y.val∧2≤szF y.val∧szF y.val≤4∧(Lib.accLo (Lib.firstT y.val / 16):Int)=loF y.val∧(Lib.accHi (Lib.firstT y.val / 16):Int)=hiF y.val∧Lib.firstT y.val / 16<5):=by decide +kernel
 rcases key ⟨x,h⟩ with h | h | h
 · exact .inl h
 · exact .inr (.inl h)
 · exact .inr (.inr ⟨_,rfl,h⟩)
set_option maxHeartbeats 1600000 in
set_option maxRecDepth 100000 in
theorem full_any {w:World} (s:ByteArray) (hT:Tabs w) (h0:0<s.size) :
  Calls Tryz.prog 248 #[.string s] w fun e w'=>e=.returned (.bool (!begS (sL s)))∧Below w.heap.size w w':=by
 obtain ⟨B,hB⟩:∃ B,begS (sL s)=B:=⟨_,rfl⟩
 rw [hB]
 rw [begN,sL_len,sL_get h0] at hB
 have hz0:(0:Int)<(s.size:Int):=by omega
 obtain ⟨x0,hx0⟩:∃ x0,s.get! 0=x0:=⟨_,rfl⟩
 have hs0:s[0]'h0=x0:=by rw [← hx0];exact (Utf8W.get!_of_lt s 0 h0).symm
 have l0:=x0.toNat_lt
 rw [hx0] at hB
 have hc0:=hT.u8.1 x0.toNat (by omega)
 rcases first_sz x0.toNat l0 with ⟨hX,hsz⟩ | ⟨hX,hsz⟩ | ⟨X,hX,hX2,hX240,hm,hs2,hs4,hlo,hhi,h5⟩
 · have hBf:B=false:=by rw [← hB];simp;omega
   rw [hX] at hc0
   clear hT hB hX
   subst hBf
   go_enter Tryz.func248,Tryz.ntmps248
   go_wp2
   go_ret
   exact ⟨rfl,Below.refl _ _⟩
 · have hBf:B=false:=by rw [← hB];simp;omega
   rw [hX] at hc0
   clear hT hB hX
   subst hBf
   go_enter Tryz.func248,Tryz.ntmps248
   go_wp2
   go_ret
   exact ⟨rfl,Below.refl _ _⟩
 · have ha:=hT.u8.2 (X / 16) (by omega)
   rw [hX] at hc0
   clear hT
   have hXc:X=2∨X=19∨X=3∨X=35∨X=52∨X=4∨X=68:=by have:=Lib.firstT_cases x0.toNat;omega
   clear hX
   have hB':B=decide (s.size<X % 8∧(2≤s.size→okF x0.toNat ((sL s).getD 1 0)=true)∧(3≤s.size→ctF ((sL s).getD 2 0)=true)):=by rw [← hB,hm];simp only [show 1≤s.size by omega,true_and]
   clear hB
   by_cases hn:X % 8≤s.size
   · have hBf:B=false:=by rw [hB'];simp;omega
     clear hB'
     subst hBf
     rcases hXc with rfl | rfl | rfl | rfl | rfl | rfl | rfl
     all_goals
      simp only [Nat.reduceMod] at hn
      have hnz:=Int.ofNat_le.2 hn
      go_enter Tryz.func248,Tryz.ntmps248
      go_wp2
      go_ret
      exact ⟨rfl,Below.refl _ _⟩
   have hn':s.size<X % 8:=by omega
   simp only [hn',true_and] at hB'
   obtain ⟨ha0,ha1⟩:=ha
   rw [hlo] at ha0
   rw [hhi] at ha1
   have hl1:=loF_ge x0.toNat
   have hh1:=hiF_le x0.toNat
   have hok:∀ y:Int,okF x0.toNat y=decide (loF x0.toNat≤y∧y≤hiF x0.toNat):=fun y=>rfl
   generalize loF x0.toNat=lo at ha0 hl1 hok
   generalize hiF x0.toNat=hi at ha1 hh1 hok
   clear hlo hhi hm hs2 hs4
   by_cases hs1:s.size=1
   · have hBt:B=true:=by rw [hB',hs1];simp
     clear hB' hok
     subst hBt
     have hd1:decide ((1:Int)<(s.size:Int))=false:=by simp;omega
     have hd2:decide ((2:Int)<(s.size:Int))=false:=by simp;omega
     rcases hXc with rfl | rfl | rfl | rfl | rfl | rfl | rfl
     all_goals
      simp only [Nat.reduceMod,Nat.reduceDiv,Nat.reduceMul,Nat.reduceAdd] at hn hn' ha0 ha1
      have hnz:=Int.ofNat_lt.2 hn'
      go_enter Tryz.func248,Tryz.ntmps248
      go_wp2
      go_quiet (fail)
      go_wp2
      go_ret
      exact ⟨rfl,below_drewN' ((Below.refl _ _).alloc (Nat.le_refl _) _) _⟩
   have hx1':=sL_get (s:=s) (k:=1) (by omega)
   obtain ⟨x1,hx1⟩:∃ x1,s.get! 1=x1:=⟨_,rfl⟩
   have hs1':s[1]'(by omega)=x1:=by rw [← hx1];exact (Utf8W.get!_of_lt s 1 (by omega)).symm
   have hz1:(1:Int)<(s.size:Int):=by omega
   have hd1:decide ((1:Int)<(s.size:Int))=true:=by simp;omega
   rw [hx1] at hx1'
   rw [hx1',hok] at hB'
   clear hok hx1'
   have hXc':X=19∨X=3∨X=35∨X=52∨X=4∨X=68:=by omega
   clear hXc
   by_cases hb1:(x1.toNat:Int)<lo
   · have hBt:B=false:=by rw [hB'];simp;omega
     clear hB'
     subst hBt
     have hdl:decide ((x1.toNat:Int)<lo)=true:=by simpa using hb1
     rcases hXc' with rfl | rfl | rfl | rfl | rfl | rfl
     all_goals
      simp only [Nat.reduceMod,Nat.reduceDiv,Nat.reduceMul,Nat.reduceAdd] at hn hn' ha0 ha1
      have hnz:=Int.ofNat_lt.2 hn'
      go_enter Tryz.func248,Tryz.ntmps248
      go_wp2
      go_quiet (fail)
      go_wp2
      go_ret
      exact ⟨rfl,below_drewN' ((Below.refl _ _).alloc (Nat.le_refl _) _) _⟩
   have hdl:decide ((x1.toNat:Int)<lo)=false:=by simpa using hb1
   by_cases hb2:hi<(x1.toNat:Int)
   · have hBt:B=false:=by rw [hB'];simp;omega
     clear hB'
     subst hBt
     have hdh:decide (hi<(x1.toNat:Int))=true:=by simpa using hb2
     rcases hXc' with rfl | rfl | rfl | rfl | rfl | rfl
     all_goals
      simp only [Nat.reduceMod,Nat.reduceDiv,Nat.reduceMul,Nat.reduceAdd] at hn hn' ha0 ha1
      have hnz:=Int.ofNat_lt.2 hn'
      go_enter Tryz.func248,Tryz.ntmps248
      go_wp2
      go_quiet (fail)
      go_wp2
      go_ret
      exact ⟨rfl,below_drewN' ((Below.refl _ _).alloc (Nat.le_refl _) _) _⟩
   have hdh:decide (hi<(x1.toNat:Int))=false:=by simpa using hb2
   have hin:lo≤(x1.toNat:Int)∧(x1.toNat:Int)≤hi:=by omega
   simp only [hin,and_self,decide_true,implies_true,true_and] at hB'
   by_cases hs2:s.size=2
   · have hBt:B=true:=by rw [hB',hs2];simp
     clear hB'
     subst hBt
     have hd2:¬ ((2:Int)<(s.size:Int)):=by omega
     rcases hXc' with rfl | rfl | rfl | rfl | rfl | rfl
     all_goals
      simp only [Nat.reduceMod,Nat.reduceDiv,Nat.reduceMul,Nat.reduceAdd] at hn hn' ha0 ha1
      have hnz:=Int.ofNat_lt.2 hn'
      go_enter Tryz.func248,Tryz.ntmps248
      go_wp2
      go_quiet (fail)
      go_wp2
      go_ret
      exact ⟨rfl,below_drewN' ((Below.refl _ _).alloc (Nat.le_refl _) _) _⟩
   have hx2':=sL_get (s:=s) (k:=2) (by omega)
   obtain ⟨x2,hx2⟩:∃ x2,s.get! 2=x2:=⟨_,rfl⟩
   have hs2':s[2]'(by omega)=x2:=by rw [← hx2];exact (Utf8W.get!_of_lt s 2 (by omega)).symm
   have hz2:(2:Int)<(s.size:Int):=by omega
   rw [hx2] at hx2'
   rw [hx2'] at hB'
   clear hx2'
   have hXc:X=52∨X=4∨X=68:=by omega
   clear hXc'
   have hc3:3≤s.size:=by omega
   have hc2:ctF (x2.toNat:Int)=decide (128≤(x2.toNat:Int)∧(x2.toNat:Int)≤191):=rfl
   rw [hc2] at hB'
   clear hc2
   by_cases hb3:(x2.toNat:Int)<128
   · have hBt:B=false:=by rw [hB'];simp;omega
     clear hB'
     subst hBt
     rcases hXc with rfl | rfl | rfl
     all_goals
      simp only [Nat.reduceMod,Nat.reduceDiv,Nat.reduceMul,Nat.reduceAdd] at hn hn' ha0 ha1
      have hnz:=Int.ofNat_lt.2 hn'
      go_enter Tryz.func248,Tryz.ntmps248
      go_wp2
      go_quiet (fail)
      go_wp2
      go_ret
      exact ⟨rfl,below_drewN' ((Below.refl _ _).alloc (Nat.le_refl _) _) _⟩
   by_cases hb4:191<(x2.toNat:Int)
   · have hBt:B=false:=by rw [hB'];simp;omega
     clear hB'
     subst hBt
     rcases hXc with rfl | rfl | rfl
     all_goals
      simp only [Nat.reduceMod,Nat.reduceDiv,Nat.reduceMul,Nat.reduceAdd] at hn hn' ha0 ha1
      have hnz:=Int.ofNat_lt.2 hn'
      go_enter Tryz.func248,Tryz.ntmps248
      go_wp2
      go_quiet (fail)
      go_wp2
      go_ret
      exact ⟨rfl,below_drewN' ((Below.refl _ _).alloc (Nat.le_refl _) _) _⟩
   have hBt:B=true:=by rw [hB'];simp;omega
   clear hB'
   subst hBt
   rcases hXc with rfl | rfl | rfl
   all_goals
    simp only [Nat.reduceMod,Nat.reduceDiv,Nat.reduceMul,Nat.reduceAdd] at hn hn' ha0 ha1
    have hnz:=Int.ofNat_lt.2 hn'
    go_enter Tryz.func248,Tryz.ntmps248
    go_wp2
    go_quiet (fail)
    go_wp2
    go_ret
    exact ⟨rfl,below_drewN' ((Below.refl _ _).alloc (Nat.le_refl _) _) _⟩
theorem unfinished_any {w:World} (s:ByteArray) (hT:Tabs w) (h0:0<s.size) :
  Calls Tryz.prog 212 #[.string s] w fun e w'=>e=.returned (.bool (begS (sL s)))∧Below w.heap.size w w':=by
 have H:=Lib.hid (full_any s hT h0)
 clear hT h0
 obtain ⟨B,hB⟩:∃ B,begS (sL s)=B:=⟨_,rfl⟩
 rw [hB] at H ⊢
 go_enter Tryz.func212,Tryz.ntmps212
 go_wp2_with fail
 refine H.out.mono ?_
 rintro e w1 ⟨rfl,hb1⟩
 go_wp2_with fail
 go_ret
 exact ⟨by cases B<;>rfl,hb1⟩
open Go.RowKit
theorem sL_take (s:ByteArray) (k:Nat):sL (s.extract 0 k)=(sL s).take k:=by
 simp [sL,ByteArray.extract,ByteArray.copySlice]
theorem begLen_step {L:List Int} {n:Nat} (hn:n≤begLen L) (h:n<L.length):begS (L.take (n+1))=decide (n<begLen L):=by
 have h3:n≤3:=by
  have:begLen L≤3:=by rcases L with _ | ⟨a,_ | ⟨b,_ | ⟨c,t⟩⟩⟩<;>simp [begLen]<;>(repeat' split)<;>omega
  omega
 have hn4:n=0∨n=1∨n=2∨n=3:=by omega
 rcases L with _ | ⟨a,_ | ⟨b,_ | ⟨c,_ | ⟨d,t⟩⟩⟩⟩
 · simp at h
 all_goals
  simp at h
  rcases hn4 with rfl | rfl | rfl | rfl<;>(first | (exfalso;omega) | skip) <;>
  rcases szF_le a with ha | ha | ha | ha | ha<;>simp [begLen,begS,ha] at hn ⊢<;>(repeat' split at hn)<;>simp_all<;>(repeat' split)<;>omega
def iOf:Value→Int
 | .int _ x=>x
 | _=>0
theorem begLen_le (L:List Int):begLen L≤L.length∧begLen L≤3:=by
 rcases L with _ | ⟨a,_ | ⟨b,_ | ⟨c,t⟩⟩⟩<;>simp [begLen]<;>(repeat' split)<;>omega
set_option maxHeartbeats 800000 in
theorem beginning_any {w:World} (s:ByteArray) (hT:Tabs w) (hs:s.size≤9223372036854775807) :
  Calls Tryz.prog 237 #[.string s] w fun e w'=>e=.returned (.int .i64 (begLen (sL s)))∧Below w.heap.size w w':=by
 have HB:=Lib.hid (And.intro hT (And.intro (sL_len s) (begLen_le (sL s))))
 clear hT
 obtain ⟨K,hK⟩:∃ K,begLen (sL s)=K:=⟨_,rfl⟩
 rw [hK]
 have HK:=Lib.hid hK
 clear hK
 go_enter Tryz.func237,Tryz.ntmps237
 go_wp2_with fail
 go_loopw [3] (fun i wr=>∃ k:Nat,k≤K∧k≤s.size∧i=.int .i64 k∧Below w.heap.size w wr) (fun i _=>s.size-(iOf i).toNat)
 case atStart=>exact ⟨0,Nat.zero_le _,Nat.zero_le _,rfl,Below.refl _ _⟩
 case round =>
  obtain ⟨k,hk,hks,rfl,hbw⟩:=hrel
  have HW:=Lib.hid (And.intro hk hbw)
  clear hk hbw
  by_cases hlt:k<s.size
  · have hkl:(k:Int)<(s.size:Int):=by omega
    have hkl1:(k:Int)+1≤(s.size:Int):=by omega
    have hu:Calls Tryz.prog 212 #[.string (s.extract 0 (k+1))] wr fun e w'=>e=.returned (.bool (decide (k<K)))∧Below wr.heap.size wr w':=by
     have h1:=unfinished_any (w:=wr) (s.extract 0 (k+1)) (HB.out.1.below HW.out.2 (Nat.le_refl _)) (by simp [ByteArray.size_extract];omega)
     rw [sL_take,begLen_step (by rw [HK.out];exact HW.out.1) (by rw [HB.out.2.1];exact hlt),HK.out] at h1
     exact h1
    have HU:=Lib.hid hu
    clear hu
    by_cases hkK:k<K
    · have e:decide (k<K)=true:=by simpa using hkK
      go_wp2_with fail
      refine HU.out.mono ?_
      rintro e1 w1 ⟨rfl,hb1⟩
      rw [e]
      go_wp2_with fail
      go_roundw
      case rel=>exact ⟨k+1,by omega,by omega,by go_num,HW.out.2.trans (hb1.mono HW.out.2.size)⟩
      case measure=>simp [iOf];omega
    · have e:decide (k<K)=false:=by simpa using hkK
      go_wp2_with fail
      refine HU.out.mono ?_
      rintro e1 w1 ⟨rfl,hb1⟩
      rw [e]
      go_wp2_with fail
      go_ret
      obtain rfl:k=K:=by have:=HW.out.1;omega
      exact ⟨rfl,HW.out.2.trans (hb1.mono HW.out.2.size)⟩
  · go_wp2_with fail
    go_ret
    have h1:=HB.out.2.1
    have h2:=HB.out.2.2.1
    have h3:=HK.out
    obtain rfl:k=K:=by have:=HW.out.1;omega
    exact ⟨rfl,HW.out.2⟩
open Go.RowKit
def inSt (r:Int):List (Int × Int × Int)→Int
 | []=>1
 | x :: l=>if x.1≤r∧r≤x.2.1 then x.2.2 else inSt r l
def widthS (r:Int):Int:=if mayS r=true then inSt r stL else 0
theorem valid_may (r:Int):Lib.validRune r=mayS r:=by
 unfold Lib.validRune mayS
 rw [Bool.eq_iff_iff]
 simp
 omega
theorem idx_st (k:Nat) (hk:k<15) (w:World):(Instr.index 175 (.agg stCells.toArray) (.int .i64 (k:Int))).run Tryz.prog w =
  .ok (.agg #[.int .i32 (stL.getD k (0,0,0)).1,.int .i32 (stL.getD k (0,0,0)).2.1,.int .i64 (stL.getD k (0,0,0)).2.2]) w:=by
 have h15:k=0∨k=1∨k=2∨k=3∨k=4∨k=5∨k=6∨k=7∨k=8∨k=9∨k=10∨k=11∨k=12∨k=13∨k=14:=by omega
 rcases h15 with rfl | rfl | rfl | rfl | rfl | rfl | rfl | rfl | rfl | rfl | rfl | rfl | rfl | rfl | rfl<;>(show _=_;kernel_rfl)
theorem infoSt:(Tryz.prog.info? 175).map (·.size)=some stCells.toArray.size:=by kernel_rfl
set_option maxHeartbeats 1600000 in
theorem width_any {w:World} (r:Int) (hT:Tabs w) :
  Calls Tryz.prog 99 #[.int .i32 r] w fun e w'=>e=.returned (.int .i64 (widthS r))∧Below w.heap.size w w':=by
 have H:=Lib.hid (And.intro hT (valid_may r))
 clear hT
 cases hm:mayS r
 · have HV:=Lib.hid (H.out.2.trans hm)
   go_enter Tryz.func99,Tryz.ntmps99
   go_wp2_with fail
   refine (Tryz.utf8_ValidRune r w).mono ?_
   rintro e w1 ⟨rfl,rfl⟩
   rw [HV.out]
   go_wp2_with fail
   go_ret
   exact ⟨by simp [widthS,hm],Below.refl _ _⟩
 · have HV:=Lib.hid (H.out.2.trans hm)
   obtain ⟨t,fr,hst⟩:=H.out.1.st
   have HS:=Lib.hid hst
   clear hst
   obtain ⟨ANS,hA⟩:∃ ANS,inSt r stL=ANS:=⟨_,rfl⟩
   have HA:=Lib.hid hA
   clear hA
   go_enter Tryz.func99,Tryz.ntmps99
   go_wp2_with fail
   refine (Tryz.utf8_ValidRune r w).mono ?_
   rintro e w1 ⟨rfl,rfl⟩
   rw [HV.out]
   go_wp2_with (refine wpList_load_row rfl 175 (.global 0) rfl 0 rfl t stCells.toArray fr _ HS.out Tryz.underlying175 rfl infoSt ?_)
   generalize hcs:stCells.toArray=CS
   go_loopw [9] (fun i wr=>∃ k:Nat,k≤15∧i=.int .i64 k∧inSt r (stL.drop k)=ANS∧Below w1.heap.size w1 wr) (fun i _=>15-(iOf i).toNat)
   case atStart=>exact ⟨0,by omega,rfl,HA.out,Below.refl _ _⟩
   case round =>
    obtain ⟨k,hk,rfl,hst,hbw⟩:=hrel
    have HW:=Lib.hid (And.intro hst hbw)
    clear hst hbw
    by_cases hlt:k<15
    · have hkl:(k:Int)<15:=by omega
      obtain ⟨lo,hi,co,he⟩:∃ lo hi co,stL.getD k (0,0,0)=(lo,hi,co):=⟨_,_,_,rfl⟩
      have hidx:=idx_st k hlt
      rw [he,hcs] at hidx
      have hd:stL.drop k=(lo,hi,co) :: stL.drop (k+1):=by
       have hl:k<stL.length:=hlt
       rw [List.drop_eq_getElem_cons hl,← he];simp [List.getD,List.getElem?_eq_getElem hl]
      have HD:=Lib.hid hd
      clear hd he
      by_cases h1:lo≤r
      · have h1':decide (lo≤r)=true:=by simpa using h1
        by_cases h2:r≤hi
        · have h2':decide (r≤hi)=true:=by simpa using h2
          go_wp2_with fail
          go_ret
          have:=HW.out.1
          rw [HD.out] at this
          simp only [inSt,h1,h2,and_self,if_true] at this
          exact ⟨by simp [widthS,hm,HA.out,this],HW.out.2.alloc HW.out.2.size _⟩
        · have h2':decide (r≤hi)=false:=by simpa using h2
          go_wp2_with fail
          go_roundw
          case rel =>
           have:=HW.out.1
           rw [HD.out] at this
           simp only [inSt,h2,and_false,if_false] at this
           exact ⟨k+1,by omega,by go_num,this,HW.out.2.alloc HW.out.2.size _⟩
          case measure=>simp [iOf];omega
      · have h1':decide (lo≤r)=false:=by simpa using h1
        go_wp2_with fail
        go_roundw
        case rel =>
         have:=HW.out.1
         rw [HD.out] at this
         simp only [inSt,h1,false_and,if_false] at this
         exact ⟨k+1,by omega,by go_num,this,HW.out.2.alloc HW.out.2.size _⟩
        case measure=>simp [iOf];omega
    · obtain rfl:k=15:=by omega
      go_wp2_with fail
      go_ret
      have:=HW.out.1
      exact ⟨by simp only [widthS,hm,if_true,HA.out,← this];rfl,HW.out.2⟩
open Go.RowKit
theorem info8:(Tryz.prog.info? 5).map (fun i=>(i.zero,i.size,i.bytes))=some (some (.int .u8 0),1,1):=by kernel_rfl
end Go.Proofs.YtlcipgdnpilkfaaGreatDoor
