/-
  Part 7 of what the laws of emul want: UtfMem, UtfWord.
-/
import Derived.Laws.BytesArg
import Derived.Laws.RangeAny
import Derived.LoopTactic
import Derived.Lib.ValidLaws
import Derived.Lib.EndianBits
import Derived.Deep.QuietTactic
import Derived.BigQuiet
import Derived.Laws.BitsAllLaws
import Derived.Test.YtikhknnhmnopbaaGreatDoorPm01
import Derived.Test.YtikhknnhmnopbaaGreatDoorPm02
import Derived.Test.YtikhknnhmnopbaaGreatDoorPm06
namespace Go.Proofs.YtikhknnhmnopbaaGreatDoor
open Go.RowKit
theorem sL_nums {zs:List Int} (h:U8s zs):sL (strOfNums zs)=zs:=by
 rw [sL,strOfNums_data,List.map_map]
 conv=>rhs;rw [← List.map_id zs]
 apply List.map_congr_left
 intro z hz
 have:=h z hz
 simp [Function.comp]
 omega
theorem conv_any {w:World} {A:Option Addr} {n c:Nat} {zs:List Int} (h:Sb w A n zs) (dst:TypeId) (hd:Tryz.prog.underlying dst=some .string) :
  (convert 26 dst (.slice A n c)).run Tryz.prog w=.ok (.string (strOfNums zs)) w:=by
 by_cases hn:n=0
 · subst hn
   obtain rfl:zs=[]:=List.eq_nil_of_length_eq_zero h.len
   cases A with
   | none=>exact run_convert_bytes_nil w _ _ Tryz.underlying26 Tryz.underlying5 0 c dst hd
   | some ad =>
    rw [run_convert_bytes_string w _ dst _ _ 0 c Tryz.underlying26 Tryz.underlying5 hd,run_bytesToString w _ 0 c [] (by simpa using run_loadCells_list (P:=Tryz.prog) w ad [] (fun j v hj=>by simp at hj))]
    rfl
 · obtain ⟨ad,rfl⟩:=h.addr (by omega)
   have hl:(loadCells ad n).run Tryz.prog w=.ok (zs.map (Value.int .u8)).toArray w:=by
    have:=run_loadCells_list (P:=Tryz.prog) w ad (zs.map (Value.int .u8)) (fun j v hj=>h.news j v hj)
    simpa [h.len] using this
   rw [run_convert_bytes_string w _ dst _ _ n c Tryz.underlying26 Tryz.underlying5 hd,run_bytesToString w _ n c zs hl,foldl_push_bytes]
   simp [strOfNums,ByteArray.empty,ByteArray.emptyWithCapacity]
   rfl
def It (w:World) (it:Nat) (s:ByteArray) (pos:Nat):Prop:=w.heap[it]?=some (.stringIter s pos)
theorem It.lt {w:World} {it:Nat} {s:ByteArray} {pos:Nat} (h:It w it s pos):it<w.heap.size:=(Array.getElem?_eq_some_iff.1 h).1
theorem It.below {w w':World} {it:Nat} {s:ByteArray} {pos:Nat} (h:It w it s pos) (hb:Below w.heap.size w w'):It w' it s pos:=(hb.block it h.lt).trans h
theorem It.pos {w:World} {it:Nat} {s:ByteArray} {pos:Nat} (h:It w it s pos):w.iterPos it=pos:=by
 unfold World.iterPos;rw [h]
theorem It.next {w:World} {it:Nat} {s:ByteArray} {pos:Nat} (h:It w it s pos) (hp:pos<s.size):∃ w',It w' it s (pos+(Utf8.decode s pos).2)∧w.grownBy w' (some it)∧w'.heap.size=w.heap.size ∧
  ∀ ty,(Instr.next (.pointer (some ⟨it,0,none⟩)) true ty).run Tryz.prog w=.ok (.tuple #[.bool true,.int .i64 pos,.int .i32 (Utf8.decode s pos).1]) w':=by
 refine ⟨{ w with heap:=w.heap.setIfInBounds it (.stringIter s (pos+(Utf8.decode s pos).2)) },?_,⟨rfl,rfl,rfl,by simp,fun k hk hne=>?_⟩,by simp,fun ty=>?_⟩
 · have:=h.lt
   simp [It,this]
 · have:it≠k:=fun e=>hne (by rw [e])
   simp [this]
 · have h':w.heap[it]?=some (.stringIter s pos):=h
   simp only [Instr.next,getObj,setObj,Sem.run_bind,Sem.run,h',Result.andThen,hp,if_true]
   simp [goInt]
theorem It.done {w:World} {it:Nat} {s:ByteArray} {pos:Nat} (h:It w it s pos) (hp:¬ pos<s.size) (ty:TypeId):(Instr.next (.pointer (some ⟨it,0,none⟩)) true ty).run Tryz.prog w=.ok (.tuple #[.bool false]) w:=by
 have h':w.heap[it]?=some (.stringIter s pos):=h
 simp [Instr.next,getObj,Sem.run,h',hp]
theorem info32:(Tryz.prog.info? 21).map (fun i=>(i.zero,i.size,i.bytes))=some (some (.int .i32 0),1,4):=by kernel_rfl
theorem ownI_below {w w':World} {base:Nat} {e:TypeId} {size:Nat} {v:Value} {n:Nat} {xs:List Value} (h:w.ownsRow base e size v n xs) (hb:Below w.heap.size w w'):w'.ownsRow base e size v n xs :=
 h.kept (grownBy_below (row:=none) hb) (by cases v.ownBlock<;>simp)
open Go.RowKit
theorem valid_asc:∀ (k:Nat) (L:List Int),U8s L→(∀ z∈L.take k,z<128)→validS L=validS (L.drop k)
 | 0,L,_,_=>rfl
 | k+1,[],_,_=>by simp
 | k+1,a :: L,h8,h=>by
  have ha:a<128:=h a (by simp)
  have hh:headS (a :: L)=some (a,1):=by
   have hs:=szF1.2 ha
   rcases L with _ | ⟨b,_ | ⟨c,_ | ⟨d,t⟩⟩⟩<;>simp [headS,hs]
  rw [valid_head h8 hh]
  exact valid_asc k L (fun z hz=>h8 z (by simp [hz])) (fun z hz=>h z (by simp [hz]))
def Asc (L:List Int) (k:Nat):Prop:=∀ z∈L.take k,z<128
theorem Asc.add {L:List Int} {a b:Nat} (ha:Asc L a) (hb:Asc (L.drop a) b):Asc L (a+b):=by
 intro z hz
 rw [List.take_add] at hz
 rcases List.mem_append.1 hz with h | h
 · exact ha z h
 · exact hb z h
def wordN (L:List Int):Nat:=Lib.leNat ((L.take 8).map fun z=>UInt8.ofNat z.toNat)
theorem wordN_lt (L:List Int):wordN L<18446744073709551616:=by
 have h:=Lib.leNat_lt ((L.take 8).map fun z=>UInt8.ofNat z.toNat)
 have hl:((L.take 8).map fun z=>UInt8.ofNat z.toNat).length≤8:=by simp;omega
 have:(256:Nat) ^ ((L.take 8).map fun z=>UInt8.ofNat z.toNat).length≤256 ^ 8:=Nat.pow_le_pow_right (by omega) hl
 unfold wordN
 omega
theorem wordN_asc {L:List Int} (h8:U8s L) (hl:8≤L.length):wordN L &&& 9259542123273814144=0↔Asc L 8:=by
 have h:=Lib.leNat_mask ((L.take 8).map fun z=>UInt8.ofNat z.toNat)
 have hlen:((L.take 8).map fun z=>UInt8.ofNat z.toNat).length=8:=by simp;omega
 rw [hlen,Lib.maskN8] at h
 unfold wordN
 rw [h]
 constructor
 · intro h' z hz
   have h1:=h' _ (List.mem_map.2 ⟨z,hz,rfl⟩)
   have h2:=h8 z (List.mem_of_mem_take hz)
   have h3:(UInt8.ofNat z.toNat).toNat=z.toNat:=by simp;omega
   omega
 · intro h' b hb
   obtain ⟨z,hz,rfl⟩:=List.mem_map.1 hb
   have h1:=h' z hz
   have h2:=h8 z (List.mem_of_mem_take hz)
   have h3:(UInt8.ofNat z.toNat).toNat=z.toNat:=by simp;omega
   omega
set_option maxHeartbeats 8000000 in
set_option maxRecDepth 100000 in
theorem word_any {w:World} {A:Option Addr} {n c:Nat} {L:List Int} (hs:Sb w A n L) (h8:U8s L) (hn:8≤n) (hm:n≤1000000) :
  Calls Tryz.prog 107 #[.slice A n c] w fun e w'=>e=.returned (.int .u64 (wordN L))∧∃ q,w'=w.drewN q:=by
 obtain ⟨ad,rfl⟩:=hs.addr (by omega)
 obtain ⟨x0,x1,x2,x3,x4,x5,x6,x7,T,rfl⟩:∃ x0 x1 x2 x3 x4 x5 x6 x7 T,L=x0 :: x1 :: x2 :: x3 :: x4 :: x5 :: x6 :: x7 :: T:=by
  have:=hs.len
  match L,this with
  | x0 :: x1 :: x2 :: x3 :: x4 :: x5 :: x6 :: x7 :: T,_=>exact ⟨x0,x1,x2,x3,x4,x5,x6,x7,T,rfl⟩
  | [],h | [_],h | [_,_],h | [_,_,_],h | [_,_,_,_],h | [_,_,_,_,_],h | [_,_,_,_,_,_],h | [_,_,_,_,_,_,_],h=>simp at h;omega
 have b0:=h8 x0 (by simp);have b1:=h8 x1 (by simp);have b2:=h8 x2 (by simp);have b3:=h8 x3 (by simp)
 have b4:=h8 x4 (by simp);have b5:=h8 x5 (by simp);have b6:=h8 x6 (by simp);have b7:=h8 x7 (by simp)
 have k0:w.cell? ad=some (.int .u8 x0):=by have:=hs.cell (k:=0) (by omega);unfold Addr.add at this;simpa using this
 have kk:∀ j x,0<j→j<n→(x0 :: x1 :: x2 :: x3 :: x4 :: x5 :: x6 :: x7 :: T).getD j 0=x→w.cell? ⟨ad.block,ad.off+j,none⟩=some (.int .u8 x):=fun j x h0 hj hx=>by
  have:=hs.cell (k:=j) hj
  unfold Addr.add at this
  rw [if_neg (by omega)] at this
  rw [this,hx]
 have k1:=kk 1 x1 (by omega) (by omega) rfl
 have k2:=kk 2 x2 (by omega) (by omega) rfl
 have k3:=kk 3 x3 (by omega) (by omega) rfl
 have k4:=kk 4 x4 (by omega) (by omega) rfl
 have k5:=kk 5 x5 (by omega) (by omega) rfl
 have k6:=kk 6 x6 (by omega) (by omega) rfl
 have k7:=kk 7 x7 (by omega) (by omega) rfl
 have hv:((wordN (x0 :: x1 :: x2 :: x3 :: x4 :: x5 :: x6 :: x7 :: T):Nat):Int)=x0+x1*256+x2*65536+x3*16777216+x4*4294967296+x5*1099511627776+x6*281474976710656+x7*72057594037927936:=by
  have e:∀ x:Int,0≤x∧x≤255→((UInt8.ofNat x.toNat).toNat:Int)=x:=fun x hx=>by simp;omega
  have e0:=e x0 b0;have e1:=e x1 b1;have e2:=e x2 b2;have e3:=e x3 b3
  have e4:=e x4 b4;have e5:=e x5 b5;have e6:=e x6 b6;have e7:=e x7 b7
  simp only [wordN,List.take_succ_cons,List.take_zero,List.map_cons,List.map_nil,Lib.leNat]
  push_cast
  omega
 rw [hv]
 clear hv kk h8 hs
 have q0:(0:Int)<(n:Int):=by omega
 have q1:(1:Int)<(n:Int):=by omega
 have q2:(2:Int)<(n:Int):=by omega
 have q3:(3:Int)<(n:Int):=by omega
 have q4:(4:Int)<(n:Int):=by omega
 have q5:(5:Int)<(n:Int):=by omega
 have q6:(6:Int)<(n:Int):=by omega
 have q7:(7:Int)<(n:Int):=by omega
 clear hn hm
 go_enter Tryz.func107,Tryz.ntmps107
 go_wp2
 go_quiet (fail)
 go_wp2
 go_ret
 refine ⟨?_,_,rfl⟩
 simp (disch:=omega) only [u64_or8,u64_or16,u64_or24,u64_or32,u64_or40,u64_or48,u64_or56]
 rfl
end Go.Proofs.YtikhknnhmnopbaaGreatDoor
