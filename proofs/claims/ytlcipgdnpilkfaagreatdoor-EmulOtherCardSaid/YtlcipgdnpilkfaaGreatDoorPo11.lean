/-
  Part 11 of what the laws of emul want: UtfMem, UtfRuns, UtfWord.
-/
import Derived.Laws.BytesArg
import Derived.Laws.RangeAny
import Derived.LoopTactic
import Derived.Laws.EntriesVeiled
import Derived.Lib.ValidLaws
import Derived.Lib.EndianBits
import Derived.Deep.QuietTactic
import Derived.BigQuiet
import Derived.Laws.BitsAllLaws
import Derived.Test.YtlcipgdnpilkfaaGreatDoorPo01
import Derived.Test.YtlcipgdnpilkfaaGreatDoorPo02
import Derived.Test.YtlcipgdnpilkfaaGreatDoorPo10
namespace Go.Proofs.YtlcipgdnpilkfaaGreatDoor
open Go.RowKit
theorem sL_nums {zs:List Int} (h:U8s zs):sL (strOfNums zs)=zs:=by
 rw [sL,strOfNums_data,List.map_map]
 conv=>rhs;rw [← List.map_id zs]
 apply List.map_congr_left
 intro z hz
 have:=h z hz
 simp [Function.comp]
 omega
theorem conv_any {w:World} {A:Option Addr} {n c:Nat} {zs:List Int} (h:Sb w A n zs) (dst:TypeId) (hd:Tryz.prog.underlying dst=some .string) :
  (convert 36 dst (.slice A n c)).run Tryz.prog w=.ok (.string (strOfNums zs)) w:=by
 by_cases hn:n=0
 · subst hn
   obtain rfl:zs=[]:=List.eq_nil_of_length_eq_zero h.len
   cases A with
   | none=>exact run_convert_bytes_nil w _ _ Tryz.underlying36 Tryz.underlying5 0 c dst hd
   | some ad =>
    rw [run_convert_bytes_string w _ dst _ _ 0 c Tryz.underlying36 Tryz.underlying5 hd,run_bytesToString w _ 0 c [] (by simpa using run_loadCells_list (P:=Tryz.prog) w ad [] (fun j v hj=>by simp at hj))]
    rfl
 · obtain ⟨ad,rfl⟩:=h.addr (by omega)
   have hl:(loadCells ad n).run Tryz.prog w=.ok (zs.map (Value.int .u8)).toArray w:=by
    have:=run_loadCells_list (P:=Tryz.prog) w ad (zs.map (Value.int .u8)) (fun j v hj=>h.news j v hj)
    simpa [h.len] using this
   rw [run_convert_bytes_string w _ dst _ _ n c Tryz.underlying36 Tryz.underlying5 hd,run_bytesToString w _ n c zs hl,foldl_push_bytes]
   simp [strOfNums,ByteArray.empty,ByteArray.emptyWithCapacity]
   rfl
def It (w:World) (it:Nat) (s:ByteArray) (pos:Nat):Prop:=w.heap[it]?=some (.stringIter s pos)
theorem It.lt {w:World} {it:Nat} {s:ByteArray} {pos:Nat} (h:It w it s pos):it<w.heap.size:=(Array.getElem?_eq_some_iff.1 h).1
theorem It.grown {w w':World} {it:Nat} {s:ByteArray} {pos:Nat} (h:It w it s pos) {row:Option Nat} (hg:w.grownBy w' row) (hne:row≠some it):It w' it s pos:=(hg.block it h.lt (fun e=>hne e.symm)).trans h
theorem It.below {w w':World} {it:Nat} {s:ByteArray} {pos:Nat} (h:It w it s pos) (hb:Below w.heap.size w w'):It w' it s pos:=(hb.block it h.lt).trans h
theorem It.pos {w:World} {it:Nat} {s:ByteArray} {pos:Nat} (h:It w it s pos):w.iterPos it=pos:=by
 unfold World.iterPos;rw [h]
theorem It.next {w:World} {it:Nat} {s:ByteArray} {pos:Nat} (h:It w it s pos) (hp:pos<s.size):∃ w',It w' it s (pos+(Utf8.decode s pos).2)∧w.grownBy w' (some it)∧w'.heap.size=w.heap.size ∧
  ∀ ty,(Instr.next (.pointer (some ⟨it,0,none⟩)) true ty).run Tryz.prog w=.ok (.tuple #[.bool true,.int .i64 pos,.int .i32 (Utf8.decode s pos).1]) w':=by
 refine ⟨{ w with heap:=w.heap.setIfInBounds it (.stringIter s (pos+(Utf8.decode s pos).2)) },?_,⟨rfl,rfl,rfl,by simp,fun k hk hne=>?_⟩,by simp,fun ty=>?_⟩
 · have:=h.lt
   simp [It,this]
 · have:it≠k:=fun e=>hne (by rw [e])
   simp [this]
 · have h':w.heap[it]?=some (.stringIter s pos):=h
   simp only [Instr.next,getObj,setObj,Sem.run_bind,Sem.run,h',Result.andThen,hp,if_true]
   simp [goInt]
theorem It.done {w:World} {it:Nat} {s:ByteArray} {pos:Nat} (h:It w it s pos) (hp:¬ pos<s.size) (ty:TypeId):(Instr.next (.pointer (some ⟨it,0,none⟩)) true ty).run Tryz.prog w=.ok (.tuple #[.bool false]) w:=by
 have h':w.heap[it]?=some (.stringIter s pos):=h
 simp [Instr.next,getObj,Sem.run,h',hp]
theorem info32:(Tryz.prog.info? 21).map (fun i=>(i.zero,i.size,i.bytes))=some (some (.int .i32 0),1,4):=by kernel_rfl
def Runs (zs:List Int) (w:World) (e:Ending) (w':World):Prop :=
 ∃ A n c,e=.returned (.slice A n c)∧w'.ownsRow w.heap.size 21 1 (.slice A n c) n (zs.map (Value.int .i32))∧Below w.heap.size w w'
theorem ownI_below {w w':World} {base:Nat} {e:TypeId} {size:Nat} {v:Value} {n:Nat} {xs:List Value} (h:w.ownsRow base e size v n xs) (hb:Below w.heap.size w w'):w'.ownsRow base e size v n xs :=
 h.kept (grownBy_below (row:=none) hb) (by cases v.ownBlock<;>simp)
open Go.RowKit
theorem sL_from (s:ByteArray) (k:Nat):sL (s.extract k s.size)=(sL s).drop k:=by
 simp [sL,ByteArray.extract,ByteArray.copySlice]
 rw [List.take_of_length_le (by simp)]
theorem own_ne {w:World} {base it:Nat} {e:TypeId} {v:Value} {n:Nat} {xs:List Value} (h:w.ownsRow base e 1 v n xs) (hb:it<base):v.ownBlock=none∨v.ownBlock≠some it:=by
 obtain ⟨A,c,rfl,_,_⟩:=own_shape h
 cases A with
 | none=>exact .inl rfl
 | some ad=>exact .inr (fun e=>by have:=(own_block h).1;simp [Value.ownBlock] at e;omega)
theorem decS_ct {L:List Int} (h:128≤L.getD 0 0∧L.getD 0 0≤191):decS L=(65533,1):=by
 have hs:szF (L.getD 0 0)=0:=by unfold szF;rw [if_neg (by omega),if_pos (by omega)]
 unfold decS
 by_cases hne:L=[]
 · subst hne;rfl
 · rw [headN hne,hs];simp
structure RunSt (L T:List Int) (pos q:Nat):Prop where
 tell:foldS [] L=T ++ foldS [] (L.drop (max pos q))
 ct:∀ j,pos≤j→j<q→128≤L.getD j 0∧L.getD j 0≤191
 ql:q≤L.length
 tl:T.length≤pos
theorem RunSt.skip {L T:List Int} {pos q:Nat} (h:RunSt L T pos q) (hlt:pos<q):decS (L.drop pos)=(65533,1)∧RunSt L T (pos+1) q:=by
 have h1:=h.ct pos (Nat.le_refl _) hlt
 refine ⟨decS_ct (by simpa [List.getD] using h1),?_,fun j h2 h3=>h.ct j (by omega) h3,h.ql,by have:=h.tl;omega⟩
 rw [h.tell,show max pos q=max (pos+1) q by omega]
theorem RunSt.more {L T:List Int} {pos q:Nat} (h:RunSt L T pos q) (hle:q≤pos) (hp:pos<L.length):RunSt L (T ++ [(decS (L.drop pos)).1]) (pos+(decS (L.drop pos)).2) (pos+begLen (L.drop pos)):=by
 have ht:=h.tell
 rw [show max pos q=pos by omega] at ht
 have hne:L.drop pos≠[]:=fun e=>by have:=congrArg List.length e;simp at this;omega
 have hl:=begLen_le (L.drop pos)
 rw [List.length_drop] at hl
 have htl:=h.tl
 unfold decS
 cases hh:headS (L.drop pos) with
 | none =>
  obtain ⟨e1,e2,e3,e4⟩:=fold_none hne hh
  refine ⟨?_,fun j h1 h2=>?_,by omega,by simp;omega⟩
  · rw [ht,e1,List.drop_drop,List.append_assoc,show max (pos+1) (pos+begLen (List.drop pos L))=pos+max 1 (begLen (List.drop pos L)) by omega]
    rfl
  · have:=e4 (j-pos) (by simp only at h1;omega) (by omega)
    simpa [List.getD,show pos+(j-pos)=j by simp only at h1;omega] using this
 | some x =>
  obtain ⟨r,n⟩:=x
  obtain ⟨e1,e2,e3⟩:=fold_head hh
  refine ⟨?_,fun j h1 h2=>by simp only at h1;omega,by omega,by simp;omega⟩
  rw [ht,e1,List.drop_drop,List.append_assoc]
  simp only
  rw [show max (pos+n) (pos+begLen (List.drop pos L))=pos+n by omega]
  rfl
set_option maxHeartbeats 1600000 in
set_option maxRecDepth 100000 in
theorem runes_any {w:World} {A:Option Addr} {n c:Nat} {zs:List Int} (hT:Tabs w) (hs:Sb w A n zs) (h8:U8s zs) (hn:n≤100000) :
  Calls Tryz.prog 188 #[.slice A n c] w fun e w'=>Runs (foldS [] zs) w e w':=by
 have hcv:=conv_any (c:=c) hs 9 Tryz.underlying9
 obtain ⟨s,hs'⟩:∃ s,strOfNums zs=s:=⟨_,rfl⟩
 have hsz:s.size=n:=by rw [← hs',strOfNums_size];exact hs.len
 have hL:sL s=zs:=by rw [← hs'];exact sL_nums h8
 rw [hs'] at hcv
 have H:=Lib.hid (show Tabs w∧sL s=zs∧U8s zs∧zs.length=n from ⟨hT,hL,h8,hs.len⟩)
 clear hT hs h8 hL hs'
 go_enter Tryz.func188,Tryz.ntmps188
 go_wp2_with fail
 obtain ⟨it,hit⟩:∃ it,it=w.heap.size:=⟨_,rfl⟩
 have I0:It (w.iter s 0) it s 0:=by rw [hit];exact World.iter_heap w s 0
 have B0:Below w.heap.size w (w.iter s 0):=(Below.refl _ _).alloc (Nat.le_refl _) _
 have S0:it<(w.iter s 0).heap.size:=I0.lt
 have HI:=Lib.hid hit
 clear hit
 go_loopw [4,5] (fun v p wr=>∃ (pos q:Nat) (T:List Int),p=.int .i64 q∧wr.ownsRow (it+1) 21 1 v T.length (T.map (Value.int .i32))∧It wr it s pos∧RunSt zs T pos q∧pos≤s.size∧Below w.heap.size w wr) (fun _ _ wr=>s.size-wr.iterPos it)
 case atStart=>exact ⟨0,0,[],rfl,World.ownsRow_nil _ _ _ _,I0,⟨by simp,fun j h1 h2=>by omega,by omega,by simp⟩,by omega,B0⟩
 case round =>
  obtain ⟨pos,q,T,rfl,hown,hi,hst,hps,hbw⟩:=hrel
  have X:=Lib.hid (show wr.ownsRow (it+1) 21 1 u4 T.length (T.map (Value.int .i32))∧It wr it s pos∧RunSt zs T pos q∧Below w.heap.size w wr from ⟨hown,hi,hst,hbw⟩)
  have hql:q≤100000:=by have:=hst.ql;have:=H.out.2.2.2;omega
  have htl:=hst.tl
  clear hown hi hst hbw I0 B0
  by_cases hp:pos<s.size
  · obtain ⟨w2,hi2,hg2,hz2,hnx⟩:=X.out.2.1.next hp
    obtain ⟨e1,e2⟩:=dec_at s pos hp
    rw [H.out.2.1] at e1 e2
    rw [e1,HI.out] at hnx
    rw [e2] at hi2
    obtain ⟨R,hR⟩:∃ R,(decS (zs.drop pos)).1=R:=⟨_,rfl⟩
    obtain ⟨K,hK⟩:∃ K,(decS (zs.drop pos)).2=K:=⟨_,rfl⟩
    rw [hR] at hnx
    rw [hK] at hi2
    by_cases hlt:pos<q
    · obtain ⟨hd,hst2⟩:=X.out.2.2.1.skip hlt
      rw [hd] at hR hK
      obtain rfl:R=65533:=hR.symm
      obtain rfl:K=1:=hK.symm
      have hlz:(pos:Int)<(q:Int):=by omega
      have Y:=Lib.hid (show w2.ownsRow (it+1) 21 1 u4 T.length (T.map (Value.int .i32))∧It w2 it s (pos+1)∧RunSt zs T (pos+1) q∧Below w.heap.size w w2 from
       ⟨X.out.1.kept hg2 (own_ne X.out.1 (by omega)),hi2,hst2,X.out.2.2.2.grown hg2 X.out.2.2.2.size (fun k hk=>by cases hk;have:=HI.out;omega)⟩)
      have hip:=X.out.2.1.pos
      clear hg2 hi2 hst2 hd e1 e2
      go_wp2_with fail
      go_roundw
      case rel=>exact ⟨pos+1,q,T,rfl,Y.out.1,Y.out.2.1,Y.out.2.2.1,by omega,Y.out.2.2.2⟩
      case measure=>rw [hip,Y.out.2.1.pos];omega
    · have hnl:¬ (pos:Int)<(q:Int):=by omega
      have hst2:=X.out.2.2.1.more (by omega) (by rw [H.out.2.2.2];omega)
      rw [hR,hK] at hst2
      have Y:=Lib.hid (show w2.ownsRow (it+1) 21 1 u4 T.length (T.map (Value.int .i32))∧It w2 it s (pos+K)∧RunSt zs (T ++ [R]) (pos+K) (pos+begLen (zs.drop pos))∧Below w.heap.size w w2∧it+1≤w2.heap.size from
       ⟨X.out.1.kept hg2 (own_ne X.out.1 (by omega)),hi2,hst2,X.out.2.2.2.grown hg2 X.out.2.2.2.size (fun k hk=>by cases hk;have:=HI.out;omega),by have:=hi2.lt;omega⟩)
      have hip:=X.out.2.1.pos
      have hK1:1≤K∧pos+K≤s.size:=by
       have:=decS_len (L:=zs.drop pos) (fun e=>by have h1:=congrArg List.length e;have h2:=H.out.2.2.2;simp at h1;omega)
       rw [hK,List.length_drop] at this
       have h2:=H.out.2.2.2
       omega
      clear hg2 hi2 hst2 e1 e2 hz2
      go_wp2_with (refine wpList_appI _ rfl (.tmp 19) (.tmp 21) 72 rfl (it+1) 21 .i32 4 (by omega) Tryz.underlying72 info32 u4 T.length _ rfl (ownI_below Y.out.1 ((Below.refl _ _).alloc (Nat.le_refl _) _)) (some ⟨w2.heap.size,0,none⟩) 1 1 (T.length+1) rfl [R] rfl (Ik.one _ _ _ _) (by omega) (by have:=Y.out.2.2.2.2;simp [World.size_alloc];omega) ?_)
      intro A' c' w3 hown3 hg3
      have Z:=Lib.hid (show w3.ownsRow (it+1) 21 1 (.slice A' (T.length+1) c') (T ++ [R]).length ((T ++ [R]).map (Value.int .i32))∧It w3 it s (pos+K)∧Below w.heap.size w w3 from by
       have hz:(w2.alloc (.cells #[.int .i32 R] 21)).heap.size=w2.heap.size+1:=by simp [World.size_alloc]
       refine ⟨by simpa using hown3,?_,?_⟩
       · have h1:It (w2.alloc (.cells #[.int .i32 R] 21)) it s (pos+K):=Y.out.2.1.below ((Below.refl _ _).alloc (Nat.le_refl _) _)
         refine h1.grown hg3 ?_
         rcases own_ne (it:=it) Y.out.1 (by omega) with h | h
         · rw [h];simp
         · exact h
       · refine (Y.out.2.2.2.1.alloc Y.out.2.2.2.1.size _).grown hg3 (by rw [hz];have:=Y.out.2.2.2.1.size;omega) (fun k hk=>?_)
         obtain ⟨A0,c0,e0,_,_⟩:=own_shape Y.out.1
         cases A0 with
         | none=>rw [e0] at hk;cases hk
         | some ad=>rw [e0] at hk;have h1:=Y.out.1;rw [e0] at h1;have:=(own_block h1).1;simp [Value.ownBlock] at hk;have:=HI.out;omega)
      clear hown3 hg3
      have hbg:=beginning_any (w:=w3) (s.extract pos s.size) (H.out.1.below Z.out.2.2 (Nat.le_refl _)) (by simp [ByteArray.size_extract];omega)
      rw [sL_from,H.out.2.1] at hbg
      have hbl:=begLen_le (zs.drop pos)
      obtain ⟨M,hM⟩:∃ M,begLen (zs.drop pos)=M:=⟨_,rfl⟩
      rw [hM] at hbg hbl
      have HG:=Lib.hid hbg
      have hpz:(pos:Int)≤(s.size:Int):=by omega
      have AR:=Lib.hid (show 1≤K∧pos+K≤s.size∧pos<s.size∧M≤(zs.drop pos).length∧M≤3∧wr.iterPos it=pos∧T.length≤pos∧s.size=n∧n≤100000 from ⟨hK1.1,hK1.2,hp,hbl.1,hbl.2,hip,htl,hsz,hn⟩)
      clear hbg hbl hK1 hp hip htl hsz hn hql hlt hps
      go_wp2_with fail
      refine HG.out.mono ?_
      rintro e w4 ⟨rfl,hb4⟩
      have hsm:(pos:Int)+(M:Int)≤200000:=by have:=AR.out;omega
      go_wp2_with fail
      go_roundw
      case rel=>exact ⟨pos+K,pos+M,T ++ [R],by go_num,by have:=ownI_below Z.out.1 hb4;simpa using this,Z.out.2.1.below hb4,by rw [← hM];exact Y.out.2.2.1,AR.out.2.1,Z.out.2.2.trans (hb4.mono Z.out.2.2.size)⟩
      case measure=>have h1:=AR.out;rw [h1.2.2.2.2.2.1,(Z.out.2.1.below hb4).pos];omega
  · have hdn:=X.out.2.1.done hp
    rw [HI.out] at hdn
    have htell:=X.out.2.2.1.tell
    rw [List.drop_of_length_le (show zs.length≤max pos q by have:=H.out.2.2.2;omega)] at htell
    have h5:=own_base X.out.1 (show w.heap.size≤it+1 by have:=HI.out;omega)
    obtain ⟨A0,c0,rfl,_,_⟩:=own_shape X.out.1
    have Y:=Lib.hid (And.intro htell (And.intro h5 X.out.2.2.2))
    clear htell h5
    go_wp2_with fail
    go_ret
    exact ⟨A0,_,c0,rfl,by rw [Y.out.1];simpa [foldS,endS] using Y.out.2.1,Y.out.2.2⟩
open Go.RowKit
theorem valid_asc:∀ (k:Nat) (L:List Int),U8s L→(∀ z∈L.take k,z<128)→validS L=validS (L.drop k)
 | 0,L,_,_=>rfl
 | k+1,[],_,_=>by simp
 | k+1,a :: L,h8,h=>by
  have ha:a<128:=h a (by simp)
  have hh:headS (a :: L)=some (a,1):=by
   have hs:=szF1.2 ha
   rcases L with _ | ⟨b,_ | ⟨c,_ | ⟨d,t⟩⟩⟩<;>simp [headS,hs]
  rw [valid_head h8 hh]
  exact valid_asc k L (fun z hz=>h8 z (by simp [hz])) (fun z hz=>h z (by simp [hz]))
def Asc (L:List Int) (k:Nat):Prop:=∀ z∈L.take k,z<128
theorem Asc.add {L:List Int} {a b:Nat} (ha:Asc L a) (hb:Asc (L.drop a) b):Asc L (a+b):=by
 intro z hz
 rw [List.take_add] at hz
 rcases List.mem_append.1 hz with h | h
 · exact ha z h
 · exact hb z h
def wordN (L:List Int):Nat:=Lib.leNat ((L.take 8).map fun z=>UInt8.ofNat z.toNat)
theorem wordN_lt (L:List Int):wordN L<18446744073709551616:=by
 have h:=Lib.leNat_lt ((L.take 8).map fun z=>UInt8.ofNat z.toNat)
 have hl:((L.take 8).map fun z=>UInt8.ofNat z.toNat).length≤8:=by simp;omega
 have:(256:Nat) ^ ((L.take 8).map fun z=>UInt8.ofNat z.toNat).length≤256 ^ 8:=Nat.pow_le_pow_right (by omega) hl
 unfold wordN
 omega
theorem wordN_asc {L:List Int} (h8:U8s L) (hl:8≤L.length):wordN L &&& 9259542123273814144=0↔Asc L 8:=by
 have h:=Lib.leNat_mask ((L.take 8).map fun z=>UInt8.ofNat z.toNat)
 have hlen:((L.take 8).map fun z=>UInt8.ofNat z.toNat).length=8:=by simp;omega
 rw [hlen,Lib.maskN8] at h
 unfold wordN
 rw [h]
 constructor
 · intro h' z hz
   have h1:=h' _ (List.mem_map.2 ⟨z,hz,rfl⟩)
   have h2:=h8 z (List.mem_of_mem_take hz)
   have h3:(UInt8.ofNat z.toNat).toNat=z.toNat:=by simp;omega
   omega
 · intro h' b hb
   obtain ⟨z,hz,rfl⟩:=List.mem_map.1 hb
   have h1:=h' z hz
   have h2:=h8 z (List.mem_of_mem_take hz)
   have h3:(UInt8.ofNat z.toNat).toNat=z.toNat:=by simp;omega
   omega
set_option maxHeartbeats 8000000 in
set_option maxRecDepth 100000 in
theorem word_any {w:World} {A:Option Addr} {n c:Nat} {L:List Int} (hs:Sb w A n L) (h8:U8s L) (hn:8≤n) (hm:n≤1000000) :
  Calls Tryz.prog 246 #[.slice A n c] w fun e w'=>e=.returned (.int .u64 (wordN L))∧∃ q,w'=w.drewN q:=by
 obtain ⟨ad,rfl⟩:=hs.addr (by omega)
 obtain ⟨x0,x1,x2,x3,x4,x5,x6,x7,T,rfl⟩:∃ x0 x1 x2 x3 x4 x5 x6 x7 T,L=x0 :: x1 :: x2 :: x3 :: x4 :: x5 :: x6 :: x7 :: T:=by
  have:=hs.len
  match L,this with
  | x0 :: x1 :: x2 :: x3 :: x4 :: x5 :: x6 :: x7 :: T,_=>exact ⟨x0,x1,x2,x3,x4,x5,x6,x7,T,rfl⟩
  | [],h | [_],h | [_,_],h | [_,_,_],h | [_,_,_,_],h | [_,_,_,_,_],h | [_,_,_,_,_,_],h | [_,_,_,_,_,_,_],h=>simp at h;omega
 have b0:=h8 x0 (by simp);have b1:=h8 x1 (by simp);have b2:=h8 x2 (by simp);have b3:=h8 x3 (by simp)
 have b4:=h8 x4 (by simp);have b5:=h8 x5 (by simp);have b6:=h8 x6 (by simp);have b7:=h8 x7 (by simp)
 have k0:w.cell? ad=some (.int .u8 x0):=by have:=hs.cell (k:=0) (by omega);unfold Addr.add at this;simpa using this
 have kk:∀ j x,0<j→j<n→(x0 :: x1 :: x2 :: x3 :: x4 :: x5 :: x6 :: x7 :: T).getD j 0=x→w.cell? ⟨ad.block,ad.off+j,none⟩=some (.int .u8 x):=fun j x h0 hj hx=>by
  have:=hs.cell (k:=j) hj
  unfold Addr.add at this
  rw [if_neg (by omega)] at this
  rw [this,hx]
 have k1:=kk 1 x1 (by omega) (by omega) rfl
 have k2:=kk 2 x2 (by omega) (by omega) rfl
 have k3:=kk 3 x3 (by omega) (by omega) rfl
 have k4:=kk 4 x4 (by omega) (by omega) rfl
 have k5:=kk 5 x5 (by omega) (by omega) rfl
 have k6:=kk 6 x6 (by omega) (by omega) rfl
 have k7:=kk 7 x7 (by omega) (by omega) rfl
 have hv:((wordN (x0 :: x1 :: x2 :: x3 :: x4 :: x5 :: x6 :: x7 :: T):Nat):Int)=x0+x1*256+x2*65536+x3*16777216+x4*4294967296+x5*1099511627776+x6*281474976710656+x7*72057594037927936:=by
  have e:∀ x:Int,0≤x∧x≤255→((UInt8.ofNat x.toNat).toNat:Int)=x:=fun x hx=>by simp;omega
  have e0:=e x0 b0;have e1:=e x1 b1;have e2:=e x2 b2;have e3:=e x3 b3
  have e4:=e x4 b4;have e5:=e x5 b5;have e6:=e x6 b6;have e7:=e x7 b7
  simp only [wordN,List.take_succ_cons,List.take_zero,List.map_cons,List.map_nil,Lib.leNat]
  push_cast
  omega
 rw [hv]
 clear hv kk h8 hs
 have q0:(0:Int)<(n:Int):=by omega
 have q1:(1:Int)<(n:Int):=by omega
 have q2:(2:Int)<(n:Int):=by omega
 have q3:(3:Int)<(n:Int):=by omega
 have q4:(4:Int)<(n:Int):=by omega
 have q5:(5:Int)<(n:Int):=by omega
 have q6:(6:Int)<(n:Int):=by omega
 have q7:(7:Int)<(n:Int):=by omega
 clear hn hm
 go_enter Tryz.func246,Tryz.ntmps246
 go_wp2
 go_quiet (fail)
 go_wp2
 go_ret
 refine ⟨?_,_,rfl⟩
 simp (disch:=omega) only [u64_or8,u64_or16,u64_or24,u64_or32,u64_or40,u64_or48,u64_or56]
 rfl
end Go.Proofs.YtlcipgdnpilkfaaGreatDoor
