/-
  Part 10 of what the laws of emul want: ParseRun, EmulCt, EmulLeaf, EmulGrid, EmulAct, EmulFirst, EmulModes, EmulBegin, EmulNew, LinksCopy, LinksMay.
-/
import Derived.Deep.AppendLies
import Derived.LoopTactic
import Derived.RegionTactic
import Derived.Deep.RegionHeld3
import Derived.Lib.SmallJoins
import Derived.Laws.OwnMore
import Derived.Deep.CutBlock
import Derived.Laws.Rows
import Derived.StillTailTactics
import Derived.Deep.MidRow
import Derived.Lib.SliceRun
import Derived.Deep.RegionWith
import Derived.IntWalk
import Derived.Test.YtikhknnhmnopbaaGreatDoorPm02
import Derived.Test.YtikhknnhmnopbaaGreatDoorPm04
import Derived.Test.YtikhknnhmnopbaaGreatDoorPm05
import Derived.Test.YtikhknnhmnopbaaGreatDoorPm06
import Derived.Test.YtikhknnhmnopbaaGreatDoorPm09
namespace Go.Proofs.YtikhknnhmnopbaaGreatDoor
open Go.RowKit
abbrev Known:=Tabs
structure PaR where
 d:Nat
 st:Int
 m:Int
 P:Option Addr
 np:Nat
 cp:Nat
 N:List Int
 T:Option Addr
 nt:Nat
 ct:Nat
 X:List Int
 o:List Int
def paA (r:PaR):Array Value:=#[.pointer (some ⟨r.d,0,none⟩),.int .i64 r.st,.int .u8 r.m,.slice r.P r.np r.cp,.slice r.T r.nt r.ct]
structure Pm (B:Nat) (w:World) (g:Nat) (r:PaR):Prop where
 blk:w.heap[g]?=some (.cells (paA r) 143 (0,0))
 gB:B≤g
 dc:Dc w r.d r.o
 dB:B≤r.d
 num:w.ownsRow B 3 1 (.slice r.P r.np r.cp) r.np (r.N.map (Value.int .i64))
 txt:w.ownsRow B 5 1 (.slice r.T r.nt r.ct) r.nt (r.X.map (Value.int .u8))
def Blk (g:Nat) (r:PaR) (q:Nat):Prop:=q=g∨q=r.d∨(Value.slice r.P r.np r.cp).ownBlock=some q∨(Value.slice r.T r.nt r.ct).ownBlock=some q
def HasT (w:World) (q:Nat) (t:TypeId):Prop:=∃ cs fr,w.heap[q]?=some (.cells cs t fr)
section
variable {B:Nat} {w w':World} {g:Nat} {r:PaR}
theorem Pm.lt (h:Pm B w g r):g<w.heap.size:=(Array.getElem?_eq_some_iff.1 h.blk).1
theorem Pm.hi (h:Pm B w g r):∀ q,Blk g r q→q<w.heap.size:=by
 rintro q (rfl | rfl | hq | hq)
 · exact h.lt
 · exact h.dc.lt
 · exact (h.num.lt q hq).2
 · exact (h.txt.lt q hq).2
theorem Dc.kept {d:Nat} {o:List Int} (h:Dc w d o) (hs:w'.heap[d]?=w.heap[d]?):Dc w' d o:=by obtain ⟨s,h1,h2⟩:=h;exact ⟨s,hs.trans h1,h2⟩
theorem Pm.kept (h:Pm B w g r) (hs:∀ q,Blk g r q→w'.heap[q]?=w.heap[q]?):Pm B w' g r :=
 ⟨(hs g (.inl rfl)).trans h.blk,h.gB,h.dc.kept (hs r.d (.inr (.inl rfl))),h.dB,row_same h.num fun q hq=>hs q (.inr (.inr (.inl hq))),row_same h.txt fun q hq=>hs q (.inr (.inr (.inr hq)))⟩
end
structure Rel (r:PaR) (s:PaS):Prop where
 st:r.st=(s.st:Int)
 m:s.st=1∨s.st=3→r.m=s.m
 n1:s.st=1→r.N=[]
 x1:s.st=1→r.X=[]
 n3:s.st=3→r.N.length=min s.ps.length 17∧r.N.take 16=s.ps.take 16∧psOk r.N
 x5:s.st=5→r.X=s.tx.take 257
 o:r.o=s.dec
 op:Op s.dec
 od:s.st≠0→s.dec=[]
 le:s.st≤6
def Pz (B:Nat) (w:World) (g:Nat) (s:PaS) (S:Nat→Prop):Prop:=(1<B∧2<B∧0<B)∧∃ r,Pm B w g r∧Rel r s∧S=Blk g r
section
variable {B:Nat} {w w':World} {g:Nat} {s:PaS} {S:Nat→Prop}
theorem Pz.hi (h:Pz B w g s S):∀ q,S q→q<w.heap.size:=by obtain ⟨_,r,h,_,rfl⟩:=h;exact h.hi
theorem Pz.kept (h:Pz B w g s S) (_:w.heap.size≤w'.heap.size) (hs:∀ q,S q→w'.heap[q]?=w.heap[q]?):Pz B w' g s S:=by
 obtain ⟨ht,r,h,hr,rfl⟩:=h
 exact ⟨ht,r,h.kept hs,hr,rfl⟩
end
open Go.RowKit
abbrev TabB (B:Nat):Prop:=1<B∧2<B∧0<B
theorem Tabs.bound {w:World} (h:Tabs w):TabB w.heap.size:=by
 have lt:∀ {a:Addr} {v:Value},w.cell? a=some v→a.block<w.heap.size:=fun {a v} hc=>World.block_lt_of_cell? w a hc
 obtain ⟨t,fr,hs⟩:=h.st
 exact ⟨lt (h.u8.1 0 (by omega)),lt (h.u8.2 0 (by omega)).1,(Array.getElem?_eq_some_iff.1 hs).1⟩
theorem op_nil:Op []:=Or.inl rfl
section
variable {B:Nat} {w:World} {g:Nat} {r:PaR} {s:PaS}
theorem Rel.ground (h1:r.st=0) (h2:Op r.o):Rel r ⟨0,0,[],[],r.o⟩ :=
 ⟨h1,(fun h=>by rcases h with h | h<;>cases h),(fun h=>by cases h),(fun h=>by cases h),(fun h=>by cases h),(fun h=>by cases h),rfl,h2,(fun h=>absurd rfl h),Nat.le_of_ble_eq_true rfl⟩
theorem Rel.pa0 (h1:r.st=0) (h2:r.o=[]):Rel r pa0:=by
 have h:=Rel.ground h1 (by rw [h2];exact op_nil)
 rw [h2] at h
 exact h
end
open Go.RowKit
theorem pNew_any {w:World} (hT:Known w):Calls Tryz.prog 76 #[] w fun e w'=>∃ g S,e=.returned (.pointer (some ⟨g,0,none⟩))∧Pz w.heap.size w' g pa0 S∧Below w.heap.size w w':=by
 have HT:=Lib.hid hT.bound
 clear hT
 go_enter Tryz.func76,Tryz.ntmps76
 go_wp2_with fail
 refine (new_any' w).mono ?_
 rintro e w1 ⟨rfl,hD,hb⟩
 have X:=Lib.hid (And.intro hD hb)
 clear hD hb
 go_wp2_with fail
 go_ret
 have hal:Below w1.heap.size w1 (w1.alloc (.cells (paA ⟨w.heap.size,0,0,none,0,0,[],none,0,0,[],[]⟩) 143)):=(Below.refl _ _).alloc (Nat.le_refl _) _
 exact ⟨w1.heap.size,Blk w1.heap.size ⟨w.heap.size,0,0,none,0,0,[],none,0,0,[],[]⟩,rfl,⟨HT.out,⟨w.heap.size,0,0,none,0,0,[],none,0,0,[],[]⟩,⟨heap_alloc_new w1 _,X.out.2.size,X.out.1.below hal,Nat.le_refl _,World.ownsRow_nil _ _ _ _,World.ownsRow_nil _ _ _ _⟩,Rel.pa0 rfl rfl,rfl⟩,X.out.2.trans (hal.mono X.out.2.size)⟩
open Go.RowKit
structure CT where
 t:Tm
 pd:Nat
 PS:Nat→Prop
 mb:Nat
 mN:Nat
 mK:Nat
 ob:Nat
 oN:Nat
 oK:Nat
 ttl:ByteArray
 bA:Option Addr
 bN:Nat
 bK:Nat
def spC (s:Spt):List Value:=[.int .i64 s.x,.int .i64 s.y,.int .u32 s.pen.fg,.int .u32 s.pen.bg,.int .u8 s.pen.st,.int .u16 s.pen.lk,.bool s.org]
def ctT (x:CT):List Value:=[.string x.ttl,.slice x.bA x.bN x.bK,.int .i32 x.t.last]
def ctV (x:CT):List Value :=
 .pointer (some ⟨x.pd,0,none⟩) :: (spC x.t.now ++ (spC x.t.sav ++ (.int .i64 x.t.c :: .int .i64 x.t.r :: .slice (some ⟨x.mb,0,none⟩) x.mN x.mK :: .int .i64 x.t.c :: .int .i64 x.t.r :: .slice (some ⟨x.ob,0,none⟩) x.oN x.oK ::
  .bool x.t.isO :: .bool x.t.full :: .int .i64 x.t.top :: .int .i64 x.t.bot :: .bool (!x.t.nowrap) :: .bool x.t.ins :: .bool x.t.hid :: .int .u8 x.t.mouse :: (x.t.tabs.map Value.bool ++ ctT x))))
theorem ctV_len {x:CT} (h:x.t.tabs.length=80):(ctV x).length=112:=by simp [ctV,spC,ctT,h]
theorem one_ct (x:CT):∀ v∈ctV x,v.oneCell'=true:=by
 intro v hv
 simp only [ctV,spC,ctT,List.mem_cons,List.mem_append,List.mem_map,List.not_mem_nil,or_false] at hv
 rcases hv with rfl | (rfl | rfl | rfl | rfl | rfl | rfl | rfl) | (rfl | rfl | rfl | rfl | rfl | rfl | rfl) | rfl | rfl | rfl | rfl | rfl | rfl | rfl | rfl | rfl | rfl | rfl | rfl | rfl | rfl | ⟨_,_,rfl⟩ | rfl | rfl | rfl<;>rfl
def ctH (x:CT):List Value :=
 .pointer (some ⟨x.pd,0,none⟩) :: (spC x.t.now ++ (spC x.t.sav ++ [.int .i64 x.t.c,.int .i64 x.t.r,.slice (some ⟨x.mb,0,none⟩) x.mN x.mK,.int .i64 x.t.c,.int .i64 x.t.r,.slice (some ⟨x.ob,0,none⟩) x.oN x.oK,
  .bool x.t.isO,.bool x.t.full,.int .i64 x.t.top,.int .i64 x.t.bot,.bool (!x.t.nowrap),.bool x.t.ins,.bool x.t.hid,.int .u8 x.t.mouse]))
theorem ctV_is (x:CT):ctV x=ctH x ++ (x.t.tabs.map Value.bool ++ ctT x):=rfl
def CB (g:Nat) (x:CT) (q:Nat):Prop:=q=g∨q=x.mb∨q=x.ob∨x.PS q∨(Value.slice x.bA x.bN x.bK).ownBlock=some q
structure Cz (B:Nat) (w:World) (g:Nat) (x:CT):Prop where
 blk:w.heap[g]?=some (.cells (ctV x).toArray 128 (0,0))
 gB:B≤g
 ok:TmOk x.t
 m:Rw ceV 43 w x.mb x.t.main.flatten
 mB:B≤x.mb
 mn:x.mN=x.t.r*x.t.c
 mkk:x.mN≤x.mK∧x.mK≤maxLen
 o:Rw ceV 43 w x.ob x.t.other.flatten
 oB:B≤x.ob
 on:x.oN=x.t.r*x.t.c
 okk:x.oN≤x.oK∧x.oK≤maxLen
 ne:x.mb≠x.ob
 p:Pz B w x.pd x.t.p x.PS
 b:Tx B w x.bA x.bN x.bK x.t.table
 tl:sL x.ttl=x.t.title
 bs:∀ s∈x.t.table,s.size≤100000
theorem HasT.lt {w:World} {q:Nat} {t:TypeId} (h:HasT w q t):q<w.heap.size:=by obtain ⟨cs,fr,h⟩:=h;exact (Array.getElem?_eq_some_iff.1 h).1
section
variable {B:Nat} {w w':World} {g:Nat} {x y:CT}
theorem Cz.hg (h:Cz B w g x):HasT w g 128:=⟨_,_,h.blk⟩
theorem Cz.lt (h:Cz B w g x):g<w.heap.size:=h.hg.lt
theorem Cz.hi (h:Cz B w g x):∀ q,CB g x q→q<w.heap.size:=by
 rintro q (rfl | rfl | rfl | hq | hq)
 · exact h.lt
 · exact h.m.lt
 · exact h.o.lt
 · exact h.p.hi q hq
 · exact (h.b.own.lt q hq).2
theorem Tx.same {w w':World} {base:Nat} {A:Option Addr} {n c:Nat} {L:List ByteArray} (h:Tx base w A n c L) (hs:∀ q,(Value.slice A n c).ownBlock=some q→w'.heap[q]?=w.heap[q]?):Tx base w' A n c L:=⟨h.len,h.le,h.max,row_same h.own hs⟩
theorem Cz.kept (h:Cz B w g x) (hz:w.heap.size≤w'.heap.size) (hs:∀ q,CB g x q→w'.heap[q]?=w.heap[q]?):Cz B w' g x :=
 ⟨(hs g (.inl rfl)).trans h.blk,h.gB,h.ok,h.m.kept (hs _ (.inr (.inl rfl))),h.mB,h.mn,h.mkk,h.o.kept (hs _ (.inr (.inr (.inl rfl)))),h.oB,h.on,h.okk,h.ne,h.p.kept hz fun q hq=>hs q (.inr (.inr (.inr (.inl hq)))),h.b.same fun q hq=>hs q (.inr (.inr (.inr (.inr hq)))),h.tl,h.bs⟩
theorem Cz.below (h:Cz B w g x) (hb:Below w.heap.size w w'):Cz B w' g x:=h.kept hb.size fun q hq=>hb.block q (h.hi q hq)
theorem Cz.cell (h:Cz B w g x) {k:Nat} {v:Value} (hv:(ctV x)[k]?=some v):w.cell? ⟨g,k,none⟩=some v:=by
 rw [cell_of_row _ _ k _ _ _ h.blk]
 simpa using hv
variable {w0:World} {L:List Value}
end
open Go.RowKit
section
variable {B:Nat} {w:World} {g:Nat} {x:CT}
def CT.so (x:CT):Nat:=if x.t.isO then 18 else 15
def CT.sb (x:CT):Nat:=if x.t.isO then x.ob else x.mb
def CT.sN (x:CT):Nat:=if x.t.isO then x.oN else x.mN
def CT.sK (x:CT):Nat:=if x.t.isO then x.oK else x.mK
theorem shown_any (h:Cz B w g x):Calls Tryz.prog 78 #[.pointer (some ⟨g,0,none⟩)] w fun e w'=>e=.returned (.pointer (some ⟨g,x.so,none⟩))∧w'=w:=by
 have c21:w.cell? ⟨g,21,none⟩=some (.bool x.t.isO):=h.cell rfl
 unfold CT.so
 clear h
 cases ho:x.t.isO<;>rw [ho] at c21
 · go_enter Tryz.func78,Tryz.ntmps78
   go_wp2_with fail
   go_ret
   exact ⟨rfl,rfl⟩
 · go_enter Tryz.func78,Tryz.ntmps78
   go_wp2_with fail
   go_ret
   exact ⟨rfl,rfl⟩
theorem Cz.sh (h:Cz B w g x):w.cell? ⟨g,x.so,none⟩=some (.int .i64 x.t.c)∧w.cell? ⟨g,x.so+1,none⟩=some (.int .i64 x.t.r)∧w.cell? ⟨g,x.so+2,none⟩=some (.slice (some ⟨x.sb,0,none⟩) x.sN x.sK):=by
 unfold CT.so CT.sb CT.sN CT.sK
 cases ho:x.t.isO
 · exact ⟨h.cell rfl,h.cell rfl,h.cell rfl⟩
 · exact ⟨h.cell rfl,h.cell rfl,h.cell rfl⟩
theorem Cz.srw (h:Cz B w g x):Rw ceV 43 w x.sb x.t.shown.flatten∧x.sN=x.t.r*x.t.c∧x.sN≤x.sK∧x.sK≤maxLen∧x.t.shown.flatten.length=x.t.r*x.t.c:=by
 have hl:=h.ok.shown.box.flen
 unfold CT.sb CT.sN CT.sK Tm.shown at *
 cases ho:x.t.isO
 · rw [ho] at hl
   exact ⟨h.m,h.mn,h.mkk.1,h.mkk.2,hl⟩
 · rw [ho] at hl
   exact ⟨h.o,h.on,h.okk.1,h.okk.2,hl⟩
end
open Go.RowKit
section
variable {B:Nat} {w w':World} {g:Nat} {x:CT} {q n k:Nat} {LL:Rws}
theorem Cz.sv (h:Cz B w g x):Vs ceV w (some ⟨x.sb,0,none⟩) x.sN x.t.shown.flatten∧x.sN≤x.sK∧x.sN≤1920:=by
 obtain ⟨h1,h2,h3,h4,h5⟩:=h.srw
 have h6:=h.ok.shown.small
 have h7:=h1.vs
 rw [h5,← h2] at h7
 exact ⟨h7,h3,by omega⟩
end
open Go.RowKit
section
variable {B:Nat} {w:World} {g:Nat} {x:CT} {A:Option Addr} {n c:Nat} {ps:List Int}
theorem newCell (w:World) (cs:Array Value) (t:TypeId) (k:Nat) {v:Value} (h:cs[k]?=some v):(w.alloc (.cells cs t)).cell? ⟨w.heap.size,k,none⟩=some v:=by
 have hb:(w.alloc (.cells cs t)).heap[w.heap.size]?=some (.cells cs t):=heap_alloc_new w _
 rw [cell_of_row _ _ k _ _ _ hb]
 exact h
end
open Go.RowKit
section
variable {B:Nat} {w:World} {g:Nat} {x:CT} {A:Option Addr} {n c:Nat} {ps:List Int}
def rowB (k:Nat):List Bool:=(List.range 80).map fun i=>decide (i≠0∧i % 8=0∧i<8*(k+1))
def rowK (k:Nat):Array Value:=((rowB k).map Value.bool).toArray
theorem rowB_step:∀ k:Fin 9,(rowB k.1).set (8*(k.1+1)) true=rowB (k.1+1):=by decide +kernel
theorem rowB_at:∀ k:Fin 9,(rowB k.1)[8*(k.1+1)]?=some false:=by decide +kernel
theorem rowB_end:rowB 9=tabs0:=by decide +kernel
theorem rowB_len (k:Nat):(rowB k).length=80:=by simp [rowB]
theorem rowK_zero:Tryz.zeroCells123=rowK 0:=by kernel_rfl
theorem info80 (k:Nat):(Tryz.prog.info? 123).map (·.size)=some (rowK k).size:=by
 have e:(rowK k).size=80:=by simp [rowK,rowB_len]
 exact (show (Tryz.prog.info? 123).map (·.size)=some 80 from by kernel_rfl).trans (by rw [e])
theorem rowK_one (k:Nat):(rowK k).all (·.oneCell')=true:=by
 rw [Array.all_eq_true_iff_forall_mem]
 intro v hv
 obtain ⟨b,_,rfl⟩:=List.mem_map.1 (by simpa [rowK] using hv:v∈(rowB k).map Value.bool)
 rfl
set_option maxRecDepth 100000 in
theorem firstTabs_any (w:World):Calls Tryz.prog 97 #[] w fun e w'=>e=.returned (.agg (tabs0.map Value.bool).toArray)∧Below w.heap.size w w':=by
 have hw2:(w.alloc (.cells Tryz.zeroCells123 123)).heap.size=w.heap.size+1:=by simp
 obtain ⟨W,hW⟩:∃ W,W=(w.alloc (.cells Tryz.zeroCells123 123)).alloc (.cells Tryz.zeroCells123 123):=⟨_,rfl⟩
 have HW:=Lib.hid (show Below w.heap.size w W∧W.heap[w.heap.size]?=some (.cells (rowK 0) 123 (0,0))∧W.heap[w.heap.size+1]?=some (.cells (rowK 0) 123 (0,0)) from by
  rw [hW,rowK_zero]
  refine ⟨((Below.refl _ _).alloc (Nat.le_refl _) _).alloc (by simp) _,(Below.heap_alloc _ _ _ (by simp)).trans (heap_alloc_new w _),?_⟩
  have e:=heap_alloc_new (w.alloc (.cells (rowK 0) 123)) (.cells (rowK 0) 123)
  rw [show (w.alloc (.cells (rowK 0) 123)).heap.size=w.heap.size+1 from by simp] at e
  exact e)
 go_enter Tryz.func97,Tryz.ntmps97
 go_wp2_with fail
 rw [← hW]
 clear hW hw2
 go_loopw [2] (fun i wr=>∃ (k m:Nat),k≤9∧m=8*(k+1)∧i=.int .i64 m∧Below w.heap.size w wr∧wr.heap[w.heap.size]?=some (.cells (rowK 0) 123 (0,0))∧wr.heap[w.heap.size+1]?=some (.cells (rowK k) 123 (0,0))) (fun i _=>80-(intOf i).toNat)
 case atStart=>exact ⟨0,8,by omega,rfl,rfl,HW.out.1,HW.out.2.1,HW.out.2.2⟩
 case round =>
  obtain ⟨k,m,hk,hm,rfl,hb,h0,h1⟩:=hrel
  have HB:=Lib.hid hb
  have H0:=Lib.hid h0
  have H1:=Lib.hid h1
  by_cases hlt:k<9
  · have ec:wr.cell? ⟨w.heap.size+1,m,none⟩=some (.bool false):=by
     rw [cell_of_row _ _ m _ _ _ h1,hm]
     have:=rowB_at ⟨k,hlt⟩
     simpa [rowK] using this
    have ef:wr.frozen? ⟨w.heap.size+1,m,none⟩=false:=frozen_of_row _ _ m _ _ h1
    have m0:(0:Int)≤(m:Int):=by omega
    have m1:(m:Int)<80:=by omega
    have hbn:Below w.heap.size w (wr.setCell ⟨w.heap.size+1,m,none⟩ (.bool true)):=hb.setCell (p:=⟨w.heap.size+1,m,none⟩) (by show w.heap.size≤w.heap.size+1;omega) _
    have h0n:(wr.setCell ⟨w.heap.size+1,m,none⟩ (.bool true)).heap[w.heap.size]?=some (.cells (rowK 0) 123 (0,0)):=(heap_setCell_other wr _ w.heap.size _ (by show w.heap.size≠w.heap.size+1;omega)).trans h0
    have h1n:(wr.setCell ⟨w.heap.size+1,m,none⟩ (.bool true)).heap[w.heap.size+1]?=some (.cells (rowK (k+1)) 123 (0,0)):=by
     rw [heap_setCell_same wr _ m _ _ _ h1]
     have:=rowB_step ⟨k,hlt⟩
     simp only at this
     have e:(rowK k).setIfInBounds m (.bool true)=rowK (k+1):=by
      unfold rowK
      rw [← this,hm,List.setIfInBounds_toArray,List.map_set]
     rw [e]
    have HN:=Lib.hid (And.intro hbn (And.intro h0n h1n))
    have HMm:=Lib.hid hm
    clear hm hb h0 h1 hbn h0n h1n
    go_wp2_with fail
    go_roundw
    case rel=>exact ⟨k+1,m+8,by omega,by rw [HMm.out];omega,by go_num,HN.out.1,HN.out.2.1,HN.out.2.2⟩
    case measure=>simp [intOf];omega
  · obtain rfl:k=9:=by omega
    obtain rfl:m=80:=by omega
    clear hb h0 h1
    go_wp2_with (first | (refine wpList_load_row rfl 123 (.tmp 1) rfl (w.heap.size+1) rfl 123 _ (0,0) _ H1.out Tryz.underlying123 rfl (info80 9) ?_) | (refine wpList_store_row rfl 123 (.tmp 0) (.tmp 9) rfl w.heap.size (rowK 9) rfl rfl 123 _ H0.out (info80 9) (by simp [rowK,rowB_len]) (rowK_one 9) ?_))
    have hR:(wr.setRow w.heap.size (rowK 9)).heap[w.heap.size]?=some (.cells (rowK 9) 123 (0,0)):=setRow_heap wr _ _ _ _ _ H0.out
    refine bodyPost_ret (results_cell_row rfl _ _ w.heap.size 123 (rowK 9) (0,0) _ rfl hR Tryz.underlying123 rfl (info80 9)) rfl ?_
    exact ⟨by unfold rowK;rw [rowB_end],below_setRow HB.out (Nat.le_refl _) _⟩
end
open Go.RowKit
section
variable {B:Nat} {w:World} {g:Nat} {x:CT} {A:Option Addr} {n c:Nat} {ps:List Int}
set_option maxRecDepth 100000 in
set_option maxHeartbeats 1600000 in
theorem blankT_any {c r:Nat} (h1:1≤c) (h2:c≤80) (h3:1≤r) (h4:r≤24) (w:World):Calls Tryz.prog 96 #[.int .i64 (c:Int),.int .i64 (r:Int)] w (MadeG (c:Nat) (r:Nat) (blankR c r).flatten w):=by
 have HN:=Lib.hid (show ∀ w:World,Calls Tryz.prog 75 #[.int .i64 (c:Int),.int .i64 (r:Int)] w (NewPost (some (c,r,blankR c r)) w) from fun w=>by
  have h:=gNew_any (c:=(c:Int)) (r:=(r:Int)) w
  rw [new_yes (by unfold sizeOk;simp;omega)] at h
  exact h)
 go_enter Tryz.func96,Tryz.ntmps96
 obtain ⟨w1,hw1⟩:∃ w1,w1=w.alloc (.cells (gV 0 0 none 0 0) 58):=⟨_,rfl⟩
 have G1:=Lib.hid (show Gb w1 w.heap.size gr0∧Below w.heap.size w w1∧w.heap.size<w1.heap.size from by rw [hw1];exact ⟨gb_new w gr0,(Below.refl _ _).alloc (Nat.le_refl _) _,by simp⟩)
 unfold gV at hw1
 go_upto_region 1 with fail
 rw [← hw1]
 clear hw1
 go_wp2_with fail
 refine (HN.out _).mono ?_
 rintro e w2 hP
 obtain ⟨v,rfl,hb,q,k,hv,hq,hk,hm,hR⟩:=hP.1 _ _ _ rfl
 injection hv with hv
 subst hv
 have hl:(blankR c r).flatten.length=r*c:=(gk_blankE h1 h2 h3 h4).box.flen
 rw [hl] at hk ⊢
 have X:=Lib.hid (show Gb (w2.alloc (.cells (gV 0 0 none 0 0) 58)) w2.heap.size gr0∧Gb (w2.alloc (.cells (gV 0 0 none 0 0) 58)) w.heap.size gr0∧Below w.heap.size w (w2.alloc (.cells (gV 0 0 none 0 0) 58))∧Rw ceV 43 (w2.alloc (.cells (gV 0 0 none 0 0) 58)) q (blankR c r).flatten∧w.heap.size<w2.heap.size∧w.heap.size<q∧q<w2.heap.size from
  ⟨gb_new w2 gr0,(G1.out.1.below hb).below ((Below.refl _ _).alloc (Nat.le_refl _) _),(G1.out.2.1.trans (hb.mono G1.out.2.1.size)).alloc (Nat.le_trans G1.out.2.1.size hb.size) _,hR.below ((Below.refl _ _).alloc (Nat.le_refl _) _),Nat.lt_of_lt_of_le G1.out.2.2 hb.size,Nat.lt_of_lt_of_le G1.out.2.2 hq,hR.lt⟩)
 have HK:=Lib.hid (And.intro hk hm)
 clear hP hb hq hk hm hR hl
 unfold gV at *
 go_wp2_with (first
  | (refine wpList_store_G rfl (.tmp 5) (.tmp 11) rfl w2.heap.size gr0 ⟨c,r,some ⟨q,0,none⟩,r*c,k⟩ rfl rfl X.out.1 ?_;intro w3 hG3 hg3;have hZ3:=X.out.2.1.grown hg3 (fun e=>by injection e with e;have:=X.out.2.2.2.2;omega);obtain ⟨d0,d1,d2,_⟩:=hG3.g3)
  | (refine wpList_store_G rfl (.tmp 4) (.tmp 13) rfl w.heap.size gr0 ⟨c,r,some ⟨q,0,none⟩,r*c,k⟩ rfl rfl hZ3 ?_;intro w4 hG4 hg4))
 refine bodyPost_ret (retG Tryz.results96 hG4 rfl) rfl ?_
 have hb3:=X.out.2.2.1.grown hg3 X.out.2.2.1.size (by intro k hk;injection hk with hk;have:=X.out.2.2.2.2.1;omega)
 have hr3:=X.out.2.2.2.1.grown hg3 (fun e=>by injection e with e;have:=X.out.2.2.2.2;omega)
 have hl:(blankR c r).flatten.length=r*c:=(gk_blankE h1 h2 h3 h4).box.flen
 exact ⟨hb3.grown hg4 hb3.size (by intro k hk;injection hk with hk;omega),q,k,by rw [hl],Nat.le_of_lt X.out.2.2.2.2.2.1,by rw [hl];exact HK.out.1,HK.out.2,hr3.grown hg4 (fun e=>by injection e with e;have:=X.out.2.2.2.2;omega)⟩
end
open Go.RowKit
section
variable {B:Nat} {w:World} {g:Nat} {x:CT} {A:Option Addr} {n c:Nat} {ps:List Int}
def begT (c r q1 k1 q2 k2:Nat):CT:=⟨tmNew c r,0,fun _=>False,q1,r*c,k1,q2,r*c,k2,ByteArray.empty,none,0,0⟩
def stC (x:CT):List Value:=(ctV x).drop 1
theorem stC_len {x:CT} (h:x.t.tabs.length=80):(stC x).length=111:=by unfold stC;rw [List.length_drop,ctV_len h]
def partsB (c r q1 k1 q2 k2:Nat):List (Nat × Value):=[(2,.agg (gV (c:Int) (r:Int) (some ⟨q1,0,none⟩) (r*c) k1)),(3,.agg (gV (c:Int) (r:Int) (some ⟨q2,0,none⟩) (r*c) k2)),(7,.int .i64 ((r:Int)-1)),(8,.bool true),(12,.agg (tabs0.map Value.bool).toArray)]
theorem built_state (c r q1 k1 q2 k2:Nat):Tryz.prog.built 125 (partsB c r q1 k1 q2 k2)=some (stC (begT c r q1 k1 q2 k2)).toArray:=by kernel_rfl
theorem wpList_build5 {P:Program} {ops:Array Oper} {rest:List Oper} {o:Oper} {a:Act} {w:World} {Q:Exit→Act→World→Prop} (hg:o.guard=none) (t:TypeId) (i1 i2 i3 i4 i5:Nat) (x1 x2 x3 x4 x5:Operand) (ho:o.op=.build t #[(i1,x1),(i2,x2),(i3,x3),(i4,x4),(i5,x5)])
  (v1 v2 v3 v4 v5:Value) (h1:a.eval x1=v1) (h2:a.eval x2=v2) (h3:a.eval x3=v3) (h4:a.eval x4=v4) (h5:a.eval x5=v5) (cells:Array Value) (hb:P.built t [(i1,v1),(i2,v2),(i3,v3),(i4,v4),(i5,v5)]=some cells) (h:wpList P ops Q rest (a.put o.dst (.agg cells)) w):wpList P ops Q (o :: rest) a w:=by
 have e:(#[(i1,x1),(i2,x2),(i3,x3),(i4,x4),(i5,x5)].map fun (p:Nat × Operand)=>(p.1,a.eval p.2)).toList=[(i1,v1),(i2,v2),(i3,v3),(i4,v4),(i5,v5)]:=by simp [h1,h2,h3,h4,h5]
 exact wpList_build hg t #[(i1,x1),(i2,x2),(i3,x3),(i4,x4),(i5,x5)] ho (by rw [e,hb];rfl) (by rw [e,hb];exact h)
theorem info91 {x:CT} (h:x.t.tabs.length=80):(Tryz.prog.info? 125).map (·.size)=some (stC x).toArray.size:=by
 have e:(stC x).toArray.size=111:=stC_len h
 exact (show (Tryz.prog.info? 125).map (·.size)=some 111 from by kernel_rfl).trans (by rw [e])
theorem stC_one (x:CT):(stC x).toArray.all (·.oneCell')=true:=by
 rw [Array.all_eq_true_iff_forall_mem]
 intro v hv
 have hv2:v∈stC x:=by simpa using hv
 exact one_ct x v (List.mem_of_mem_drop (i:=1) hv2)
set_option maxRecDepth 100000 in
set_option maxHeartbeats 1600000 in
theorem beginT_any {c r:Nat} (h1:1≤c) (h2:c≤80) (h3:1≤r) (h4:r≤24) (w:World):Calls Tryz.prog 77 #[.int .i64 (c:Int),.int .i64 (r:Int)] w fun e w'=>∃ q1 k1 q2 k2,e=.returned (.agg (stC (begT c r q1 k1 q2 k2)).toArray)∧Below w.heap.size w w'∧w.heap.size≤q1∧w.heap.size≤q2∧q1≠q2∧r*c≤k1∧k1≤maxLen∧r*c≤k2∧k2≤maxLen∧Rw ceV 43 w' q1 (blankR c r).flatten∧Rw ceV 43 w' q2 (blankR c r).flatten:=by
 have HBL:=Lib.hid (fun w=>blankT_any h1 h2 h3 h4 w)
 have HF:=Lib.hid (fun w=>firstTabs_any w)
 have hl:(blankR c r).flatten.length=r*c:=(gk_blankE h1 h2 h3 h4).box.flen
 have kr:wrap64 ((r:Int)-1)=(r:Int)-1:=by unfold wrap64;omega
 have kr2:IntKind.i64.wrap ((r:Int)-1)=(r:Int)-1:=by clear kr;rw [IntKind.wrap_i64];omega
 obtain ⟨w1,hw1⟩:∃ w1,w1=w.alloc (.cells Tryz.zeroCells125 125):=⟨_,rfl⟩
 have H1:=Lib.hid (show Below w.heap.size w w1∧w1.heap[w.heap.size]?=some (.cells Tryz.zeroCells125 125 (0,0))∧w.heap.size<w1.heap.size from by rw [hw1];exact ⟨(Below.refl _ _).alloc (Nat.le_refl _) _,heap_alloc_new w _,by simp⟩)
 have hz:Tryz.zeroCells125.size=111:=by kernel_rfl
 have HZS:=Lib.hid hz
 clear hz
 go_enter Tryz.func77,Tryz.ntmps77
 go_upto_region 1 with fail
 rw [← hw1]
 clear hw1
 go_wp2_with fail
 refine (HBL.out _).mono ?_
 rintro e w2 ⟨hb1,q1,k1,rfl,hq1,hk1,hm1,hR1⟩
 rw [hl] at hk1 ⊢
 have G1:=Lib.hid (And.intro hb1 (And.intro hq1 (And.intro hk1 (And.intro hm1 hR1))))
 clear hb1 hq1 hk1 hm1 hR1
 unfold gV
 go_wp2_with fail
 refine (HBL.out _).mono ?_
 rintro e w3 ⟨hb2,q2,k2,rfl,hq2,hk2,hm2,hR2⟩
 rw [hl] at hk2 ⊢
 have G2:=Lib.hid (And.intro hb2 (And.intro hq2 (And.intro hk2 (And.intro hm2 hR2))))
 clear hb2 hq2 hk2 hm2 hR2
 unfold gV
 go_wp2_with fail
 refine (HF.out _).mono ?_
 rintro e w4 ⟨rfl,hb4⟩
 have H4:=Lib.hid hb4
 clear hb4
 have hB:=built_state c r q1 k1 q2 k2
 unfold partsB gV at hB
 have s2:w1.heap.size≤w2.heap.size:=G1.out.1.size
 have s3:w2.heap.size≤w3.heap.size:=G2.out.1.size
 have hZ4:w4.heap[w.heap.size]?=some (.cells Tryz.zeroCells125 125 (0,0)):=(H4.out.block _ (by have:=H1.out.2.2;omega)).trans ((G2.out.1.block _ (by have:=H1.out.2.2;omega)).trans ((G1.out.1.block _ H1.out.2.2).trans H1.out.2.1))
 have HZ4:=Lib.hid hZ4
 clear hZ4 s2 s3
 obtain ⟨cs,hcs⟩:∃ cs,cs=(stC (begT c r q1 k1 q2 k2)).toArray:=⟨_,rfl⟩
 have h80:(begT c r q1 k1 q2 k2).t.tabs.length=80:=by show tabs0.length=80;decide
 have HCS:=Lib.hid (show (Tryz.prog.info? 125).map (·.size)=some cs.size∧cs.all (·.oneCell')=true∧cs.size=111 from by rw [hcs];exact ⟨info91 h80,stC_one _,stC_len h80⟩)
 rw [← hcs] at hB
 have HCE:=Lib.hid hcs
 clear hcs h80
 have HBD:=Lib.hid hB
 clear hB
 go_wp2_with (first | (refine wpList_build5 rfl 125 2 3 7 8 12 (.tmp 7) (.tmp 10) (.tmp 12) (.const (.bool true)) (.tmp 13) rfl (.agg #[.int .i64 (c:Int),.int .i64 (r:Int),.slice (some ⟨q1,0,none⟩) (r*c) k1]) (.agg #[.int .i64 (c:Int),.int .i64 (r:Int),.slice (some ⟨q2,0,none⟩) (r*c) k2]) (.int .i64 ((r:Int)-1)) (.bool true) (.agg (tabs0.map Value.bool).toArray) rfl rfl rfl rfl rfl cs HBD.out ?_) | (refine wpList_store_row rfl 125 (.tmp 4) (.tmp 14) rfl w.heap.size cs rfl rfl 125 _ HZ4.out HCS.out.1 (by rw [HZS.out,HCS.out.2.2]) HCS.out.2.1 ?_))
 have hR:(w4.setRow w.heap.size cs).heap[w.heap.size]?=some (.cells cs 125 (0,0)):=setRow_heap w4 _ _ _ _ _ HZ4.out
 have hq1:w1.heap.size≤q1:=G1.out.2.1
 have hq2:w2.heap.size≤q2:=G2.out.2.1
 have hq3:q1<w2.heap.size:=G1.out.2.2.2.2.lt
 have hlt:=H1.out.2.2
 have hbb:=(H1.out.1.trans ((G1.out.1.mono H1.out.1.size))).trans ((G2.out.1.mono (Nat.le_trans H1.out.1.size G1.out.1.size)).trans (H4.out.mono (Nat.le_trans H1.out.1.size (Nat.le_trans G1.out.1.size G2.out.1.size))))
 refine bodyPost_ret (results_cell_row rfl _ _ w.heap.size 125 cs (0,0) _ rfl hR Tryz.underlying125 rfl HCS.out.1) rfl ?_
 refine ⟨q1,k1,q2,k2,by rw [HCE.out],below_setRow hbb (Nat.le_refl _) _,by omega,by omega,by omega,G1.out.2.2.1,G1.out.2.2.2.1,G2.out.2.2.1,G2.out.2.2.2.1,?_,?_⟩
 · have h5:=(G1.out.2.2.2.2.below G2.out.1).below H4.out
   exact h5.kept (setRow_other _ _ _ _ (by omega))
 · have h5:=G2.out.2.2.2.2.below H4.out
   exact h5.kept (setRow_other _ _ _ _ (by omega))
end
open Go.RowKit
section
variable {B:Nat} {w:World} {g:Nat} {x:CT} {A:Option Addr} {n c:Nat} {ps:List Int}
theorem wpList_buildTwo {P:Program} {ops:Array Oper} {rest:List Oper} {o:Oper} {a:Act} {w:World} {Q:Exit→Act→World→Prop} (hg:o.guard=none) (t:TypeId) (i j:Nat) (x y:Operand) (ho:o.op=.build t #[(i,x),(j,y)])
  (v u:Value) (hx:a.eval x=v) (hy:a.eval y=u) (cells:Array Value) (hb:P.built t [(i,v),(j,u)]=some cells) (h:wpList P ops Q rest (a.put o.dst (.agg cells)) w):wpList P ops Q (o :: rest) a w:=by
 have e:(#[(i,x),(j,y)].map fun (p:Nat × Operand)=>(p.1,a.eval p.2)).toList=[(i,v),(j,u)]:=by simp [hx,hy]
 exact wpList_build hg t #[(i,x),(j,y)] ho (by rw [e,hb];rfl) (by rw [e,hb];exact h)
def CT.born (c r q1 k1 q2 k2 p:Nat) (S:Nat→Prop):CT:={ begT c r q1 k1 q2 k2 with pd:=p,PS:=S }
theorem built_term (c r q1 k1 q2 k2 p:Nat) (S:Nat→Prop):Tryz.prog.built 128 [(0,.pointer (some ⟨p,0,none⟩)),(1,.agg (stC (begT c r q1 k1 q2 k2)).toArray)]=some (ctV (CT.born c r q1 k1 q2 k2 p S)).toArray:=by kernel_rfl
theorem Cz.born {B:Nat} {w w':World} {c r q1 k1 q2 k2 p:Nat} {S:Nat→Prop} (h1:1≤c) (h2:c≤80) (h3:1≤r) (h4:r≤24) (hB:B≤w.heap.size) (hw:w'=w.alloc (.cells (ctV (CT.born c r q1 k1 q2 k2 p S)).toArray 128)) (hp:Pz B w p pa0 S) (hq1:B≤q1) (hq2:B≤q2) (hne:q1≠q2)
  (hk1:r*c≤k1) (hm1:k1≤maxLen) (hk2:r*c≤k2) (hm2:k2≤maxLen) (hr1:Rw ceV 43 w q1 (blankR c r).flatten) (hr2:Rw ceV 43 w q2 (blankR c r).flatten):Cz B w' w.heap.size (CT.born c r q1 k1 q2 k2 p S):=by
 have hb:Below w.heap.size w w':=by rw [hw];exact (Below.refl _ _).alloc (Nat.le_refl _) _
 have F:=TmOk.fresh h1 h2 h3 h4
 exact ⟨by rw [hw];exact heap_alloc_new w _,hB,F,hr1.below hb,hq1,rfl,⟨hk1,hm1⟩,hr2.below hb,hq2,rfl,⟨hk2,hm2⟩,hne,hp.kept hb.size fun q hq=>hb.block q (hp.hi q hq),Tx.nil B w',rfl,fun s hs=>by cases hs⟩
def NewT (c r:Int) (w:World) (e:Ending) (w':World):Prop :=
 Below w.heap.size w w'∧((sizeOk c r=true∧∃ B g x,e=.returned (.tuple #[.pointer (some ⟨g,0,none⟩),.int .i64 0])∧w.heap.size≤B∧Cz B w' g x∧x.t=tmNew c.toNat r.toNat)∨(sizeOk c r=false∧e=.returned (.tuple #[.pointer none,.int .i64 1])))
set_option maxRecDepth 100000 in
set_option maxHeartbeats 1600000 in
theorem newT_any (hT:Tabs w) (c r:Int):Calls Tryz.prog 50 #[.int .i64 c,.int .i64 r] w (NewT c r w):=by
 have HT:=Lib.hid hT
 have HN:=Lib.hid (gNew_any (c:=c) (r:=r) w)
 cases hs:sizeOk c r
 · rw [new_no hs] at HN
   have HS:=Lib.hid hs
   clear hs hT
   go_enter Tryz.func50,Tryz.ntmps50
   go_wp2_with fail
   refine HN.out.mono ?_
   rintro e w2 hP
   obtain ⟨rfl,hb⟩:=hP.2 rfl
   have HB:=Lib.hid hb
   clear hP hb
   have X:=Lib.hid (show Gb (w2.alloc (.cells (gV 0 0 none 0 0) 58)) w2.heap.size gr0∧Below w.heap.size w (w2.alloc (.cells (gV 0 0 none 0 0) 58)) from ⟨gb_new w2 gr0,HB.out.alloc HB.out.size _⟩)
   unfold gV at *
   go_wp2_with (refine wpList_store_G rfl (.tmp 6) (.tmp 12) rfl w2.heap.size gr0 gr0 rfl rfl X.out.1 ?_;intro w3 hG3 hg3)
   have hb3:=X.out.2.grown hg3 X.out.2.size (by intro k hk;injection hk with hk;have:=HB.out.size;omega)
   go_ret2
   exact ⟨hb3,.inr ⟨HS.out,rfl⟩⟩
 · have hz:=hs
   unfold sizeOk at hz
   simp only [decide_eq_true_eq] at hz
   obtain ⟨cc,rfl⟩:∃ k:Nat,c=(k:Int):=⟨c.toNat,by omega⟩
   obtain ⟨rr,rfl⟩:∃ k:Nat,r=(k:Int):=⟨r.toNat,by omega⟩
   have h1:1≤cc:=by omega
   have h2:cc≤80:=by omega
   have h3:1≤rr:=by omega
   have h4:rr≤24:=by omega
   rw [new_yes hs] at HN
   have HBG:=Lib.hid (fun w':World=>beginT_any h1 h2 h3 h4 w')
   have HH:=Lib.hid (And.intro h1 (And.intro h2 (And.intro h3 h4)))
   have HS:=Lib.hid hs
   clear hs hz h1 h2 h3 h4 hT
   go_enter Tryz.func50,Tryz.ntmps50
   go_wp2_with fail
   refine HN.out.mono ?_
   rintro e w2 hP
   obtain ⟨v,rfl,hb,q,k,hv,hq,hk,hm,hR⟩:=hP.1 _ _ _ rfl
   injection hv with hv
   subst hv
   have HB:=Lib.hid hb
   clear hP hb hq hk hm hR
   have X:=Lib.hid (show Gb (w2.alloc (.cells (gV 0 0 none 0 0) 58)) w2.heap.size gr0∧Below w.heap.size w (w2.alloc (.cells (gV 0 0 none 0 0) 58)) from ⟨gb_new w2 gr0,HB.out.alloc HB.out.size _⟩)
   unfold gV at *
   go_wp2_with (refine wpList_store_G rfl (.tmp 6) (.tmp 12) rfl w2.heap.size gr0 ⟨_,_,some ⟨q,0,none⟩,_,k⟩ rfl rfl X.out.1 ?_;intro w3 hG3 hg3)
   have hb3:=X.out.2.grown hg3 X.out.2.size (by intro k hk;injection hk with hk;have:=HB.out.size;omega)
   have H3:=Lib.hid hb3
   clear hG3 hg3 hb3 X
   refine (pNew_any (HT.out.below H3.out (Nat.le_refl _))).mono ?_
   rintro e w4 ⟨p,S,rfl,hp,hb4⟩
   have H4:=Lib.hid (And.intro hp hb4)
   clear hp hb4
   go_wp2_with fail
   refine (HBG.out _).mono ?_
   rintro e w5 ⟨q1,k1,q2,k2,rfl,hb5,hq1,hq2,hne,hk1,hm1,hk2,hm2,hr1,hr2⟩
   have h34:w3.heap.size≤w4.heap.size:=H4.out.2.size
   have h45:w4.heap.size≤w5.heap.size:=hb5.size
   have HC:=Lib.hid (Cz.born (B:=w3.heap.size) (p:=p) (S:=S) HH.out.1 HH.out.2.1 HH.out.2.2.1 HH.out.2.2.2 (by omega) rfl (H4.out.1.kept hb5.size fun b hb=>hb5.block b (H4.out.1.hi b hb)) (by omega) (by omega) hne hk1 hm1 hk2 hm2 hr1 hr2)
   have hsz:w.heap.size≤w3.heap.size:=H3.out.size
   have HW:=Lib.hid (show Below w.heap.size w (w5.alloc (.cells (ctV (CT.born cc rr q1 k1 q2 k2 p S)).toArray 128)) from ((H3.out.trans (H4.out.2.mono hsz)).trans (hb5.mono (by omega))).alloc (by omega) _)
   have hbt:=built_term cc rr q1 k1 q2 k2 p S
   obtain ⟨cs,hcs⟩:∃ cs,cs=(ctV (CT.born cc rr q1 k1 q2 k2 p S)).toArray:=⟨_,rfl⟩
   obtain ⟨ds,hds⟩:∃ ds,ds=(stC (begT cc rr q1 k1 q2 k2)).toArray:=⟨_,rfl⟩
   rw [← hcs,← hds] at hbt
   rw [← hcs] at HC HW
   rw [← hds]
   have HD:=Lib.hid hbt
   clear hbt hcs hds hb5 hq1 hq2 hne hk1 hm1 hk2 hm2 hr1 hr2 h34 h45
   go_wp2_with (refine wpList_buildTwo rfl 128 0 1 (.tmp 17) (.tmp 20) rfl (.pointer (some ⟨p,0,none⟩)) (.agg ds) rfl rfl cs HD.out ?_)
   go_ret2
   exact ⟨HW.out,.inl ⟨HS.out,w3.heap.size,w5.heap.size,CT.born cc rr q1 k1 q2 k2 p S,rfl,hsz,HC.out,by rw [Int.toNat_natCast,Int.toNat_natCast];rfl⟩⟩
end
open Go.RowKit
theorem retBM {a b:Bool} (h:a=b):Ending.returned (.bool a)=.returned (.bool b):=by rw [h]
theorem take_snocS {xs ys:List ByteArray} {k:Nat} (h1:k<xs.length) (h2:k<ys.length):(xs.take (k+1)=ys.take (k+1))↔(xs.take k=ys.take k∧sAt xs k=sAt ys k):=by
 rw [take_snocT h1,take_snocT h2]
 constructor
 · intro h
   have h3:=List.append_inj h (by simp;omega)
   exact ⟨h3.1,by simpa using h3.2⟩
 · rintro ⟨e1,e2⟩
   rw [e1,e2]
set_option maxHeartbeats 800000 in
theorem sameT_any {w:World} {A A':Option Addr} {n n' c c':Nat} {xs ys:List ByteArray} (h:Vs stV w A n xs) (h':Vs stV w A' n' ys) (hn:n≤140737488351232) (hn':n'≤9223372036854775807) :
  Calls Tryz.prog 22 #[.slice A n c,.slice A' n' c'] w fun e w'=>e=.returned (.bool (decide (xs=ys)))∧∃ q,w'=w.drewN q:=by
 by_cases hne:n=n'
 · subst hne
   have H:=Lib.hid (And.intro h h')
   clear h h' hn'
   go_enter Tryz.func22,Tryz.ntmps22
   go_wp2
   go_loopw [13] (fun i wr=>∃ k q:Nat,k≤n∧i=.int .i64 k∧xs.take k=ys.take k∧wr=w.drewN q) (fun i _=>n-(intOf i).toNat)
   case atStart=>exact ⟨0,0,Nat.zero_le _,rfl,by simp,rfl⟩
   case round =>
    obtain ⟨k,q,hk,rfl,hx,rfl⟩:=hrel
    have HX:=Lib.hid hx
    clear hx
    by_cases hlt:k<n
    · obtain ⟨ad,rfl⟩:=H.out.1.addr (by omega)
      obtain ⟨ad',rfl⟩:=H.out.2.addr (by omega)
      have a0:=H.out.1.str hlt
      have b0:=H.out.2.str hlt
      have HT:=Lib.hid (take_snocS (xs:=xs) (ys:=ys) (k:=k) (by rw [H.out.1.len];exact hlt) (by rw [H.out.2.len];exact hlt))
      generalize sAt xs k=x at a0 HT
      generalize sAt ys k=y at b0 HT
      obtain ⟨B,hB⟩:∃ B,(x.toList == y.toList)=B:=⟨_,rfl⟩
      cases B
      · have HD:Hid (decide (xs=ys)=false):=Lib.hid (by
         rw [decide_eq_false_iff_not]
         rintro rfl
         exact (eqBB_no hB) (HT.out.1 rfl).2)
        go_wp2
        go_quiet (fail)
        go_wp2
        go_ret
        exact ⟨retBM HD.out.symm,q+nq,by simp [World.drewN,Nat.add_assoc]⟩
      · have HTT:=Lib.hid (HT.out.2 ⟨HX.out,eqBB_yes hB⟩)
        clear HT
        go_wp2
        go_quiet (fail)
        go_wp2
        go_roundw
        case rel=>exact ⟨k+1,q+nq,by omega,by go_num,HTT.out,rfl⟩
        case measure=>simp [intOf];omega
    · have HD:Hid (decide (xs=ys)=true):=Lib.hid (by
       have e1:=HX.out
       rw [List.take_of_length_le (by rw [H.out.1.len];omega),List.take_of_length_le (by rw [H.out.2.len];omega)] at e1
       simpa using e1)
      go_wp2
      go_ret
      exact ⟨retBM HD.out.symm,q,rfl⟩
 · have HD:Hid (decide (xs=ys)=false):=Lib.hid (by
    rw [decide_eq_false_iff_not]
    rintro rfl
    exact hne (h.len.symm.trans h'.len))
   have hne':¬ ((n:Int)=(n':Int)):=by omega
   clear h h'
   go_enter Tryz.func22,Tryz.ntmps22
   go_wp2
   go_ret
   exact ⟨retBM HD.out.symm,0,rfl⟩
open Go.RowKit
theorem retBL {a b:Bool} (h:a=b):Ending.returned (.bool a)=.returned (.bool b):=by rw [h]
theorem take_snocB (s:ByteArray) (k:Nat) (h:k<s.size):s.data.toList.take (k+1)=s.data.toList.take k ++ [s[k]]:=by
 rw [List.take_succ_eq_append_getElem (by simpa using h)]
 rfl
theorem mayT_short {s:ByteArray} (h:s.size<1∨64<s.size):mayT s=false:=by
 cases hm:mayT s with
 | false=>rfl
 | true=>have:=mayT_size hm;omega
def okB (l:List UInt8):Bool:=l.all fun c=>decide (33≤c.toNat) && decide (c.toNat≤126)
theorem okB_snoc (l:List UInt8) (c:UInt8):okB (l ++ [c])=(okB l && (decide (33≤c.toNat) && decide (c.toNat≤126))):=by simp [okB,List.all_append]
theorem mayT_is {s:ByteArray} (h1:1≤s.size) (h2:s.size≤64):mayT s=okB s.data.toList:=by unfold mayT okB;simp [h1,h2]
theorem okB_take {l:List UInt8} (k:Nat) (h:okB (l.take k)=false):okB l=false:=by
 cases hm:okB l with
 | false=>rfl
 | true =>
  rw [← List.take_append_drop k l] at hm
  unfold okB at h hm
  rw [List.all_append,h] at hm
  cases hm
set_option maxHeartbeats 400000 in
theorem mayT_any (s:ByteArray) (w:World) (hs:s.size≤140737488351232) :
  Calls Tryz.prog 84 #[.string s] w fun e w'=>e=.returned (.bool (mayT s))∧w=w':=by
 by_cases h1:1≤s.size
 · by_cases h2:s.size≤64
   · have HM:=Lib.hid (mayT_is h1 h2)
     go_enter Tryz.func84,Tryz.ntmps84
     go_wp2
     go_loop [14] (fun i=>∃ k:Nat,k≤s.size∧i=.int .i64 k∧okB (s.data.toList.take k)=true) (fun i=>s.size-(intOf i).toNat)
     case atStart=>exact ⟨0,Nat.zero_le _,rfl,rfl⟩
     case round =>
      obtain ⟨k,hk,rfl,ho⟩:=hrel
      have HO:=Lib.hid ho
      clear ho
      by_cases hlt:k<s.size
      · have hsn:=okB_snoc (s.data.toList.take k) s[k]
        rw [← take_snocB s k hlt,HO.out] at hsn
        have HS:=Lib.hid hsn
        clear hsn
        by_cases hb:33≤s[k].toNat∧s[k].toNat≤126
        · have HB:=Lib.hid hb
          have hb1:=hb.1
          have hb2:=hb.2
          clear hb
          go_wp2
          go_round
          case rel=>exact ⟨k+1,by omega,by go_num,by rw [HS.out];simp [HB.out.1,HB.out.2]⟩
          case measure=>simp [intOf];omega
        · have HR:Hid (mayT s=false):=by
           refine Lib.hid ?_
           rw [HM.out]
           refine okB_take (k+1) ?_
           rw [HS.out]
           simp
           omega
          by_cases hb1:33≤s[k].toNat
          · have hb2:¬ s[k].toNat≤126:=fun x=>hb ⟨hb1,x⟩
            clear hb
            go_wp2
            go_ret
            exact ⟨retBL HR.out.symm,rfl⟩
          · clear hb
            go_wp2
            go_ret
            exact ⟨retBL HR.out.symm,rfl⟩
      · have HR:Hid (mayT s=true):=by
         refine Lib.hid ?_
         rw [HM.out,← HO.out,List.take_of_length_le (by simp;omega)]
        go_wp2
        go_ret
        exact ⟨retBL HR.out.symm,rfl⟩
   · have HR:=Lib.hid (mayT_short (s:=s) (Or.inr (by omega)))
     go_enter Tryz.func84,Tryz.ntmps84
     go_wp2
     go_ret
     exact ⟨retBL HR.out.symm,rfl⟩
 · have HR:=Lib.hid (mayT_short (s:=s) (Or.inl (by omega)))
   go_enter Tryz.func84,Tryz.ntmps84
   go_wp2
   go_ret
   exact ⟨retBL HR.out.symm,rfl⟩
set_option maxHeartbeats 400000 in
theorem refMayT_any (s:ByteArray) (w:World) (hs:s.size≤140737488351232) :
  Calls Tryz.prog 105 #[.string s] w fun e w'=>e=.returned (.bool (mayT s))∧w=w':=by
 by_cases h1:1≤s.size
 · have h0:((s.size:Int) == 0)=false:=by rw [beq_eq_false_iff_ne];omega
   by_cases h2:s.size≤64
   · have HM:=Lib.hid (mayT_is h1 h2)
     go_enter Tryz.func105,Tryz.ntmps105
     go_wp2
     go_loop [3] (fun i=>∃ k:Nat,k≤s.size∧i=.int .i64 k∧okB (s.data.toList.take k)=true) (fun i=>s.size-(intOf i).toNat)
     case atStart=>exact ⟨0,Nat.zero_le _,rfl,rfl⟩
     case round =>
      obtain ⟨k,hk,rfl,ho⟩:=hrel
      have HO:=Lib.hid ho
      clear ho
      by_cases hlt:k<s.size
      · have hsn:=okB_snoc (s.data.toList.take k) s[k]
        rw [← take_snocB s k hlt,HO.out] at hsn
        have HS:=Lib.hid hsn
        clear hsn
        by_cases hb:33≤s[k].toNat∧s[k].toNat≤126
        · have HB:=Lib.hid hb
          have hb1:=hb.1
          have hb2:=hb.2
          clear hb
          go_wp2
          go_round
          case rel=>exact ⟨k+1,by omega,by go_num,by rw [HS.out];simp [HB.out.1,HB.out.2]⟩
          case measure=>simp [intOf];omega
        · have HR:Hid (mayT s=false):=by
           refine Lib.hid ?_
           rw [HM.out]
           refine okB_take (k+1) ?_
           rw [HS.out]
           simp
           omega
          by_cases hb1:33≤s[k].toNat
          · have hb2:¬ s[k].toNat≤126:=fun x=>hb ⟨hb1,x⟩
            clear hb
            go_wp2
            go_ret
            exact ⟨retBL HR.out.symm,rfl⟩
          · clear hb
            go_wp2
            go_ret
            exact ⟨retBL HR.out.symm,rfl⟩
      · have HR:Hid (mayT s=true):=by
         refine Lib.hid ?_
         rw [HM.out,← HO.out,List.take_of_length_le (by simp;omega)]
        go_wp2
        go_ret
        exact ⟨retBL HR.out.symm,rfl⟩
   · have HR:=Lib.hid (mayT_short (s:=s) (Or.inr (by omega)))
     go_enter Tryz.func105,Tryz.ntmps105
     go_wp2
     go_ret
     exact ⟨retBL HR.out.symm,rfl⟩
 · have HR:=Lib.hid (mayT_short (s:=s) (Or.inl (by omega)))
   have h0:((s.size:Int) == 0)=true:=by rw [beq_iff_eq];omega
   go_enter Tryz.func105,Tryz.ntmps105
   go_wp2
   go_ret
   exact ⟨retBL HR.out.symm,rfl⟩
end Go.Proofs.YtikhknnhmnopbaaGreatDoor
