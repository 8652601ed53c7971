/-
  Part 1 of what the laws of emul want: WireMem, Open, UtfSpec, UtfEnc.
-/
import Derived.OrdersHeld
import Derived.WalkKit
import Derived.Deep.Draws
import Derived.Lib.Hide
import Derived.Laws.AppendOwnNone
import Derived.Laws.CopyOwn
import Derived.Test.YtikhknnhmnopbaaGreatDoorRows
import Derived.ProofKit
import Derived.OpenShut
import Derived.ChangeOld
import Derived.SizedLaws
import Derived.Lib.DecodeNEq
namespace Go.Proofs.YtikhknnhmnopbaaGreatDoor
open Go.RowKit
theorem tkH {P : Program} {md : Region.Mode} {ops : Array Oper} {Q : Exit → Act → World → Prop} {S : World → Prop} (i : Nat) {oi : Oper} (v : Value) {fuel : Nat} {listed : Array Bool} {a : Act} {w : World} (hi : ops[i]? = some oi)
 (hy : YieldsIf P ops S oi v a) (hS : S w) (h : wpAnyH P md ops Q S fuel (listed.setIfInBounds i true) (a.put oi.dst v) w) (hs : Region.noSelect ops = true := by kernel_rfl) (hf : Region.free md ops listed i = true := by kernel_rfl) (hr : (Region.ready md ops listed).contains i = true := by kernel_rfl)
 (hQ : ∀ c a w, Q (.panic c) (a.put oi.dst v) w → Q (.panic c) a w := by exact fun _ _ _ h => h) : wpAnyH P md ops Q S (fuel + 1) listed a w :=
 wpAnyH_take hi hs hf hr hQ hy hS h
end Go.Proofs.YtikhknnhmnopbaaGreatDoor
namespace Go.Proofs.YtikhknnhmnopbaaGreatDoor
open Go.RowKit
theorem addBlock (a:Addr) (k:Nat):(a.add k).block=a.block:=by unfold Addr.add;split<;>rfl
theorem addAdd (a:Addr) (i j:Nat):(a.add i).add j=a.add (i+j):=by
 unfold Addr.add
 by_cases hi:i=0<;>by_cases hj:j=0<;>simp [hi,hj,Nat.add_assoc]
theorem addHead (g j:Nat):(⟨g,0,none⟩:Addr).add j=⟨g,j,none⟩:=by unfold Addr.add;split<;>simp_all
structure Sb (w:World) (A:Option Addr) (n:Nat) (zs:List Int):Prop where
 len:zs.length=n
 at_:0<n→∃ ad,A=some ad∧ad.block<w.heap.size∧∀ k,k<n→w.cell? (ad.add k)=some (.int .u8 (zs.getD k 0))
def U8s (zs:List Int):Prop:=∀ z∈zs,0≤z∧z≤255
theorem getD_lt {zs:List Int} {k:Nat} (h:k<zs.length):zs.getD k 0=zs[k]:=by simp [List.getD,List.getElem?_eq_getElem h]
theorem getD_ge {zs:List Int} {k:Nat} (h:zs.length≤k):zs.getD k 0=0:=by simp [List.getD,List.getElem?_eq_none h]
theorem U8s.nil:U8s []:=fun _ h=>by cases h
theorem U8s.getD {zs:List Int} (h:U8s zs) (k:Nat):0≤zs.getD k 0∧zs.getD k 0≤255:=by
 by_cases hk:k<zs.length
 · rw [getD_lt hk];exact h _ (List.getElem_mem hk)
 · rw [getD_ge (by omega)];omega
theorem U8s.drop {zs:List Int} (h:U8s zs) (k:Nat):U8s (zs.drop k):=fun z hz=>h z (List.mem_of_mem_drop hz)
theorem U8s.take {zs:List Int} (h:U8s zs) (k:Nat):U8s (zs.take k):=fun z hz=>h z (List.mem_of_mem_take hz)
theorem U8s.append {xs ys:List Int} (h:U8s xs) (h':U8s ys):U8s (xs ++ ys):=fun z hz=>by
 rcases List.mem_append.1 hz with hz | hz
 · exact h z hz
 · exact h' z hz
section
variable {w w':World} {A:Option Addr} {n:Nat} {zs:List Int}
theorem Sb.nil (w:World) (A:Option Addr):Sb w A 0 []:=⟨rfl,fun h=>absurd h (by omega)⟩
theorem Sb.keep (h:Sb w A n zs) (hs:w.heap.size≤w'.heap.size) (hk:∀ p:Addr,0<n→A.map (·.block)=some p.block→p.block<w.heap.size→w'.cell? p=w.cell? p):Sb w' A n zs :=
 ⟨h.len,fun hn=>by
  obtain ⟨ad,rfl,hb,hc⟩:=h.at_ hn
  exact ⟨ad,rfl,by omega,fun k hkn=>(hk (ad.add k) hn (by simp [addBlock]) (by rw [addBlock];exact hb)).trans (hc k hkn)⟩⟩
theorem Sb.below (h:Sb w A n zs) (hb:Below w.heap.size w w'):Sb w' A n zs:=h.keep hb.size fun _ _ _ hp=>hb.cell hp
theorem Sb.drewN (h:Sb w A n zs) (q:Nat):Sb (w.drewN q) A n zs:=⟨h.len,h.at_⟩
theorem Sb.drew (h:Sb w A n zs):Sb w.drew A n zs:=⟨h.len,h.at_⟩
theorem Sb.alloc (h:Sb w A n zs) (o:Obj):Sb (w.alloc o) A n zs:=h.below ((Below.refl _ _).alloc (Nat.le_refl _) o)
theorem Sb.grown (h:Sb w A n zs) {row:Option Nat} (hg:w.grownBy w' row) (hne:∀ ad,A=some ad→0<n→row≠some ad.block):Sb w' A n zs :=
 h.keep hg.size fun p hn hA hp=>World.cell?_of_block (hg.block p.block hp (fun e=>by
  cases A with
  | none=>simp at hA
  | some ad=>simp at hA;exact hne ad rfl hn (by rw [← e,hA])))
theorem Sb.cut (h:Sb w A n zs) {k c:Nat} (hk:k≤n) (hc:n≤c):Sb w (if c=k then A else A.map (·.add k)) (n-k) (zs.drop k):=by
 refine ⟨by rw [List.length_drop,h.len],fun hn=>?_⟩
 obtain ⟨ad,rfl,hb,hcell⟩:=h.at_ (by omega)
 rw [if_neg (by omega)]
 refine ⟨ad.add k,rfl,by rw [addBlock];exact hb,fun j hj=>?_⟩
 rw [addAdd,hcell (k+j) (by omega)]
 congr 2
 have:=h.len
 rw [getD_lt (by omega),getD_lt (by simp;omega)]
 simp
theorem Sb.front (h:Sb w A n zs) {k:Nat} (hk:k≤n):Sb w A k (zs.take k):=by
 refine ⟨by rw [List.length_take,h.len];omega,fun hn=>?_⟩
 obtain ⟨ad,rfl,hb,hcell⟩:=h.at_ (by omega)
 refine ⟨ad,rfl,hb,fun j hj=>?_⟩
 rw [hcell j (by omega)]
 congr 2
 have:=h.len
 rw [getD_lt (by omega),getD_lt (by simp;omega)]
 simp
theorem Sb.addr (h:Sb w A n zs) (hn:0<n):∃ ad,A=some ad:=by obtain ⟨ad,e,_⟩:=h.at_ hn;exact ⟨ad,e⟩
theorem Sb.cell {ad:Addr} (h:Sb w (some ad) n zs) {k:Nat} (hk:k<n):w.cell? (ad.add k)=some (.int .u8 (zs.getD k 0)):=by
 obtain ⟨ad',e,_,hc⟩:=h.at_ (by omega)
 injection e with e
 subst e
 exact hc k hk
theorem Sb.lt {ad:Addr} (h:Sb w (some ad) n zs) (hn:0<n):ad.block<w.heap.size:=by
 obtain ⟨ad',e,hb,_⟩:=h.at_ hn
 injection e with e
 subst e
 exact hb
theorem Sb.own {base:Nat} {e:TypeId} {c:Nat} (h:w.ownsRow base e 1 (.slice A n c) n (zs.map (Value.int .u8))):Sb w A n zs:=by
 have hl:zs.length=n:=by have:=h.1;simpa using this
 refine ⟨hl,fun hn=>?_⟩
 obtain ⟨_,h2⟩:=h
 rcases h2 with ⟨h3,h4⟩ | ⟨g,cap,cur,hv,hb,hg,hle,hm,hs,ht⟩
 · omega
 · injection hv with hA _ hc
   subst hA
   refine ⟨_,rfl,(Array.getElem?_eq_some_iff.1 hg).1,fun k hk=>?_⟩
   rw [addHead,cell_of_row w g k cur e (0,0) hg]
   have h5:(zs.map (Value.int .u8))[k]?=some (Value.int .u8 (zs.getD k 0)):=by
    rw [List.getElem?_map,List.getElem?_eq_getElem (by omega),getD_lt (by omega)];rfl
   rw [← ht,List.getElem?_take,if_pos (by omega)] at h5
   simpa using h5
end
theorem Sb.news {w:World} {ad:Addr} {n:Nat} {zs:List Int} (h:Sb w (some ad) n zs):∀ (j:Nat) (u:Value),(zs.map (Value.int .u8))[j]?=some u→w.cell? (ad.add j)=some u:=by
 intro j u hu
 have hj:j<zs.length:=by
  rcases Nat.lt_or_ge j zs.length with hlt | hge
  · exact hlt
  · rw [List.getElem?_eq_none (by simpa using hge)] at hu;cases hu
 have hl:=h.len
 rw [h.cell (k:=j) (by omega),getD_lt hj]
 rw [List.getElem?_map,List.getElem?_eq_getElem hj] at hu
 simpa using hu
theorem oneCells (zs:List Int):∀ u∈zs.map (Value.int .u8),u.oneCell'=true:=by
 intro u hu
 obtain ⟨z,_,rfl⟩:=List.mem_map.1 hu
 rfl
theorem own_shape {w:World} {base:Nat} {e:TypeId} {size:Nat} {v:Value} {n:Nat} {xs:List Value} (h:w.ownsRow base e size v n xs):∃ A c,v=.slice A n c∧n≤c∧c≤maxLen:=by
 rcases h.2 with ⟨rfl,rfl⟩ | ⟨g,cap,cur,rfl,_,_,h1,h2,_⟩
 · exact ⟨none,0,rfl,Nat.le_refl _,by unfold maxLen;omega⟩
 · exact ⟨_,cap,rfl,h1,h2⟩
theorem run_app_nil {P:Program} (w:World) (base:Nat) (t ty e:TypeId) (i:TypeInfo) (size:Nat) (ht:P.underlying t=some (.slice e)) (hi:P.info? e=some i)
  (v:Value) (n:Nat) (xs:List Value) (hown:w.ownsRow base e size v n xs) (c:Nat):(Builtin.append_ #[t,t] ty #[v,.slice none 0 c]).run P w=.ok v w:=by
 rcases hown.2 with ⟨rfl,rfl⟩ | ⟨g,cap,cur,rfl,_,_,hnc,_⟩
 · simp [Builtin.append_,run_underlying ht,sizeOf,typeInfo,hi,Builtin.lenOf,Builtin.firstCells]
 · simp [Builtin.append_,run_underlying ht,sizeOf,typeInfo,hi,Builtin.lenOf,Builtin.firstCells,hnc,storeCells]
theorem wpList_app {P:Program} (w:World) {ops:Array Oper} {rest:List Oper} {o:Oper} {a:Act} {Q:Exit→Act→World→Prop} (hgd:o.guard=none) (s x:Operand) (t:TypeId)
  (ho:o.op=.call { callee:=.builtin .append,args:=#[s,x],argTypes:=#[t,t] })
  (base:Nat) (e:TypeId) (ht:P.underlying t=some (.slice e)) (hi:(P.info? e).map (fun i=>(i.zero,i.size,i.bytes))=some (some (.int .u8 0),1,1))
  (v:Value) (n:Nat) (xs:List Value) (hs:a.eval s=v) (hown:w.ownsRow base e 1 v n xs)
  (A:Option Addr) (m c:Nat) (news:List Int) (hx:a.eval x=.slice A m c) (hr:Sb w A m news) (h63:n+m≤140737488355328) (hbase:base≤w.heap.size)
  (h:∀ A' c' w',w'.ownsRow base e 1 (.slice A' (n+m) c') (n+m) (xs ++ news.map (Value.int .u8))→w.grownBy w' v.ownBlock→wpList P ops Q rest (a.put o.dst (.slice A' (n+m) c')) w'):wpList P ops Q (o :: rest) a w:=by
 obtain ⟨i0,hi,hz0,hz1,hz2⟩:=info_parts hi
 have hk:∀ v' w',w'.ownsRow base e 1 v' (n+m) (xs ++ news.map (Value.int .u8))→w.grownBy w' v.ownBlock→wpList P ops Q rest (a.put o.dst v') w':=by
  intro v' w' h1 h2
  obtain ⟨A',c',rfl,_⟩:=own_shape h1
  exact h A' c' w' h1 h2
 cases A with
 | none =>
  have hm:m=0:=by
   rcases Nat.eq_zero_or_pos m with h0 | h0
   · exact h0
   · obtain ⟨ad,h1⟩:=hr.addr h0
     cases h1
  subst hm
  have hn:news=[]:=List.eq_nil_of_length_eq_zero hr.len
  subst hn
  refine wpList_plain hgd fun K hK=>?_
  have hrun:=run_app_nil (P:=P) w base t o.type e i0 1 ht hi v n xs hown c
  unfold Oper.wp
  simp [execOp,ho,resolve,invoke,builtin,hs,hx,hrun,Result.andThen]
  exact hK _ _ (hk v w (by simpa using hown) (World.grownBy.refl w _))
 | some ad =>
  exact wpList_append_own w hgd s x t ho base e i0 (.int .u8 0) 1 1 ht hi hz0 hz1 hz2 rfl (by decide) v n xs hs hown ad m c (news.map (Value.int .u8)) hx (by simp [hr.len]) hr.news (oneCells _)
   (by unfold maxLen;omega) (by omega) hbase fun v' w' h1 h2 _=>hk v' w' h1 h2
theorem wpList_cpy {P:Program} {w:World} {ops:Array Oper} {rest:List Oper} {o:Oper} {a:Act} {Q:Exit→Act→World→Prop} (hgd:o.guard=none) (d s:Operand) (t:TypeId)
  (ho:o.op=.call { callee:=.builtin .copy,args:=#[d,s],argTypes:=#[t,t] }) (base:Nat) (e:TypeId) (hu:P.underlying t=some (.slice e)) (hsz:(P.info? e).map (·.size)=some 1)
  (g n c:Nat) (A:Option Addr) (hd:a.eval d=.slice (some ⟨g,0,none⟩) n n) (hs:a.eval s=.slice A n c) (xs:List Value) (hown:w.ownsRow base e 1 (.slice (some ⟨g,0,none⟩) n n) n xs)
  (zs:List Int) (hr:Sb w A n zs)
  (h:∀ w',w'.ownsRow base e 1 (.slice (some ⟨g,0,none⟩) n n) n (zs.map (Value.int .u8))→Below base w w'→wpList P ops Q rest (a.put o.dst (goInt n)) w'):wpList P ops Q (o :: rest) a w:=by
 rcases hown.2 with ⟨h1,_⟩ | ⟨g',cap,cur,h1,hb,hg,hle,hm,hcs,_⟩
 · cases h1
 · injection h1 with h2 _ h3
   injection h2 with h2
   injection h2 with h2
   subst h2
   subst h3
   have hl:=hr.len
   have hlen:(zs.map (Value.int .u8)).length=n:=by simpa using hl
   have hcur:cur.toList.length=n:=by simpa using hcs
   have key:=wpList_copy_splice (P:=P) (w:=w) (ops:=ops) (rest:=rest) (o:=o) (a:=a) (Q:=Q) hgd d s t t ho e hu hsz (some ⟨g,0,none⟩) A n n n c hd hs g 0 cur.toList e (by simpa using hg) (zs.map (Value.int .u8)) (by rw [hlen];simp)
    (fun hp=>⟨rfl,by
     obtain ⟨ad,rfl⟩:=hr.addr (by omega)
     exact ⟨ad,rfl,hr.news⟩⟩) (by omega) (oneCells _) base w (Below.refl _ _) hb
   rw [hlen] at key
   refine key fun w' hh hbel=>h w' ⟨by simpa using hl,.inr ⟨g,n,_,rfl,hb,hh.out,Nat.le_refl _,hm,?_,?_⟩⟩ hbel
   · simp [splice,hcur,hl]
   · have:List.drop (zs.length) cur.toList=[]:=List.drop_eq_nil_of_le (by omega)
     simp [splice,this]
     rw [List.take_of_length_le (by simp [hl])]
structure MadeAt (e:TypeId) (zs:List Int) (w:World) (A:Option Addr) (n c:Nat) (w':World):Prop where
 len:zs.length=n
 le:n≤c
 max:c≤maxLen
 own:w'.ownsRow w.heap.size e 1 (.slice A n c) n (zs.map (Value.int .u8))
 below:Below w.heap.size w w'
theorem own_base {w:World} {B B':Nat} {e:TypeId} {size:Nat} {v:Value} {n:Nat} {xs:List Value} (h:w.ownsRow B e size v n xs) (hB:B'≤B):w.ownsRow B' e size v n xs:=by
 refine ⟨h.1,?_⟩
 rcases h.2 with h | ⟨g,cap,cur,h1,h2,h3⟩
 · exact .inl h
 · exact .inr ⟨g,cap,cur,h1,by omega,h3⟩
def Made (e:TypeId) (zs:List Int) (w:World) (v:Value) (w':World):Prop :=
 ∃ (A:Option Addr) (n c:Nat),v=.slice A n c∧MadeAt e zs w A n c w'
theorem MadeAt.mk' {e:TypeId} {zs:List Int} {w w':World} {A:Option Addr} {n c:Nat} (h:w'.ownsRow w.heap.size e 1 (.slice A n c) n (zs.map (Value.int .u8))) (hb:Below w.heap.size w w'):MadeAt e zs w A n c w':=by
 obtain ⟨A',c',e1,h1,h2⟩:=own_shape h
 injection e1 with _ _ e1
 subst e1
 exact ⟨by simpa using h.1,h1,h2,h,hb⟩
theorem Made.mk {e:TypeId} {zs:List Int} {w w':World} {A:Option Addr} {n c:Nat} (h:w'.ownsRow w.heap.size e 1 (.slice A n c) n (zs.map (Value.int .u8))) (hb:Below w.heap.size w w'):Made e zs w (.slice A n c) w' :=
 ⟨A,n,c,rfl,MadeAt.mk' h hb⟩
theorem Made.nil (e:TypeId) (w:World):Made e [] w (.slice none 0 0) w:=Made.mk (World.ownsRow_nil _ _ _ _) (Below.refl _ _)
theorem MadeAt.sb {e:TypeId} {zs:List Int} {w w':World} {A:Option Addr} {n c:Nat} (h:MadeAt e zs w A n c w'):Sb w' A n zs:=Sb.own h.own
structure FreshAt (e:TypeId) (zs:List Int) (w:World) (A:Option Addr) (n c:Nat) (w':World):Prop where
 len:zs.length=n
 le:n≤c
 max:c≤maxLen
 own:w'.ownsRow w.heap.size e 1 (.slice A n c) n (zs.map (Value.int .u8))
def Fresh (e:TypeId) (zs:List Int) (w:World) (v:Value) (w':World):Prop:=∃ (A:Option Addr) (n c:Nat),v=.slice A n c∧FreshAt e zs w A n c w'
theorem MadeAt.fresh {e:TypeId} {zs:List Int} {w w':World} {A:Option Addr} {n c:Nat} (h:MadeAt e zs w A n c w'):FreshAt e zs w A n c w':=⟨h.len,h.le,h.max,h.own⟩
theorem Fresh.nil (e:TypeId) (w w':World):Fresh e [] w (.slice none 0 0) w':=⟨none,0,0,rfl,rfl,Nat.le_refl _,by unfold maxLen;omega,World.ownsRow_nil _ _ _ _⟩
theorem FreshAt.sb {e:TypeId} {zs:List Int} {w w':World} {A:Option Addr} {n c:Nat} (h:FreshAt e zs w A n c w'):Sb w' A n zs:=Sb.own h.own
theorem FreshAt.setCell {e:TypeId} {zs:List Int} {w w':World} {A:Option Addr} {n c:Nat} (h:FreshAt e zs w A n c w') {a:Addr} (ha:a.block<w.heap.size) (u:Value):FreshAt e zs w A n c (w'.setCell a u) :=
 ⟨h.len,h.le,h.max,ownsRow_setCell_below h.own ha u⟩
theorem Sb.lit (w:World) (e:TypeId) (zs:List Int) (n:Nat) (cs:Array Value) (hc:cs.toList=zs.map (Value.int .u8)) (hl:zs.length=n) (hm:n≤maxLen):Sb (w.alloc (.cells cs e)) (some ⟨w.heap.size,0,none⟩) n zs:=by
 have hs:cs.size=n*1:=by rw [← Array.length_toList,hc];simp [hl]
 have h:=World.ownsRow_lit (size:=1) (e:=e) w cs n (Nat.le_refl _) hm hs
 rw [hc] at h
 exact Sb.own h
theorem own_block {w:World} {base:Nat} {e:TypeId} {n c:Nat} {xs:List Value} {ad:Addr} (h:w.ownsRow base e 1 (.slice (some ad) n c) n xs):base≤ad.block∧ad.block<w.heap.size :=
 h.lt ad.block rfl
structure Rd (t:TypeId) (base:Nat) (w:World) (r:Nat) (A:Option Addr) (n c:Nat) (zs:List Int) (e:Int):Prop where
 blk:w.heap[r]?=some (.cells #[.slice A n c,.int .i64 e] t (0,0))
 sb:Sb w A n zs
 le:n≤c
 max:c≤maxLen
 lo:base≤r
 at_:∀ ad,A=some ad→base≤ad.block∧ad.block<r
section
variable {t:TypeId} {base:Nat} {w w':World} {r:Nat} {A:Option Addr} {n c:Nat} {zs:List Int} {e:Int}
theorem Rd.lt (h:Rd t base w r A n c zs e):r<w.heap.size:=lt_of_block h.blk
theorem Rd.cell0 (h:Rd t base w r A n c zs e):w.cell? ⟨r,0,none⟩=some (.slice A n c):=by simp [World.cell?,h.blk]
theorem Rd.cell1 (h:Rd t base w r A n c zs e):w.cell? ⟨r,1,none⟩=some (.int .i64 e):=by simp [World.cell?,h.blk]
theorem Rd.free (h:Rd t base w r A n c zs e) (k:Nat):w.frozen? ⟨r,k,none⟩=false:=by simp [World.frozen?,h.blk]
theorem Rd.stay (h:Rd t base w r A n c zs e) (hs:w.heap.size≤w'.heap.size) (hk:∀ k,base≤k→k≤r→w'.heap[k]?=w.heap[k]?):Rd t base w' r A n c zs e :=
 ⟨(hk r h.lo (Nat.le_refl _)).trans h.blk,h.sb.keep hs fun p _ hA _=>World.cell?_of_block (hk _ (by
  cases hA':A with
  | none=>rw [hA'] at hA;cases hA
  | some ad=>rw [hA'] at hA;simp at hA;rw [← hA];exact (h.at_ ad hA').1) (by
  cases hA':A with
  | none=>rw [hA'] at hA;cases hA
  | some ad=>rw [hA'] at hA;simp at hA;rw [← hA];exact Nat.le_of_lt (h.at_ ad hA').2)),h.le,h.max,h.lo,h.at_⟩
theorem Rd.below (h:Rd t base w r A n c zs e) (hb:Below w.heap.size w w'):Rd t base w' r A n c zs e :=
 h.stay hb.size fun k _ hk=>hb.block k (Nat.lt_of_le_of_lt hk h.lt)
theorem Rd.drewN (h:Rd t base w r A n c zs e) (q:Nat):Rd t base (w.drewN q) r A n c zs e:=⟨h.blk,h.sb.drewN q,h.le,h.max,h.lo,h.at_⟩
theorem Rd.drew (h:Rd t base w r A n c zs e):Rd t base w.drew r A n c zs e:=⟨h.blk,h.sb.drew,h.le,h.max,h.lo,h.at_⟩
theorem Rd.setErr (h:Rd t base w r A n c zs e) (e':Int):Rd t base (w.setCell ⟨r,1,none⟩ (.int .i64 e')) r A n c zs e':=by
 refine ⟨heap_setCell_same w r 1 _ t _ h.blk,h.sb.keep (by simp) fun p _ hA _=>World.cell?_of_block (heap_setCell_other w _ _ _ ?_),h.le,h.max,h.lo,h.at_⟩
 cases hA':A with
 | none=>rw [hA'] at hA;cases hA
 | some ad =>
  rw [hA'] at hA;simp at hA
  have:=(h.at_ ad hA').2
  rw [← hA]
  intro e1
  have e2:ad.block=r:=by first | exact e1 | exact e1.symm
  omega
theorem Rd.setRest (h:Rd t base w r A n c zs e) {k:Nat} (hk:k≤n) :
  Rd t base (w.setCell ⟨r,0,none⟩ (.slice (if c=k then A else A.map (·.add k)) (n-k) (c-k))) r (if c=k then A else A.map (·.add k)) (n-k) (c-k) (zs.drop k) e:=by
 have hle:=h.le
 have hat:∀ ad,(if c=k then A else A.map (·.add k))=some ad→base≤ad.block∧ad.block<r:=by
  intro ad hA
  split at hA
  · exact h.at_ ad hA
  · cases A with
    | none=>cases hA
    | some a0 =>
     simp at hA
     subst hA
     rw [addBlock]
     exact h.at_ a0 rfl
 have hsb:=h.sb.cut hk hle
 refine ⟨heap_setCell_same w r 0 _ t _ h.blk,hsb.keep (by simp) fun p _ hA _=>World.cell?_of_block (heap_setCell_other w _ _ _ ?_),by omega,by have:=h.max;omega,h.lo,hat⟩
 cases hA':(if c=k then A else A.map (·.add k)) with
 | none=>rw [hA'] at hA;cases hA
 | some ad =>
  rw [hA'] at hA;simp at hA
  have:=(hat ad hA').2
  rw [← hA]
  intro e1
  have e2:ad.block=r:=by first | exact e1 | exact e1.symm
  omega
def RdTo (t:TypeId) (base:Nat) (w:World) (r:Nat) (zs:List Int) (e:Int) (w':World):Prop:=(∃ A n c,Rd t base w' r A n c zs e)∧w.grownBy w' (some r)
theorem RdTo.refl (h:Rd t base w r A n c zs e):RdTo t base w r zs e w:=⟨⟨A,n,c,h⟩,World.grownBy.refl w _⟩
theorem grownBy_set (w:World) (a:Addr) (u:Value):w.grownBy (w.setCell a u) (some a.block) :=
 ⟨rfl,rfl,rfl,by simp,fun k _ hk=>heap_setCell_other w a k u (fun e=>hk (by simp [e]))⟩
theorem grownBy_trans {a b c:World} {row:Option Nat} (h:a.grownBy b row) (k:b.grownBy c row):a.grownBy c row :=
 ⟨k.os.trans h.os,k.tape.trans h.tape,k.output.trans h.output,Nat.le_trans h.size k.size,fun i hi hr=>(k.block i (Nat.lt_of_lt_of_le hi h.size) hr).trans (h.block i hi hr)⟩
theorem grownBy_below {a b:World} {row:Option Nat} (h:Below a.heap.size a b):a.grownBy b row:=⟨h.os,h.tape,h.output,h.size,fun k hk _=>h.block k hk⟩
theorem RdTo.err (h:Rd t base w r A n c zs e) (e':Int):RdTo t base w r zs e' (w.setCell ⟨r,1,none⟩ (.int .i64 e')):=⟨⟨_,_,_,h.setErr e'⟩,grownBy_set _ _ _⟩
end
theorem below_drewN' {B:Nat} {a w:World} (h:Below B a w) (q:Nat):Below B a (w.drewN q):=⟨h.os,h.tape,h.output,h.size,h.block⟩
open Go.ChangeShapes Go.WideShapes Go.ChangeAt Go.RowKit
theorem own:ownKnob Tryz.prog.godebug=none:=by kernel_rfl
theorem laidOut:laidOutB Tryz.prog=true:=by kernel_rfl
theorem bytes8:Tryz.prog.bytesOf 5=1:=by kernel_rfl
theorem cells8:Tryz.prog.cellsOf 5=1:=by kernel_rfl
set_option maxRecDepth 100000 in
theorem open_bytes {H:Type} {enc:TypeId × Value→H} {W:World} {base:Nat} {v:Value} {d:DataW H} {p:List MemPlace} (hv:Value.okWide Tryz.prog W .any base 26 v)
  (h:DataW.Trod enc Tryz.prog W 0 (fun _=>true) true 26 v d p) :
  ∃ A n c zs,v=.slice A n c∧Sb W A n zs∧U8s zs ∧
   ∀ (ts:List TypeId) (ds:List (DataW H)) (j:Nat),(DataW.weightsEach Tryz.prog ts ds).all (·≤reachBytes)=true→ts[j]?=some 26→ds[j]?=some d→n≤140737488351232:=by
 obtain ⟨A,n,c,rfl⟩:=okWide_slice Tryz.underlying26 hv
 obtain ⟨fuel,hf⟩:=h
 rcases open_ints Tryz.underlying26 Tryz.underlying5 cells8 hf with ⟨hcs,_⟩ | ⟨a,len,cap,zs,hcs,_,hl,_,hz,hx,hcell,hwz⟩
 · simp [Value.cells] at hcs
   obtain ⟨rfl,rfl,rfl⟩:=hcs
   exact ⟨none,0,0,[],rfl,Sb.nil _ _,U8s.nil,fun _ _ _ _ _ _=>by omega⟩
 · simp [Value.cells] at hcs
   obtain ⟨rfl,rfl,rfl⟩:=hcs
   have hzl:zs.length=c:=by simpa using hz
   have hlen:(zs.take n).length=n:=by simp;omega
   refine ⟨some a,n,c,zs.take n,rfl,⟨hlen,fun hn=>⟨a,rfl,?_,fun k hk=>?_⟩⟩,fun z hz=>?_,fun ts ds j hw ht hd=>?_⟩
   · have h0:=hcell 0 (by omega)
     have:=World.block_lt_of_cell? W _ h0
     rwa [addBlock] at this
   · rw [hcell k (by omega),getD_lt (by omega),getD_lt (by omega)]
     simp
   · exact bounds_u8 (hwz z (List.mem_of_mem_take hz))
   · simp only [Prod.mk.injEq] at hx
     have h1:=sized_slice hw ht (by rw [hd,hx.1]) Tryz.underlying26
     rw [bytes8] at h1
     simp only [lits,List.length_map,List.length_take,List.length_drop,reachBytes] at h1
     omega
set_option maxRecDepth 100000 in
theorem open_bytes_c {H:Type} {enc:TypeId × Value→H} {W:World} {base:Nat} {v:Value} {d:DataW H} {p:List MemPlace} (hv:Value.okWide Tryz.prog W .any base 26 v)
  (h:DataW.Trod enc Tryz.prog W 0 (fun _=>true) true 26 v d p) :
  ∃ A n c zs,v=.slice A n c∧Sb W A n zs∧U8s zs∧(n≤c∧c≤maxLen) ∧
   ∀ (ts:List TypeId) (ds:List (DataW H)) (j:Nat),(DataW.weightsEach Tryz.prog ts ds).all (·≤reachBytes)=true→ts[j]?=some 26→ds[j]?=some d→n≤140737488351232:=by
 obtain ⟨A,n,c,zs,rfl,h1,h2,h3⟩:=open_bytes hv h
 refine ⟨A,n,c,zs,rfl,h1,h2,?_,h3⟩
 obtain ⟨fuel,hf⟩:=h
 rcases open_ints Tryz.underlying26 Tryz.underlying5 cells8 hf with ⟨hcs,_⟩ | ⟨a,len,cap,zs,hcs,_,hl,hm,_⟩
 · simp [Value.cells] at hcs
   obtain ⟨rfl,rfl,rfl⟩:=hcs
   exact ⟨Nat.le_refl _,by unfold maxLen;omega⟩
 · simp [Value.cells] at hcs
   obtain ⟨rfl,rfl,rfl⟩:=hcs
   exact ⟨hl,hm⟩
def szF (a:Int):Nat:=if a<128 then 1 else if a<194 then 0 else if a<224 then 2 else if a<240 then 3 else if a<245 then 4 else 0
def loF (a:Int):Int:=if a=224 then 160 else if a=240 then 144 else 128
def hiF (a:Int):Int:=if a=237 then 159 else if a=244 then 143 else 191
def okF (a x:Int):Bool:=decide (loF a≤x∧x≤hiF a)
def ctF (x:Int):Bool:=decide (128≤x∧x≤191)
def v2 (a b:Int):Int:=a % 32*64+b % 64
def v3 (a b c:Int):Int:=a % 16*4096+b % 64*64+c % 64
def v4 (a b c d:Int):Int:=a % 8*262144+b % 64*4096+c % 64*64+d % 64
def wholeS:List Int→Option Int
 | [a]=>if szF a=1 then some a else none
 | [a,b]=>if szF a=2∧okF a b=true then some (v2 a b) else none
 | [a,b,c]=>if szF a=3∧okF a b=true∧ctF c=true then some (v3 a b c) else none
 | [a,b,c,d]=>if szF a=4∧okF a b=true∧ctF c=true∧ctF d=true then some (v4 a b c d) else none
 | _=>none
def begS:List Int→Bool
 | [a]=>decide (2≤szF a)
 | [a,b]=>decide (3≤szF a∧okF a b=true)
 | [a,b,c]=>decide (4≤szF a∧okF a b=true∧ctF c=true)
 | _=>false
def headS:List Int→Option (Int × Nat)
 | []=>none
 | [a]=>if szF a=1 then some (a,1) else none
 | [a,b]=>if szF a=1 then some (a,1) else if szF a=2∧okF a b=true then some (v2 a b,2) else none
 | [a,b,c]=>if szF a=1 then some (a,1) else if szF a=2∧okF a b=true then some (v2 a b,2) else if szF a=3∧okF a b=true∧ctF c=true then some (v3 a b c,3) else none
 | a :: b :: c :: d :: _=>if szF a=1 then some (a,1) else if szF a=2∧okF a b=true then some (v2 a b,2) else if szF a=3∧okF a b=true∧ctF c=true then some (v3 a b c,3)
   else if szF a=4∧okF a b=true∧ctF c=true∧ctF d=true then some (v4 a b c d,4) else none
def begLen:List Int→Nat
 | []=>0
 | [a]=>if 2≤szF a then 1 else 0
 | [a,b]=>if 3≤szF a∧okF a b=true then 2 else if 2≤szF a then 1 else 0
 | a :: b :: c :: _=>if 4≤szF a∧okF a b=true∧ctF c=true then 3 else if 3≤szF a∧okF a b=true then 2 else if 2≤szF a then 1 else 0
theorem szF_le (a:Int):szF a=0∨szF a=1∨szF a=2∨szF a=3∨szF a=4:=by
 unfold szF;repeat' split
 all_goals simp
theorem szF1 {a : Int} : szF a = 1 ↔ a < 128 := by unfold szF; repeat' split
                                                   all_goals simp<;>omega
theorem szF2 {a : Int} : szF a = 2 ↔ 194 ≤ a ∧ a < 224 := by unfold szF; repeat' split
                                                             all_goals simp<;>omega
theorem szF3 {a : Int} : szF a = 3 ↔ 224 ≤ a ∧ a < 240 := by unfold szF; repeat' split
                                                             all_goals simp<;>omega
theorem szF4 {a : Int} : szF a = 4 ↔ 240 ≤ a ∧ a < 245 := by unfold szF; repeat' split
                                                             all_goals simp<;>omega
theorem okF_iff {a x:Int}:okF a x=true↔loF a≤x∧x≤hiF a:=by simp [okF]
theorem ctF_iff {x:Int}:ctF x=true↔128≤x∧x≤191:=by simp [ctF]
theorem loF_ge (a : Int) : 128 ≤ loF a ∧ loF a ≤ 160 := by unfold loF; repeat' split
                                                           all_goals omega
theorem hiF_le (a : Int) : 143 ≤ hiF a ∧ hiF a ≤ 191 := by unfold hiF; repeat' split
                                                           all_goals omega
theorem lo_hi (a : Int) : okF a (loF a) = true := by rw [okF_iff]; unfold loF hiF; repeat' split
                                                     all_goals omega
def feed1 (b:Int):List Int × List Int:=if szF b=1 then ([b],[]) else if 2≤szF b then ([],[b]) else ([65533],[])
def feedS (o:List Int) (b:Int):List Int × List Int :=
 match wholeS (o ++ [b]) with
 | some r=>([r],[])
 | none=>if begS (o ++ [b])=true then ([],o ++ [b]) else if o=[] then ([65533],[]) else (65533 :: (feed1 b).1,(feed1 b).2)
def endS (o:List Int):List Int:=if o=[] then [] else [65533]
def foldS:List Int→List Int→List Int
 | o,[]=>endS o
 | o,b :: t=>(feedS o b).1 ++ foldS (feedS o b).2 t
theorem feedS_nil (b:Int):feedS [] b=feed1 b:=by
 rcases szF_le b with h | h | h | h | h<;>simp [feedS,feed1,wholeS,begS,h]
def Op (o:List Int):Prop:=o=[]∨begS o=true
theorem Op.len {o:List Int} (h:Op o):o.length≤3:=by
 rcases h with rfl | h
 · simp
 · rcases o with _ | ⟨a,_ | ⟨b,_ | ⟨c,_ | ⟨d,t⟩⟩⟩⟩<;>simp [begS] at h ⊢
theorem feed1_op (b:Int):Op (feed1 b).2:=by
 rcases szF_le b with h | h | h | h | h<;>simp [feed1,Op,begS,h]
theorem feedS_op (o:List Int) (b:Int):Op (feedS o b).2:=by
 unfold feedS
 split
 · exact .inl rfl
 · split
   · exact .inr (by assumption)
   · split
     · exact .inl rfl
     · exact feed1_op b
theorem feed1_len (b:Int):(feed1 b).1.length≤1:=by
 rcases szF_le b with h | h | h | h | h<;>simp [feed1,h]
theorem feedS_len (o:List Int) (b:Int):(feedS o b).1.length≤2:=by
 unfold feedS
 split
 · simp
 · split
   · simp
   · split
     · simp
     · have:=feed1_len b;simp;omega
theorem foldS_more {o:List Int} {b:Int} (t:List Int) (h:wholeS (o ++ [b])=none) (h':begS (o ++ [b])=true):foldS o (b :: t)=foldS (o ++ [b]) t:=by simp [foldS,feedS,h,h']
theorem foldS_nil (b:Int) (t:List Int):foldS [] (b :: t)=(feed1 b).1 ++ foldS (feed1 b).2 t:=by rw [foldS,feedS_nil]
theorem foldS_fall {o:List Int} {b:Int} (t:List Int) (h:wholeS (o ++ [b])=none) (h':begS (o ++ [b])=false) (ho:o≠[]):foldS o (b :: t)=65533 :: foldS [] (b :: t):=by
 rw [foldS_nil]
 simp [foldS,feedS,h,h',ho]
theorem foldS_bad {b:Int} (t:List Int) (h:szF b=0):foldS [] (b :: t)=65533 :: foldS [] t:=by simp [foldS,feedS_nil,feed1,h]
set_option maxHeartbeats 1600000 in
theorem fold_head {L:List Int} {r:Int} {n:Nat} (h:headS L=some (r,n)):foldS [] L=r :: foldS [] (L.drop n)∧begLen L+1=n∧n≤L.length:=by
 rcases L with _ | ⟨a,_ | ⟨b,_ | ⟨c,_ | ⟨d,t⟩⟩⟩⟩
 · cases h
 all_goals
  rcases szF_le a with ha | ha | ha | ha | ha<;>simp [headS,ha] at h <;>
  (try obtain ⟨h0,h⟩:=h)<;>(try obtain ⟨rfl,rfl⟩:=h)<;>simp [foldS,feedS,wholeS,begS,begLen,ha]<;>simp_all
theorem fall1 {a b:Int} (t:List Int) (ha:2≤szF a) (h:wholeS [a,b]=none) (h':begS [a,b]=false):foldS [] (a :: b :: t)=65533 :: foldS [] (b :: t):=by
 have e:wholeS ([] ++ [a])=none:=by simp [wholeS];omega
 rw [foldS_more (o:=[]) _ e (by simpa [begS] using ha)]
 exact foldS_fall (o:=[a]) _ h h' (by simp)
theorem fall2 {a b c:Int} (t:List Int) (ha:3≤szF a) (hb:okF a b=true) (h:wholeS [a,b,c]=none) (h':begS [a,b,c]=false):foldS [] (a :: b :: c :: t)=65533 :: foldS [] (c :: t):=by
 have e:wholeS ([] ++ [a])=none:=by simp [wholeS];omega
 have e2:wholeS ([a] ++ [b])=none:=by simp [wholeS];intro;omega
 rw [foldS_more (o:=[]) _ e (by simp [begS];omega),List.nil_append,foldS_more _ e2 (by simp [begS,ha,hb])]
 exact foldS_fall (o:=[a,b]) _ h h' (by simp)
theorem fall3 {a b c d:Int} (t:List Int) (ha:szF a=4) (hb:okF a b=true) (hc:ctF c=true) (h:wholeS [a,b,c,d]=none):foldS [] (a :: b :: c :: d :: t)=65533 :: foldS [] (d :: t):=by
 have e:wholeS ([] ++ [a])=none:=by simp [wholeS,ha]
 have e2:wholeS ([a] ++ [b])=none:=by simp [wholeS,ha]
 have e3:wholeS ([a,b] ++ [c])=none:=by simp [wholeS,ha]
 rw [foldS_more (o:=[]) _ e (by simp [begS,ha]),List.nil_append,foldS_more _ e2 (by simp [begS,ha,hb]),List.singleton_append,foldS_more _ e3 (by simp [begS,ha,hb,hc])]
 exact foldS_fall (o:=[a,b,c]) _ h (by simp [begS]) (by simp)
theorem okct {a b:Int} (h:okF a b=true):128≤b∧b≤191:=by
 have h1:=okF_iff.1 h;have:=loF_ge a;have:=hiF_le a;omega
set_option maxHeartbeats 1600000 in
theorem fold_none {L:List Int} (hne:L≠[]) (h:headS L=none):foldS [] L=65533 :: foldS [] (L.drop (max 1 (begLen L)))∧begLen L≤L.length∧begLen L≤3∧∀ j,1≤j→j<begLen L→128≤L.getD j 0∧L.getD j 0≤191:=by
 rcases L with _ | ⟨a,_ | ⟨b,_ | ⟨c,t⟩⟩⟩
 · exact absurd rfl hne
 · rcases szF_le a with ha | ha | ha | ha | ha<;>simp [headS,ha] at h
   · exact ⟨by simp [foldS,feedS,wholeS,begS,begLen,ha,endS],by simp [begLen,ha],by simp [begLen,ha],fun j h1 h2=>by simp [begLen,ha] at h2⟩
   all_goals exact ⟨by simp [foldS,feedS,wholeS,begS,begLen,ha,endS],by simp [begLen,ha],by simp [begLen,ha],fun j h1 h2=>by simp [begLen,ha] at h2;omega⟩
 · rcases szF_le a with ha | ha | ha | ha | ha<;>simp [headS,ha] at h
   · exact ⟨by rw [foldS_bad _ ha];simp [begLen,ha],by simp [begLen,ha],by simp [begLen,ha],fun j h1 h2=>by simp [begLen,ha] at h2⟩
   · exact ⟨by rw [fall1 _ (by omega) (by simp [wholeS,h]) (by simp [begS,ha])];simp [begLen,ha],by simp [begLen,ha],by simp [begLen,ha],fun j h1 h2=>by simp [begLen,ha] at h2;omega⟩
   all_goals
    cases hb:okF a b
    · exact ⟨by rw [fall1 _ (by omega) (by simp [wholeS,hb]) (by simp [begS,hb])];simp [begLen,ha,hb],by simp [begLen,ha,hb],by simp [begLen,ha,hb],fun j h1 h2=>by simp [begLen,ha,hb] at h2;omega⟩
    · exact ⟨by simp [foldS,feedS,wholeS,begS,begLen,ha,endS,hb],by simp [begLen,ha,hb],by simp [begLen,ha,hb],fun j h1 h2=>by
       simp [begLen,ha,hb] at h2;obtain rfl:j=1:=by omega
       exact okct hb⟩
 · have h':szF a≠1∧¬ (szF a=2∧okF a b=true)∧¬ (szF a=3∧okF a b=true∧ctF c=true):=by
    cases t<;>simp only [headS] at h<;>(refine ⟨?_,?_,?_⟩<;>intro hx<;>simp [hx] at h)
   rcases szF_le a with ha | ha | ha | ha | ha
   · exact ⟨by rw [foldS_bad _ ha];simp [begLen,ha],by simp [begLen,ha],by simp [begLen,ha],fun j h1 h2=>by simp [begLen,ha] at h2⟩
   · exact absurd ha h'.1
   · have hb:okF a b=false:=by have:=h'.2.1;simpa [ha] using this
     exact ⟨by rw [fall1 _ (by omega) (by simp [wholeS,hb]) (by simp [begS,hb])];simp [begLen,ha],by simp [begLen,ha],by simp [begLen,ha],fun j h1 h2=>by simp [begLen,ha] at h2;omega⟩
   · cases hb:okF a b
     · exact ⟨by rw [fall1 _ (by omega) (by simp [wholeS,hb]) (by simp [begS,hb])];simp [begLen,ha,hb],by simp [begLen,ha,hb],by simp [begLen,ha,hb],fun j h1 h2=>by simp [begLen,ha,hb] at h2;omega⟩
     · have hc:ctF c=false:=by have:=h'.2.2;simpa [ha,hb] using this
       exact ⟨by rw [fall2 _ (by omega) hb (by simp [wholeS,hc]) (by simp [begS,hc])];simp [begLen,ha,hb],by simp [begLen,ha,hb],by simp [begLen,ha,hb],fun j h1 h2=>by
        simp [begLen,ha,hb] at h2;obtain rfl:j=1:=by omega
        exact okct hb⟩
   · cases hb:okF a b
     · exact ⟨by rw [fall1 _ (by omega) (by simp [wholeS,hb]) (by simp [begS,hb])];simp [begLen,ha,hb],by simp [begLen,ha,hb],by simp [begLen,ha,hb],fun j h1 h2=>by simp [begLen,ha,hb] at h2;omega⟩
     cases hc:ctF c
     · exact ⟨by rw [fall2 _ (by omega) hb (by simp [wholeS,hc]) (by simp [begS,hc])];simp [begLen,ha,hb,hc],by simp [begLen,ha,hb,hc],by simp [begLen,ha,hb,hc],fun j h1 h2=>by
        simp [begLen,ha,hb,hc] at h2;obtain rfl:j=1:=by omega
        exact okct hb⟩
     refine ⟨?_,by simp [begLen,ha,hb,hc],by simp [begLen,ha,hb,hc],fun j h1 h2=>?_⟩
     · cases t with
       | nil=>simp [foldS,feedS,wholeS,begS,begLen,ha,endS,hb,hc]
       | cons d t =>
        have hd:ctF d=false:=by simpa [headS,ha,hb,hc] using h
        rw [fall3 _ ha hb hc (by simp [wholeS,hd])]
        simp [begLen,ha,hb,hc]
     · simp [begLen,ha,hb,hc] at h2
       have hj:j=1∨j=2:=by omega
       rcases hj with rfl | rfl
       · exact okct hb
       · exact ctF_iff.1 hc
theorem head_take {L:List Int} {k:Nat} (h1:1≤k) (h4:k≤4) (hk:k≤L.length):wholeS (L.take k)=(match headS L with | some (r,n)=>if n=k then some r else none | none=>none):=by
 have hk':k=1∨k=2∨k=3∨k=4:=by omega
 rcases L with _ | ⟨a,_ | ⟨b,_ | ⟨c,_ | ⟨d,t⟩⟩⟩⟩
 · simp at hk;omega
 all_goals
  simp at hk
  rcases hk' with rfl | rfl | rfl | rfl<;>(first | (exfalso;omega) | skip) <;>
  rcases szF_le a with ha | ha | ha | ha | ha<;>simp only [headS,ha,wholeS,List.take]<;>(try simp)<;>(repeat' split)<;>simp_all
theorem head_len {L:List Int} {r:Int} {n:Nat} (h:headS L=some (r,n)):1≤n∧n≤4∧n≤L.length:=by
 obtain ⟨_,h2,h3⟩:=fold_head h
 refine ⟨by omega,?_,h3⟩
 have:begLen L≤3:=by
  rcases L with _ | ⟨a,_ | ⟨b,_ | ⟨c,t⟩⟩⟩<;>simp [begLen]<;>(repeat' split)<;>omega
 omega
def mayS (r:Int):Bool:=decide (0≤r∧r≤55295∨57344≤r∧r≤1114111)
def fixS (r:Int):Int:=if mayS r=true then r else 65533
def encS (r:Int):List Int :=
 if mayS r=true then
  (if r<128 then [r] else if r<2048 then [192+r / 64,128+r % 64] else if r<65536 then [224+r / 4096,128+r / 64 % 64,128+r % 64]
   else [240+r / 262144,128+r / 4096 % 64,128+r / 64 % 64,128+r % 64])
 else [239,191,189]
theorem mayS_iff {r:Int}:mayS r=true↔0≤r∧r≤55295∨57344≤r∧r≤1114111:=by simp [mayS]
theorem may_fix (r:Int):mayS (fixS r)=true:=by
 unfold fixS;split
 · assumption
 · decide
theorem encS_fix (r:Int):encS (fixS r)=encS r:=by
 unfold fixS;split
 · rfl
 · rename_i h;simp only [encS,if_neg h];decide
theorem encS_len (r:Int):1≤(encS r).length∧(encS r).length≤4:=by
 unfold encS;repeat' split
 all_goals simp
theorem enc1 {r:Int} (h0:0≤r) (h:r<128):encS r=[r]:=by
 have:mayS r=true:=mayS_iff.2 (by omega)
 simp [encS,this,h]
theorem enc2 {r:Int} (h0:128≤r) (h:r<2048):encS r=[192+r / 64,128+r % 64]:=by
 have:mayS r=true:=mayS_iff.2 (by omega)
 have h1:¬ r<128:=by omega
 simp [encS,this,h,h1]
theorem enc3 {r:Int} (h:2048≤r∧r<55296∨57343<r∧r<65536):encS r=[224+r / 4096,128+r / 64 % 64,128+r % 64]:=by
 have:mayS r=true:=mayS_iff.2 (by omega)
 have h1:¬ r<128:=by omega
 have h2:¬ r<2048:=by omega
 have h3:r<65536:=by omega
 simp [encS,this,h1,h2,h3]
theorem enc4 {r:Int} (h:65536≤r∧r≤1114111):encS r=[240+r / 262144,128+r / 4096 % 64,128+r / 64 % 64,128+r % 64]:=by
 have:mayS r=true:=mayS_iff.2 (by omega)
 have h1:¬ r<128:=by omega
 have h2:¬ r<2048:=by omega
 have h3:¬ r<65536:=by omega
 simp [encS,this,h1,h2,h3]
theorem enc_bad {r:Int} (h:mayS r=false):encS r=[239,191,189]:=by simp [encS,h]
theorem may_cases {r:Int} (h:mayS r=true):(0≤r∧r<128)∨(128≤r∧r<2048)∨(2048≤r∧r<55296∨57343<r∧r<65536)∨(65536≤r∧r≤1114111):=by
 have:=mayS_iff.1 h;omega
theorem okF_2 {a x:Int} (ha:szF a=2):okF a x=ctF x:=by
 have:=szF2.1 ha
 unfold okF ctF loF hiF
 rw [if_neg (by omega),if_neg (by omega),if_neg (by omega),if_neg (by omega)]
set_option maxHeartbeats 1600000 in
theorem head_enc {r:Int} (h:mayS r=true) (t:List Int):headS (encS r ++ t)=some (r,(encS r).length):=by
 rcases may_cases h with h1 | h1 | h1 | h1
 · rw [enc1 h1.1 h1.2]
   have ha:szF r=1:=szF1.2 h1.2
   rcases t with _ | ⟨b,_ | ⟨c,_ | ⟨d,t⟩⟩⟩<;>simp [headS,ha]
 · rw [enc2 h1.1 h1.2]
   have ha:szF (192+r / 64)=2:=szF2.2 (by omega)
   have hb:okF (192+r / 64) (128+r % 64)=true:=by rw [okF_2 ha,ctF_iff];omega
   have hv:v2 (192+r / 64) (128+r % 64)=r:=by unfold v2;omega
   rcases t with _ | ⟨c,_ | ⟨d,t⟩⟩<;>simp [headS,ha,hb,hv]
 · rw [enc3 h1]
   have ha:szF (224+r / 4096)=3:=szF3.2 (by omega)
   have hb:okF (224+r / 4096) (128+r / 64 % 64)=true:=by
    rw [okF_iff];unfold loF hiF
    repeat' split
    all_goals omega
   have hc:ctF (128+r % 64)=true:=by rw [ctF_iff];omega
   have hv:v3 (224+r / 4096) (128+r / 64 % 64) (128+r % 64)=r:=by unfold v3;omega
   rcases t with _ | ⟨d,t⟩<;>simp [headS,ha,hb,hc,hv]
 · rw [enc4 h1]
   have ha:szF (240+r / 262144)=4:=szF4.2 (by omega)
   have hb:okF (240+r / 262144) (128+r / 4096 % 64)=true:=by
    rw [okF_iff];unfold loF hiF
    repeat' split
    all_goals omega
   have hc:ctF (128+r / 64 % 64)=true:=by rw [ctF_iff];omega
   have hd:ctF (128+r % 64)=true:=by rw [ctF_iff];omega
   have hv:v4 (240+r / 262144) (128+r / 4096 % 64) (128+r / 64 % 64) (128+r % 64)=r:=by unfold v4;omega
   simp [headS,ha,hb,hc,hd,hv]
theorem whole_enc {r:Int} (h:mayS r=true):wholeS (encS r)=some r:=by
 have h1:=head_enc h []
 rw [List.append_nil] at h1
 have:=encS_len r
 have h2:=head_take (L:=encS r) (k:=(encS r).length) (by omega) (by omega) (by omega)
 rw [h1,List.take_length] at h2
 simpa using h2
set_option maxHeartbeats 1600000 in
theorem enc_whole {L:List Int} {r:Int} (hb:∀ z∈L,0≤z∧z≤255) (h:wholeS L=some r):encS r=L∧mayS r=true:=by
 rcases L with _ | ⟨a,_ | ⟨b,_ | ⟨c,_ | ⟨d,_ | ⟨e,t⟩⟩⟩⟩⟩<;>simp only [wholeS] at h
 · cases h
 · split at h
   · rename_i hc;cases h
     have h0:=hb r (by simp)
     have h1:=szF1.1 hc
     exact ⟨enc1 h0.1 h1,mayS_iff.2 (by omega)⟩
   · cases h
 · split at h
   · rename_i hc;cases h
     have h1:=szF2.1 hc.1
     have h2:=hc.2
     rw [okF_2 hc.1,ctF_iff] at h2
     have e:128≤v2 a b∧v2 a b<2048:=by unfold v2;omega
     refine ⟨?_,mayS_iff.2 (by omega)⟩
     rw [enc2 e.1 e.2]
     unfold v2
     simp only [List.cons.injEq,and_true]
     omega
   · cases h
 · split at h
   · rename_i hc;cases h
     obtain ⟨hc1,hc2,hc3⟩:=hc
     have h1:=szF3.1 hc1
     have h2:=okF_iff.1 hc2
     have h3:=ctF_iff.1 hc3
     have e:2048≤v3 a b c∧v3 a b c<55296∨57343<v3 a b c∧v3 a b c<65536:=by
      unfold loF hiF at h2;unfold v3
      repeat' split at h2
      all_goals omega
     refine ⟨?_,mayS_iff.2 (by omega)⟩
     rw [enc3 e]
     have h4:=okct hc2
     unfold v3
     simp only [List.cons.injEq,and_true]
     omega
   · cases h
 · split at h
   · rename_i hc;cases h
     obtain ⟨hc1,hc2,hc3,hc4⟩:=hc
     have h1:=szF4.1 hc1
     have h2:=okF_iff.1 hc2
     have h3:=ctF_iff.1 hc3
     have h3':=ctF_iff.1 hc4
     have e:65536≤v4 a b c d∧v4 a b c d≤1114111:=by
      unfold loF hiF at h2;unfold v4
      repeat' split at h2
      all_goals omega
     refine ⟨?_,mayS_iff.2 (by omega)⟩
     rw [enc4 e]
     have h4:=okct hc2
     unfold v4
     simp only [List.cons.injEq,and_true]
     omega
   · cases h
 · cases h
def encAll (l:List Int):List Int:=(l.map encS).flatten
theorem encAll_cons (r:Int) (l:List Int):encAll (r :: l)=encS r ++ encAll l:=by simp [encAll]
theorem encAll_snoc (r:Int) (l:List Int):encAll (l ++ [r])=encAll l ++ encS r:=by simp [encAll]
theorem fold_encAll:∀ l:List Int,foldS [] (encAll l)=l.map fixS
 | []=>rfl
 | r :: l=>by
  have h:=head_enc (may_fix r) (encAll l)
  rw [encS_fix] at h
  rw [encAll_cons,(fold_head h).1,List.drop_left,fold_encAll l]
  rfl
def validS (L:List Int):Bool:=decide (encAll (foldS [] L)=L)
theorem valid_nil:validS []=true:=rfl
theorem head_split {L:List Int} {r:Int} {n:Nat} (hb:∀ z∈L,0≤z∧z≤255) (h:headS L=some (r,n)):wholeS (L.take n)=some r∧L=encS r ++ L.drop n∧mayS r=true:=by
 obtain ⟨h1,h4,hn⟩:=head_len h
 have h2:=head_take h1 h4 hn
 rw [h] at h2
 simp at h2
 obtain ⟨e,hm⟩:=enc_whole (fun z hz=>hb z (List.mem_of_mem_take hz)) h2
 exact ⟨h2,by rw [e,List.take_append_drop],hm⟩
theorem valid_head {L:List Int} {r:Int} {n:Nat} (hb:∀ z∈L,0≤z∧z≤255) (h:headS L=some (r,n)):validS L=validS (L.drop n):=by
 obtain ⟨_,e,_⟩:=head_split hb h
 unfold validS
 rw [(fold_head h).1,encAll_cons]
 congr 1
 apply propext
 constructor
 · intro he
   rw [e,List.append_cancel_left_eq] at he
   have:(encS r ++ List.drop n L).drop n=L.drop n:=by rw [← e]
   rw [this] at he
   exact he
 · intro he
   rw [he,← e]
theorem valid_none {L:List Int} (hne:L≠[]) (h:headS L=none):validS L=false:=by
 unfold validS
 rw [(fold_none hne h).1,encAll_cons]
 simp only [decide_eq_false_iff_not]
 intro he
 have h2:=head_enc (r:=65533) (by decide) (encAll (foldS [] (L.drop (max 1 (begLen L)))))
 rw [he,h] at h2
 cases h2
end Go.Proofs.YtikhknnhmnopbaaGreatDoor
