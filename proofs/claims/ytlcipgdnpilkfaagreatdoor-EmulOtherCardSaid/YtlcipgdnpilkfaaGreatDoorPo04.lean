/-
  Part 4 of what the laws of emul want: RecsApp, CellApp, CellSame, CellRowMay.
-/
import Derived.Laws.AppendOwnNone
import Derived.BigQuiet
import Derived.Deep.RegionHeld3
import Derived.Test.YtlcipgdnpilkfaaGreatDoorPo03
namespace Go.Proofs.YtlcipgdnpilkfaaGreatDoor
open Go.RowKit
section
variable {P:Program} {α:Type} {f:α→List Value} {d:Nat}
theorem run_copy_V (w:World) (dT sT ty elem:TypeId) (hf:∀ a,(f a).length=d) (h1:∀ M:List α,∀ v∈rowV f M,v.oneCell'=true) (hu:P.underlying dT=some (.slice elem)) (hs:(P.info? elem).map (·.size)=some d)
  (g k dLen dCap:Nat) (dp sp:Option Addr) (sLen sCap:Nat) (t:TypeId) (L M:List α) (hR:Rw f t w g L) (hn:M.length=Nat.min sLen dLen) (hS:Vs f w sp M.length M) (hd:0<M.length→dp=some ⟨g,k*d,none⟩) (hfit:k+M.length≤L.length) :
  ∃ w',(Builtin.copy_ #[dT,sT] ty #[.slice dp dLen dCap,.slice sp sLen sCap]).run P w=.ok (goInt M.length) w'∧Rw f t w' g (L.take k ++ (M ++ L.drop (k+M.length)))∧w.grownBy w' (some g):=by
 cases hq:P.info? elem with
 | none=>simp [hq] at hs
 | some i =>
  have hi:i.size=d:=by simpa [hq] using hs
  by_cases h0:M.length=0
  · obtain rfl:M=[]:=List.eq_nil_of_length_eq_zero h0
    have hl:∀ (x:Addr),(loadCells x 0).run P w=.ok #[] w:=fun x=>by simpa using run_loadCells_list (P:=P) w x [] (by simp)
    have hn':Nat.min sLen dLen=0:=hn.symm
    refine ⟨w,?_,by simpa using hR,World.grownBy.refl w _⟩
    cases dp<;>cases sp<;>simp [Builtin.copy_,run_underlying hu,Builtin.lenOf,Builtin.firstCells,sizeOf,typeInfo,hq,hn',storeCells,hl]
  · obtain rfl:=hd (by omega)
    obtain ⟨ad,rfl⟩:=hS.addr (by omega)
    have hl:=run_loadCells_list (P:=P) w ad (rowV f M) hS.news
    rw [rowV_len hf] at hl
    have hth:=hR.there hf hfit
    have hst:=run_storeCells_cells (P:=P) g (k*d) (rowV f M) 0 w (fun j hj=>by rw [rowV_len hf] at hj;simpa using (hth j hj).1) (fun j hj=>by rw [rowV_len hf] at hj;simpa using (hth j hj).2) (h1 M)
    obtain ⟨e1,e2⟩:=hR.stored hf hfit
    refine ⟨_,?_,e1,e2⟩
    simp only [Nat.add_zero] at hst
    simp [Builtin.copy_,run_underlying hu,Builtin.lenOf,Builtin.firstCells,sizeOf,typeInfo,hq,hi,← hn,hl,hst]
theorem wpList_copy_V {w:World} {ops:Array Oper} {rest:List Oper} {o:Oper} {a:Act} {Q:Exit→Act→World→Prop} (hgd:o.guard=none) (x y:Operand) (dT sT:TypeId)
  (ho:o.op=.call { callee:=.builtin .copy,args:=#[x,y],argTypes:=#[dT,sT] }) (elem:TypeId) (hf:∀ a,(f a).length=d) (h1:∀ M:List α,∀ v∈rowV f M,v.oneCell'=true) (hu:P.underlying dT=some (.slice elem)) (hs:(P.info? elem).map (·.size)=some d)
  (g k dLen dCap:Nat) (dp sp:Option Addr) (sLen sCap:Nat) (hx:a.eval x=.slice dp dLen dCap) (hy:a.eval y=.slice sp sLen sCap)
  (t:TypeId) (L M:List α) (hR:Rw f t w g L) (hn:M.length=Nat.min sLen dLen) (hS:Vs f w sp M.length M) (hd:0<M.length→dp=some ⟨g,k*d,none⟩) (hfit:k+M.length≤L.length)
  (h:∀ w',Rw f t w' g (L.take k ++ (M ++ L.drop (k+M.length)))→w.grownBy w' (some g)→wpList P ops Q rest (a.put o.dst (goInt M.length)) w'):wpList P ops Q (o :: rest) a w:=by
 obtain ⟨w',hrun,h2,h3⟩:=run_copy_V (P:=P) w dT sT o.type elem hf h1 hu hs g k dLen dCap dp sp sLen sCap t L M hR hn hS hd hfit
 refine wpList_plain hgd fun K hK=>?_
 unfold Oper.wp
 simp [execOp,ho,resolve,invoke,builtin,hx,hy,hrun,Result.andThen]
 exact hK _ _ (h w' h2 h3)
theorem wpList_store_V {w:World} {ops:Array Oper} {rest:List Oper} {o:Oper} {a:Act} {Q:Exit→Act→World→Prop} (hgd:o.guard=none) (ty:TypeId) (x y:Operand) (ho:o.op=.store ty x y)
  (hf:∀ a,(f a).length=d) (h1:∀ M:List α,∀ v∈rowV f M,v.oneCell'=true) (hi:(P.info? ty).map (·.size)=some d)
  (g off k:Nat) (c:α) (cells:Array Value) (hx:a.eval x=.pointer (some ⟨g,off,none⟩)) (hoff:off=k*d) (hy:a.eval y=.agg cells) (hcs:cells.toList=f c)
  (t:TypeId) (L:List α) (hR:Rw f t w g L) (hk:k<L.length)
  (h:∀ w',Rw f t w' g (L.set k c)→w.grownBy w' (some g)→wpList P ops Q rest (a.put o.dst undef) w'):wpList P ops Q (o :: rest) a w:=by
 subst hoff
 have hsz:cells.size=d:=by rw [← hf c,← hcs,Array.length_toList]
 have hone:rowV f [c]=f c:=by simp [rowV]
 obtain ⟨e1,e2⟩:=hR.stored hf (k:=k) (M:=[c]) (by simp;omega)
 refine wpList_store_mid hgd ty x y ho g (k*d) cells hx hy (by rw [hsz];simpa using hR.there hf (k:=k) (m:=1) (by omega)) (by rw [hsz];exact hi) ?_ ?_
 · rw [Array.all_eq_true_iff_forall_mem]
   intro v hv
   exact h1 [c] v (by rw [hone,← hcs];simpa using hv)
 · rw [hcs,← hone]
   refine h _ ?_ e2
   have e:L.set k c=L.take k ++ ([c] ++ L.drop (k+[c].length)):=by rw [List.set_eq_take_append_cons_drop,if_pos hk];rfl
   rw [e]
   exact e1
theorem wpList_app_V (w:World) {ops:Array Oper} {rest:List Oper} {o:Oper} {a:Act} {Q:Exit→Act→World→Prop} (hgd:o.guard=none) (s x:Operand) (t:TypeId)
  (ho:o.op=.call { callee:=.builtin .append,args:=#[s,x],argTypes:=#[t,t] }) (hf:∀ a,(f a).length=d) (h1:∀ M:List α,∀ v∈rowV f M,v.oneCell'=true)
  (base:Nat) (e:TypeId) (z:Value) (b8:Nat) (hb8:b8≤64) (ht:P.underlying t=some (.slice e)) (hi:(P.info? e).map (fun i=>(i.zero,i.size,i.bytes))=some (some z,d,b8)) (hzs:z.cells.size=d) (hd0:0<d)
  (v:Value) (n:Nat) (L:List α) (hs:a.eval s=v) (hown:w.ownsRow base e d v n (rowV f L))
  (A:Option Addr) (m c k:Nat) (hk:n+m=k) (M:List α) (hx:a.eval x=.slice A m c) (hr:Vs f w A m M) (h63:k≤1000000) (hbase:base≤w.heap.size)
  (h:∀ A' c' w',w'.ownsRow base e d (.slice A' k c') k (rowV f (L ++ M))→w.grownBy w' v.ownBlock→wpList P ops Q rest (a.put o.dst (.slice A' k c')) w'):wpList P ops Q (o :: rest) a w:=by
 subst hk
 obtain ⟨i0,hi,hz0,hz1,hz2⟩:=info_parts hi
 have hk:∀ v' w',w'.ownsRow base e d v' (n+m) (rowV f (L ++ M))→w.grownBy w' v.ownBlock→wpList P ops Q rest (a.put o.dst v') w':=by
  intro v' w' h1 h2
  obtain ⟨A',c',rfl,_⟩:=own_shape h1
  exact h A' c' w' h1 h2
 have h8:(n+m)*b8≤1000000*64:=Nat.mul_le_mul h63 hb8
 rw [rowV_append] at hk
 cases A with
 | none =>
  have hm:m=0:=by
   rcases Nat.eq_zero_or_pos m with h0 | h0
   · exact h0
   · obtain ⟨ad,e1⟩:=hr.addr h0
     cases e1
  subst hm
  have hn:M=[]:=List.eq_nil_of_length_eq_zero hr.len
  subst hn
  refine wpList_plain hgd fun K hK=>?_
  have hrun:=run_app_nil (P:=P) w base t o.type e i0 d ht hi v n _ hown c
  unfold Oper.wp
  simp [execOp,ho,resolve,invoke,builtin,hs,hx,hrun,Result.andThen]
  exact hK _ _ (hk v w (by simpa [rowV] using hown) (World.grownBy.refl w _))
 | some ad =>
  exact wpList_append_own w hgd s x t ho base e i0 z d b8 ht hi hz0 hz1 hz2 hzs hd0 v n _ hs hown ad m c (rowV f M) hx (by rw [rowV_len hf,hr.len]) hr.news (h1 M)
   (by unfold maxLen;omega) (by omega) hbase fun v' w' h1 h2 _=>hk v' w' h1 h2
theorem own_vs {w:World} {base:Nat} {e:TypeId} {A:Option Addr} {n c:Nat} {L:List α} (hl:L.length=n) (h:w.ownsRow base e d (.slice A n c) n (rowV f L)):Vs f w A n L:=by
 refine ⟨hl,fun hn=>?_⟩
 rcases h.2 with ⟨h3,h4⟩ | ⟨g,cap,cur,hv,hb,hg,hle,hm,hs,ht⟩
 · omega
 · injection hv with hA _ hc
   subst hA
   exact ⟨_,rfl,(Array.getElem?_eq_some_iff.1 hg).1,h.cells (g:=g) rfl⟩
theorem own_some {w:World} {base:Nat} {e:TypeId} {A:Option Addr} {n c:Nat} {L:List α} (hn:0<n) (h:w.ownsRow base e d (.slice A n c) n (rowV f L)):∃ g,A=some ⟨g,0,none⟩∧base≤g∧n≤c∧c≤maxLen∧Rw f e w g L:=by
 have h0:=h
 rcases h.2 with ⟨h3,h4⟩ | ⟨g,cap,cur,hv,hb,hg,hle,hm,hs,ht⟩
 · omega
 · injection hv with hA _ hc
   subst hA
   subst hc
   exact ⟨g,rfl,hb,hle,hm,own_rw h0⟩
end
theorem made_cells {α:Type} {f:α→List Value} {d:Nat} (hf:∀ a,(f a).length=d) (hd:0<d) (z:α) (n:Nat):madeCells (f z).toArray (n*d)=(rowV f (List.replicate n z)).toArray:=by
 apply Array.ext'
 apply List.ext_getElem?
 intro i
 unfold madeCells
 simp only [Array.toList_map,Array.toList_range,List.getElem?_map]
 by_cases hi:i<n*d
 · have h1:i / d<n:=(Nat.div_lt_iff_lt_mul hd).2 hi
   have h2:i % d<(f z).length:=by rw [hf];exact Nat.mod_lt _ hd
   have h3:=rowV_get hf (L:=List.replicate n z) (k:=i / d) (a:=z) (by simp [h1]) (j:=i % d) (List.getElem?_eq_getElem h2)
   rw [Nat.div_add_mod' i d] at h3
   rw [h3]
   simp [hi,hf]
   have h4:i % d<(f z).length:=h2
   simp [h4]
 · rw [List.getElem?_eq_none (l:=rowV f (List.replicate n z)) (by rw [rowV_len hf,List.length_replicate];omega),List.getElem?_eq_none (l:=List.range (n*d)) (by rw [List.length_range];omega)]
   rfl
theorem make_any {e:TypeId} {P:Program} {α:Type} {f:α→List Value} {d b8:Nat} (t:TypeId) (ht:P.underlying t=some (.slice e)) (z:α) (hf:∀ a,(f a).length=d) (hd:0<d) (hb8:b8≤64)
  (hi:(P.info? e).map (fun i=>(i.zero,i.size,i.bytes))=some (some (.agg (f z).toArray),d,b8)) (n:Nat) (hn:n≤1000000) (w:World) :
  (Instr.makeSlice t (.int .i64 (n:Int)) (.int .i64 (n:Int))).run P w=.ok (.slice (some ⟨w.heap.size,0,none⟩) n n) (w.alloc (.cells (rowV f (List.replicate n z)).toArray e)):=by
 obtain ⟨i0,hi,hz0,hz1,hz2⟩:=info_parts hi
 have h1:(i0.bytes:Int)*(n:Int)≤281474976710656:=by
  have h2:i0.bytes*n≤64*1000000:=Nat.mul_le_mul (by omega) hn
  have:((i0.bytes*n:Nat):Int)≤281474976710656:=by omega
  rwa [Int.natCast_mul] at this
 have hr:=run_make (P:=P) w t e i0 _ ht hi hz0 .i64 .i64 n n (by omega) (Int.le_refl _) h1 (by omega)
 rw [hr,hz1]
 simp only [Int.toNat_natCast]
 rw [show (Value.agg (f z).toArray).cells=(f z).toArray from rfl,made_cells hf hd z n]
theorem made_rw {α:Type} {f:α→List Value} (w:World) (e:TypeId) (L:List α):Rw f e (w.alloc (.cells (rowV f L).toArray e)) w.heap.size L:=⟨[],by rw [List.append_nil];exact heap_alloc_new w _⟩
open Go.RowKit
theorem infoCe3:(Tryz.prog.info? 66).map (fun i=>(i.zero,i.size,i.bytes))=some (some (.agg (ceA ce0)),6,20):=by kernel_rfl
def MadeC (L:List Ce) (w:World) (e:Ending) (w':World):Prop :=
 Below w.heap.size w w'∧∃ g c,e=.returned (.slice (some ⟨g,0,none⟩) L.length c)∧w.heap.size≤g∧L.length≤c∧c≤maxLen∧Rw ceV 66 w' g L
theorem cloneC_any {w:World} {A:Option Addr} {n c:Nat} {L:List Ce} (h:Vs ceV w A n L) (h0:0<n) (hn:n≤1000000) :
  Calls Tryz.prog 94 #[.slice A n c] w (MadeC L w):=by
 have hrun:=fun (w:World)=>Lib.run_eql_slice_nil (P:=Tryz.prog) w 24 66 A n c 0 0 Tryz.underlying24
 obtain ⟨ad,rfl⟩:=h.addr h0
 have H:=Lib.hid (h.alloc (.cells #[] 66))
 have HL:=Lib.hid h.len
 clear h
 go_enter Tryz.func94,Tryz.ntmps94
 go_wp2_with (at_builtin;refine wpList_app_V _ rfl _ _ 24 rfl ceV_len one_ce w.heap.size 66 _ 20 (by omega) Tryz.underlying24 infoCe3 rfl (by omega) (.slice (some ⟨w.heap.size,0,none⟩) 0 0) 0 [] rfl (World.ownsRow_lit w #[] 0 (Nat.le_refl _) (by unfold maxLen;omega) rfl) (some ad) n c n (by omega) L rfl H.out hn (by simp) ?_;intro A' c' w1 hown hg;simp only [List.nil_append] at hown)
 obtain ⟨g,rfl,hb,hle,hm,hR⟩:=own_some h0 hown
 have X:MadeC L w (.returned (.slice (some ⟨g,0,none⟩) L.length c')) w1:=⟨((Below.refl _ _).alloc (Nat.le_refl _) _).grown hg (by simp) (by intro k hk;have:w.heap.size=k:=(by simpa [Value.ownBlock] using hk);omega),g,c',rfl,hb,by rw [HL.out];exact hle,hm,hR⟩
 rw [HL.out] at X
 clear hown hg hR
 go_ret
 exact X
open Go.RowKit
theorem retBC {a b:Bool} (h:a=b):Ending.returned (.bool a)=.returned (.bool b):=by rw [h]
structure Six (w:World) (ad:Addr) (c:Ce):Prop where
 c0:w.cell? ad=some (.int .i32 c.r)
 c1:w.cell? ⟨ad.block,ad.off+1,none⟩=some (.int .u8 c.wd)
 c2:w.cell? ⟨ad.block,ad.off+2,none⟩=some (.int .u32 c.p.fg)
 c3:w.cell? ⟨ad.block,ad.off+3,none⟩=some (.int .u32 c.p.bg)
 c4:w.cell? ⟨ad.block,ad.off+4,none⟩=some (.int .u8 c.p.st)
 c5:w.cell? ⟨ad.block,ad.off+5,none⟩=some (.int .u16 c.p.lk)
theorem addStep (ad:Addr) (j:Nat):ad.add (j+1)=⟨ad.block,ad.off+(j+1),none⟩:=rfl
theorem addZero (ad:Addr):ad.add 0=ad:=rfl
theorem Vs.six {w:World} {ad:Addr} {n:Nat} {L:List Ce} (h:Vs ceV w (some ad) n L) {k:Nat} (hk:k<n):Six w (ad.add (k*6)) (cAt L k):=by
 have h1:=h.get ceV_len (getElem?_cAt (L:=L) (k:=k) (by rw [h.len];exact hk))
 exact ⟨by simpa [addZero] using h1 0 _ rfl,by simpa [addStep] using h1 1 _ rfl,by simpa [addStep] using h1 2 _ rfl,by simpa [addStep] using h1 3 _ rfl,by simpa [addStep] using h1 4 _ rfl,by simpa [addStep] using h1 5 _ rfl⟩
theorem take_snocC {xs ys:List Ce} {k:Nat} (h1:k<xs.length) (h2:k<ys.length):(xs.take (k+1)=ys.take (k+1))↔(xs.take k=ys.take k∧cAt xs k=cAt ys k):=by
 rw [List.take_add_one,List.take_add_one,getElem?_cAt h1,getElem?_cAt h2]
 constructor
 · intro h
   have h3:=List.append_inj h (by simp;omega)
   exact ⟨h3.1,by simpa using h3.2⟩
 · rintro ⟨e1,e2⟩
   rw [e1,e2]
set_option maxHeartbeats 800000 in
theorem sameC_any {w:World} {A A':Option Addr} {n n' c c':Nat} {xs ys:List Ce} (h:Vs ceV w A n xs) (h':Vs ceV w A' n' ys) (hn:n≤1000000) (hn':n'≤9223372036854775807) :
  Calls Tryz.prog 27 #[.slice A n c,.slice A' n' c'] w fun e w'=>e=.returned (.bool (decide (xs=ys)))∧∃ q,w'=w.drewN q:=by
 by_cases hne:n=n'
 · subst hne
   have H:=Lib.hid (And.intro h h')
   clear h h' hn'
   go_enter Tryz.func27,Tryz.ntmps27
   go_wp2
   go_loopw [13] (fun i wr=>∃ k q:Nat,k≤n∧i=.int .i64 k∧xs.take k=ys.take k∧wr=w.drewN q) (fun i _=>n-(intOf i).toNat)
   case atStart=>exact ⟨0,0,Nat.zero_le _,rfl,by simp,rfl⟩
   case round =>
    obtain ⟨k,q,hk,rfl,hx,rfl⟩:=hrel
    have HX:=Lib.hid hx
    clear hx
    by_cases hlt:k<n
    · obtain ⟨ad,rfl⟩:=H.out.1.addr (by omega)
      obtain ⟨ad',rfl⟩:=H.out.2.addr (by omega)
      obtain ⟨a0,a1,a2,a3,a4,a5⟩:=H.out.1.six hlt
      obtain ⟨b0,b1,b2,b3,b4,b5⟩:=H.out.2.six hlt
      have HT:=Lib.hid (take_snocC (xs:=xs) (ys:=ys) (k:=k) (by rw [H.out.1.len];exact hlt) (by rw [H.out.2.len];exact hlt))
      have hne:=fun w=>ce_neq (cAt xs k) (cAt ys k) w
      unfold ceA at hne
      generalize cAt xs k=x at a0 a1 a2 a3 a4 a5 HT hne
      generalize cAt ys k=y at b0 b1 b2 b3 b4 b5 HT hne
      have hgd:=guardCe
      obtain ⟨B,hB⟩:∃ B,decide (x=y)=B:=⟨_,rfl⟩
      rw [hB] at hne
      have HB:=Lib.hid hB
      clear hB
      cases B
      · have hd:decide (xs=ys)=false:=by
         rw [decide_eq_false_iff_not]
         rintro rfl
         exact (of_decide_eq_false HB.out) (HT.out.1 rfl).2
        have HD:=Lib.hid hd
        clear hd
        go_wp2
        go_quiet (fail)
        go_wp2
        go_ret
        exact ⟨retBC HD.out.symm,q+nq,by simp [World.drewN,Nat.add_assoc]⟩
      · have ht:=HT.out.2 ⟨HX.out,of_decide_eq_true HB.out⟩
        have HTT:=Lib.hid ht
        clear ht HT
        go_wp2
        go_quiet (fail)
        go_wp2
        go_roundw
        case rel=>exact ⟨k+1,q+nq,by omega,by go_num,HTT.out,rfl⟩
        case measure=>simp [intOf];omega
    · have hd:decide (xs=ys)=true:=by
       have e1:=HX.out
       rw [List.take_of_length_le (by rw [H.out.1.len];omega),List.take_of_length_le (by rw [H.out.2.len];omega)] at e1
       simpa using e1
      have HD:=Lib.hid hd
      clear hd
      go_wp2
      go_ret
      exact ⟨retBC HD.out.symm,q,rfl⟩
 · have hd:decide (xs=ys)=false:=by
    rw [decide_eq_false_iff_not]
    rintro rfl
    exact hne (h.len.symm.trans h'.len)
   rw [hd]
   have hne':¬ ((n:Int)=(n':Int)):=by omega
   clear h h' hd
   go_enter Tryz.func27,Tryz.ntmps27
   go_wp2
   go_ret
   exact ⟨rfl,0,rfl⟩
theorem copyC_any {w:World} {A:Option Addr} {n c:Nat} {L:List Ce} (h:Vs ceV w A n L) (hn:n≤1000000):Calls Tryz.prog 137 #[.slice A n c] w (MadeC L w):=by
 have hmk:=make_any (P:=Tryz.prog) 24 Tryz.underlying24 ce0 ceV_len (by omega) (b8:=20) (by omega) infoCe3 n hn
 have H:=Lib.hid (And.intro (h.alloc (.cells (rowV ceV (List.replicate n ce0)).toArray 66)) (made_rw (f:=ceV) w 66 (List.replicate n ce0)))
 have HL:=Lib.hid h.len
 clear h
 go_enter Tryz.func137,Tryz.ntmps137
 go_wp2_with (refine wpList_copy_V rfl (.tmp 7) (.tmp 8) 24 24 rfl 66 ceV_len one_ce Tryz.underlying24 infoCe w.heap.size 0 n n (some ⟨w.heap.size,0,none⟩) A n c rfl rfl 66 (List.replicate n ce0) L H.out.2 (by rw [HL.out];exact (Nat.min_self n).symm) (by rw [HL.out];exact H.out.1) (fun _=>by simp) (by simp [HL.out]) ?_;intro w1 hR hg)
 have X:MadeC L w (.returned (.slice (some ⟨w.heap.size,0,none⟩) n n)) w1:=by
  refine ⟨((Below.refl _ _).alloc (Nat.le_refl _) _).grown hg (by simp) (by intro k hk;injection hk with hk;omega),w.heap.size,n,by rw [HL.out],Nat.le_refl _,by rw [HL.out];exact Nat.le_refl _,by unfold maxLen;omega,?_⟩
  have e:List.take 0 (List.replicate n ce0) ++ (L ++ List.drop (0+L.length) (List.replicate n ce0))=L:=by simp [HL.out]
  rw [e] at hR
  exact hR
 clear hR hg
 go_wp2_with fail
 go_ret
 exact X
open Go.RowKit
theorem six_new (w:World) (c:Ce) (t:TypeId):Six (w.alloc (.cells (ceA c) t)) ⟨w.heap.size,0,none⟩ c :=
 ⟨cell_of_row _ _ 0 _ _ _ (heap_alloc_new w _),cell_of_row _ _ 1 _ _ _ (heap_alloc_new w _),cell_of_row _ _ 2 _ _ _ (heap_alloc_new w _),cell_of_row _ _ 3 _ _ _ (heap_alloc_new w _),cell_of_row _ _ 4 _ _ _ (heap_alloc_new w _),cell_of_row _ _ 5 _ _ _ (heap_alloc_new w _)⟩
theorem Six.below {w w':World} {ad:Addr} {c:Ce} (h:Six w ad c) {B:Nat} (hb:Below B w w') (hB:ad.block<B):Six w' ad c :=
 ⟨(hb.cell hB).trans h.c0,(hb.cell (by exact hB)).trans h.c1,(hb.cell (by exact hB)).trans h.c2,(hb.cell (by exact hB)).trans h.c3,(hb.cell (by exact hB)).trans h.c4,(hb.cell (by exact hB)).trans h.c5⟩
theorem Six.blk {w:World} {b:Nat} {c:Ce} (h:Six w ⟨b,0,none⟩ c):w.cell? ⟨b,0,none⟩=some (.int .i32 c.r)∧w.cell? ⟨b,1,none⟩=some (.int .u8 c.wd)∧w.cell? ⟨b,2,none⟩=some (.int .u32 c.p.fg) ∧
  w.cell? ⟨b,3,none⟩=some (.int .u32 c.p.bg)∧w.cell? ⟨b,4,none⟩=some (.int .u8 c.p.st)∧w.cell? ⟨b,5,none⟩=some (.int .u16 c.p.lk):=⟨h.c0,h.c1,h.c2,h.c3,h.c4,h.c5⟩
theorem belowN {B:Nat} {a w:World} (h:Below B a w) (n:Nat):Below B a (w.drewN n):=⟨h.os,h.tape,h.output,h.size,h.block⟩
theorem okAt_not {L:List Ce} {k:Nat} (hk:k<L.length) (h:¬ OkAt L k):rowMay L=false:=(rowMay_not L).2 fun e=>h (e.at_ k hk)
theorem below_sz {B:Nat} {a b:World} (h:Below B a b):a.heap.size≤b.heap.size:=h.size
theorem okAt_succ {L:List Ce} {k:Nat} (h:∀ j,j<k→OkAt L j) (h2:OkAt L k):∀ j,j<k+1→OkAt L j:=fun j hj=>by
 by_cases e:j=k
 · rw [e];exact h2
 · exact h j (by omega)
theorem retF {a:Bool} (h:a=false):Ending.returned (.bool false)=.returned (.bool a):=by rw [h]
theorem retT {a:Bool} (h:a=true):Ending.returned (.bool true)=.returned (.bool a):=by rw [h]
set_option maxHeartbeats 3200000 in
set_option maxRecDepth 100000 in
theorem rowMay_any {w:World} {A:Option Addr} {n c:Nat} {L:List Ce} (h:Vs ceV w A n L) (hT:Tabs w) (hn:n≤1000000) :
  Calls Tryz.prog 134 #[.slice A n c] w fun e w'=>e=.returned (.bool (rowMay L))∧Below w.heap.size w w':=by
 by_cases h1:n<1
 · have hd:rowMay L=false:=(rowMay_not L).2 fun e=>by have:=e.pos;have:=h.len;omega
   rw [hd]
   clear h hT hd
   go_enter Tryz.func134,Tryz.ntmps134
   go_wp2_with fail
   go_ret
   exact ⟨rfl,Below.refl _ _⟩
 by_cases h2:80<n
 · have hd:rowMay L=false:=(rowMay_not L).2 fun e=>by have:=e.le;have:=h.len;omega
   rw [hd]
   clear h hT hd
   go_enter Tryz.func134,Tryz.ntmps134
   go_wp2_with fail
   go_ret
   exact ⟨rfl,Below.refl _ _⟩
 have hn80:n≤80:=by omega
 have H:=Lib.hid (And.intro h hT)
 clear h hT
 go_enter Tryz.func134,Tryz.ntmps134
 go_wp2_with fail
 go_loopw [15] (fun i wr=>∃ k:Nat,k≤n∧i=.int .i64 k∧(∀ j,j<k→OkAt L j)∧Below w.heap.size w wr) (fun i _=>n-(intOf i).toNat)
 case atStart=>exact ⟨0,Nat.zero_le _,rfl,fun j hj=>absurd hj (by omega),Below.refl _ _⟩
 case round =>
  obtain ⟨k,hk,rfl,hok,hbw⟩:=hrel
  have HJ:=Lib.hid hok
  have X:=Lib.hid (show (∀ j,j<k→OkAt L j)∧Below w.heap.size w wr∧Vs ceV wr A n L from ⟨hok,hbw,H.out.1.below hbw⟩)
  clear hok hbw
  by_cases hlt:k<n
  · have hkl:(k:Int)<(n:Int):=by omega
    obtain ⟨ad,rfl⟩:=H.out.1.addr (by omega)
    have hadl:=X.out.2.2.lt (by omega)
    have HKL:=Lib.hid (show k<L.length from by rw [H.out.1.len];exact hlt)
    obtain ⟨x,hx⟩:∃ x,x=cAt L k:=⟨_,rfl⟩
    have hsx:=X.out.2.2.six hlt
    rw [← hx] at hsx
    obtain ⟨a0,a1,a2,a3,a4,a5⟩:=hsx
    have HX:=Lib.hid hx
    clear hx
    go_wp2_with fail
    refine (ceMay_any x (H.out.2.below (X.out.2.1.alloc X.out.2.1.size _) (Nat.le_refl _))).mono ?_
    rintro e w2 ⟨rfl,hb⟩
    have hs2:=(six_new wr x 66).below hb (by simp)
    have hv2:=(X.out.2.2.alloc (.cells (ceA x) 66)).below hb
    obtain ⟨bx,hbx⟩:∃ bx,bx=wr.heap.size:=⟨_,rfl⟩
    have hbel:=(X.out.2.1.alloc X.out.2.1.size (.cells (ceA x) 66)).trans (hb.mono (by simp;have:=X.out.2.1.size;omega))
    have hblt:bx<w2.heap.size:=by have:=hb.size;simp at this;omega
    rw [← hbx] at hs2 ⊢
    have Y:=Lib.hid (show Below w.heap.size w w2∧Vs ceV w2 (some ad) n L∧Six w2 ⟨bx,0,none⟩ x∧bx<w2.heap.size from ⟨hbel,hv2,hs2,hblt⟩)
    obtain ⟨d0,d1,d2,d3,d4,d5⟩:=hs2.blk
    clear a0 a1 a2 a3 a4 a5 hb hadl hv2 hbel hblt hbx hs2 X
    have hadl:=Y.out.2.1.lt (by omega)
    obtain ⟨M,hM⟩:∃ M,cellMay x=M:=⟨_,rfl⟩
    rw [hM]
    have HM:=Lib.hid hM
    clear hM
    cases M
    · have HD:=Lib.hid (okAt_not HKL.out (fun e=>by have:=e.1;rw [← HX.out,HM.out] at this;cases this))
      clear d0 d1 d2 d3 d4 d5 hadl
      go_wp2_with fail
      go_ret
      exact ⟨retF HD.out,Y.out.1⟩
    · by_cases hw1:x.wd=1
      · rw [hw1] at d1
        by_cases hlast:k+1=n
        · have hl1:((k:Int)+1 == (n:Int))=true:=by simp;omega
          have HD:=Lib.hid (okAt_not HKL.out (fun e=>by have:=(e.2.1 (by rw [← HX.out];exact hw1)).1;have:=H.out.1.len;omega))
          clear hw1 hlast d0 d2 d3 d4 d5 hadl
          go_wp2_with fail
          go_quiet (fail)
          go_wp2_with fail
          go_ret
          exact ⟨retF HD.out,belowN Y.out.1 _⟩
        · have hl1:((k:Int)+1 == (n:Int))=false:=by simp;omega
          have hl2:(k:Int)+1<(n:Int):=by omega
          have hl3:k+1<n:=by omega
          obtain ⟨y,hy⟩:∃ y,y=cAt L (k+1):=⟨_,rfl⟩
          have HY:=Lib.hid hy
          clear hy hlast
          have SX:=Lib.hid (show ∀ w',Below w2.heap.size w2 w'→(Below w2.heap.size w2 w'∧(w'.cell? ⟨bx,0,none⟩=some (.int .i32 x.r)∧w'.cell? ⟨bx,1,none⟩=some (.int .u8 1)∧w'.cell? ⟨bx,2,none⟩=some (.int .u32 x.p.fg)∧w'.cell? ⟨bx,3,none⟩=some (.int .u32 x.p.bg)∧w'.cell? ⟨bx,4,none⟩=some (.int .u8 x.p.st)∧w'.cell? ⟨bx,5,none⟩=some (.int .u16 x.p.lk)) ∧
            (w'.cell? (ad.add ((k+1)*6))=some (.int .i32 y.r)∧w'.cell? ⟨(ad.add ((k+1)*6)).block,(ad.add ((k+1)*6)).off+1,none⟩=some (.int .u8 y.wd)∧w'.cell? ⟨(ad.add ((k+1)*6)).block,(ad.add ((k+1)*6)).off+2,none⟩=some (.int .u32 y.p.fg) ∧
             w'.cell? ⟨(ad.add ((k+1)*6)).block,(ad.add ((k+1)*6)).off+3,none⟩=some (.int .u32 y.p.bg)∧w'.cell? ⟨(ad.add ((k+1)*6)).block,(ad.add ((k+1)*6)).off+4,none⟩=some (.int .u8 y.p.st)∧w'.cell? ⟨(ad.add ((k+1)*6)).block,(ad.add ((k+1)*6)).off+5,none⟩=some (.int .u16 y.p.lk))) from fun w' hb=>by
           have e1:=Y.out.2.2.1.below hb Y.out.2.2.2
           have e2:=(Y.out.2.1.below hb).six hl3
           rw [← HY.out] at e2
           exact ⟨hb,⟨e1.c0,by rw [← hw1];exact e1.c1,e1.c2,e1.c3,e1.c4,e1.c5⟩,e2.c0,e2.c1,e2.c2,e2.c3,e2.c4,e2.c5⟩)
          have hl4:(0:Int)≤(k:Int)+1:=by omega
          have hwr:IntKind.i64.wrap ((k:Int)+1)=(k:Int)+1:=by rw [IntKind.wrap_i64];omega
          have hl5:((k:Int)+1).toNat=k+1:=by omega
          have hgd:=guardCe
          obtain ⟨RV,hRV⟩:∃ RV,RV=ceA (rightS ⟨x.r,1,x.p⟩):=⟨_,rfl⟩
          have hcall:=fun w=>rightOf_any ⟨x.r,1,x.p⟩ w
          have hne:=fun w=>ce_neq y (rightS ⟨x.r,1,x.p⟩) w
          rw [← hRV] at hcall hne
          unfold ceA at hcall hne
          have HC:=Lib.hid hcall
          obtain ⟨B,hB⟩:∃ B,decide (y=rightS ⟨x.r,1,x.p⟩)=B:=⟨_,rfl⟩
          rw [hB] at hne
          have HB:=Lib.hid hB
          clear hB hRV hcall
          have hb0:Below w2.heap.size w2 w2:=Below.refl _ _
          have HW:=Lib.hid hw1
          clear hw1 d0 d1 d2 d3 d4 d5 hadl hl3
          cases B
          · have HD:=Lib.hid (okAt_not HKL.out (fun e=>(of_decide_eq_false HB.out) (by rw [HY.out];exact (e.2.1 (by rw [← HX.out];exact HW.out)).2.trans (by rw [← HX.out];rfl))))
            go_wp2_with fail
            go_region_held3 (fun w'=>Below w2.heap.size w2 w'∧(w'.cell? ⟨bx,0,none⟩=some (.int .i32 x.r)∧w'.cell? ⟨bx,1,none⟩=some (.int .u8 1)∧w'.cell? ⟨bx,2,none⟩=some (.int .u32 x.p.fg)∧w'.cell? ⟨bx,3,none⟩=some (.int .u32 x.p.bg)∧w'.cell? ⟨bx,4,none⟩=some (.int .u8 x.p.st)∧w'.cell? ⟨bx,5,none⟩=some (.int .u16 x.p.lk)) ∧
             (w'.cell? (ad.add ((k+1)*6))=some (.int .i32 y.r)∧w'.cell? ⟨(ad.add ((k+1)*6)).block,(ad.add ((k+1)*6)).off+1,none⟩=some (.int .u8 y.wd)∧w'.cell? ⟨(ad.add ((k+1)*6)).block,(ad.add ((k+1)*6)).off+2,none⟩=some (.int .u32 y.p.fg) ∧
              w'.cell? ⟨(ad.add ((k+1)*6)).block,(ad.add ((k+1)*6)).off+3,none⟩=some (.int .u32 y.p.bg)∧w'.cell? ⟨(ad.add ((k+1)*6)).block,(ad.add ((k+1)*6)).off+4,none⟩=some (.int .u8 y.p.st)∧w'.cell? ⟨(ad.add ((k+1)*6)).block,(ad.add ((k+1)*6)).off+5,none⟩=some (.int .u16 y.p.lk)))
             ((refine SX.out _ ?_;(try go_split_ands);first | assumption | exact belowN (by assumption) 1))
             ((first | (go_at_call 204;refine (HC.out _).mono ?_;rintro e w4 ⟨rfl,hb4⟩;(try go_split_ands);have hb5:=Below.trans (B:=w2.heap.size) (by assumption) (hb4.mono (below_sz (a:=w2) (B:=w2.heap.size) (by assumption))))))
            go_wp2_with fail
            go_ret
            exact ⟨retF HD.out,Y.out.1.trans (hb5.mono Y.out.1.size)⟩
          · have HOK:=Lib.hid (show OkAt L k from ⟨by rw [← HX.out];exact HM.out,fun _=>⟨by rw [H.out.1.len];omega,by rw [← HY.out,of_decide_eq_true HB.out,← HX.out];rfl⟩,fun e=>by rw [← HX.out,HW.out] at e;cases e⟩)
            go_wp2_with fail
            go_region_held3 (fun w'=>Below w2.heap.size w2 w'∧(w'.cell? ⟨bx,0,none⟩=some (.int .i32 x.r)∧w'.cell? ⟨bx,1,none⟩=some (.int .u8 1)∧w'.cell? ⟨bx,2,none⟩=some (.int .u32 x.p.fg)∧w'.cell? ⟨bx,3,none⟩=some (.int .u32 x.p.bg)∧w'.cell? ⟨bx,4,none⟩=some (.int .u8 x.p.st)∧w'.cell? ⟨bx,5,none⟩=some (.int .u16 x.p.lk)) ∧
             (w'.cell? (ad.add ((k+1)*6))=some (.int .i32 y.r)∧w'.cell? ⟨(ad.add ((k+1)*6)).block,(ad.add ((k+1)*6)).off+1,none⟩=some (.int .u8 y.wd)∧w'.cell? ⟨(ad.add ((k+1)*6)).block,(ad.add ((k+1)*6)).off+2,none⟩=some (.int .u32 y.p.fg) ∧
              w'.cell? ⟨(ad.add ((k+1)*6)).block,(ad.add ((k+1)*6)).off+3,none⟩=some (.int .u32 y.p.bg)∧w'.cell? ⟨(ad.add ((k+1)*6)).block,(ad.add ((k+1)*6)).off+4,none⟩=some (.int .u8 y.p.st)∧w'.cell? ⟨(ad.add ((k+1)*6)).block,(ad.add ((k+1)*6)).off+5,none⟩=some (.int .u16 y.p.lk)))
             ((refine SX.out _ ?_;(try go_split_ands);first | assumption | exact belowN (by assumption) 1))
             ((first | (go_at_call 204;refine (HC.out _).mono ?_;rintro e w4 ⟨rfl,hb4⟩;(try go_split_ands);have hb5:=Below.trans (B:=w2.heap.size) (by assumption) (hb4.mono (below_sz (a:=w2) (B:=w2.heap.size) (by assumption))))))
            go_wp2_with fail
            go_roundw
            case rel=>exact ⟨k+1,by omega,by go_num,okAt_succ HJ.out HOK.out,Y.out.1.trans (hb5.mono Y.out.1.size)⟩
            case measure=>simp [intOf];omega
      · have t1:(x.wd == 1)=false:=by simpa using hw1
        clear d0 d2 d3 d4 d5
        by_cases hw2:x.wd=2
        · rw [hw2] at d1 t1
          by_cases h0:k=0
          · have HD:=Lib.hid (okAt_not HKL.out (fun e=>by have:=(e.2.2 (by rw [← HX.out];exact hw2)).1;omega))
            subst h0
            go_wp2_with fail
            go_quiet (fail)
            go_wp2_with fail
            go_ret
            exact ⟨retF HD.out,belowN Y.out.1 _⟩
          · have hk0:((k:Int) == 0)=false:=by simp;omega
            have hk1:0≤(k:Int)-1:=by omega
            have hk2:((k:Int)-1).toNat=k-1:=by omega
            obtain ⟨y,hy⟩:∃ y,y=cAt L (k-1):=⟨_,rfl⟩
            have hsy:=Y.out.2.1.six (k:=k-1) (by omega)
            rw [← hy] at hsy
            obtain ⟨b0,b1,b2,b3,b4,b5⟩:=hsy
            have HY:=Lib.hid hy
            clear hy b0 b2 b3 b4 b5
            by_cases hy1:y.wd=1
            · rw [hy1] at b1
              have HOK:=Lib.hid (show OkAt L k from ⟨by rw [← HX.out];exact HM.out,fun e=>absurd (by rw [HX.out];exact e) hw1,fun _=>⟨by omega,by rw [← HY.out];exact hy1⟩⟩)
              clear hy1 hw1 hw2
              go_wp2_with fail
              go_quiet (fail)
              go_wp2_with fail
              go_roundw
              case rel=>exact ⟨k+1,by omega,by go_num,okAt_succ HJ.out HOK.out,belowN Y.out.1 _⟩
              case measure=>simp [intOf];omega
            · have hy2:(y.wd != 1)=true:=by simpa using hy1
              have HD:=Lib.hid (okAt_not HKL.out (fun e=>hy1 (by rw [HY.out];exact (e.2.2 (by rw [← HX.out];exact hw2)).2)))
              go_wp2_with fail
              go_quiet (fail)
              go_wp2_with fail
              go_ret
              exact ⟨retF HD.out,belowN Y.out.1 _⟩
        · have t2:(x.wd == 2)=false:=by simpa using hw2
          have HOK:=Lib.hid (show OkAt L k from ⟨by rw [← HX.out];exact HM.out,fun e=>absurd (by rw [HX.out];exact e) hw1,fun e=>absurd (by rw [HX.out];exact e) hw2⟩)
          go_wp2_with fail
          go_quiet (fail)
          go_wp2_with fail
          go_roundw
          case rel=>exact ⟨k+1,by omega,by go_num,okAt_succ HJ.out HOK.out,belowN Y.out.1 _⟩
          case measure=>simp [intOf];omega
  · obtain rfl:k=n:=by omega
    have HD:=Lib.hid ((rowMay_iff L).2 ⟨by have:=H.out.1.len;omega,by have:=H.out.1.len;omega,fun i hi=>X.out.1 i (by have:=H.out.1.len;omega)⟩)
    go_wp2_with fail
    go_ret
    exact ⟨retT HD.out,X.out.2.1⟩
end Go.Proofs.YtlcipgdnpilkfaaGreatDoor
