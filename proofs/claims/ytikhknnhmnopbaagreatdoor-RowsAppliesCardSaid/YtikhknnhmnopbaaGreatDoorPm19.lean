/-
  Part 19 of what the laws of emul want: UtfRefRuns, EmulRefRt, ProjFixed, WireSpec, WireBackSpec, RowsSpec.
-/
import Derived.Laws.Rows
import Derived.Deep.DeepCutAuto
import Derived.Laws.BitsAllLaws
import Derived.Deep.QuietTactic
import Derived.WalkSpells
import Derived.BigQuiet
import Derived.Handy
import Derived.Test.YtikhknnhmnopbaaGreatDoorRows
import Derived.Lib.LaidU8
import Derived.Lib.LaidTab
import Derived.LaidMore
import Derived.Lay
import Derived.Stop.Joined
import Derived.Handed
import Derived.WalkKit
import Derived.Test.YtikhknnhmnopbaaGreatDoorPm01
import Derived.Test.YtikhknnhmnopbaaGreatDoorPm02
import Derived.Test.YtikhknnhmnopbaaGreatDoorPm03
import Derived.Test.YtikhknnhmnopbaaGreatDoorPm06
import Derived.Test.YtikhknnhmnopbaaGreatDoorPm13
import Derived.Test.YtikhknnhmnopbaaGreatDoorPm14
import Derived.Test.YtikhknnhmnopbaaGreatDoorPm15
import Derived.Test.YtikhknnhmnopbaaGreatDoorPm16
import Derived.Test.YtikhknnhmnopbaaGreatDoorPm18
namespace Go.Proofs.YtikhknnhmnopbaaGreatDoor
open Go.RowKit
theorem feed_u8 {o:List Int} {b:Int} (h8:U8s o) (hb:0≤b∧b≤255):U8s (feedS o b).2:=by
 have h1:U8s (o ++ [b]):=h8.append (fun z hz=>by simp at hz;subst hz;exact hb)
 have h2:U8s (feed1 b).2:=by
  unfold feed1
  split
  · exact U8s.nil
  · split
    · exact fun z hz=>by simp at hz;subst hz;exact hb
    · exact U8s.nil
 unfold feedS
 split
 · exact U8s.nil
 · split
   · exact h1
   · split
     · exact U8s.nil
     · exact h2
structure RSt (w0 w:World) (base m:Nat) (L:List Int) (k:Nat) (T o:List Int) (v:Value) (A:Option Addr) (n c:Nat):Prop where
 op:Op o
 u8:U8s o
 ge:w0.heap.size≤m
 blk:w.heap[m]?=some (.cells #[.slice A n c] 111 (0,0))
 sb:Sb w A n o
 own:w.ownsRow base 21 1 v T.length (T.map (Value.int .i32))
 tell:foldS [] L=T ++ foldS o (L.drop k)
 tl:T.length≤2*k
 bel:Below w0.heap.size w0 w
theorem RSt.drew {w0 w:World} {base m:Nat} {L:List Int} {k:Nat} {T o:List Int} {v:Value} {A:Option Addr} {n c:Nat} (h:RSt w0 w base m L k T o v A n c):RSt w0 w.drew base m L k T o v A n c :=
 ⟨h.op,h.u8,h.ge,h.blk,h.sb.drew,h.own,h.tell,h.tl,h.bel.drew⟩
theorem RSt.alloc {w0 w:World} {base m:Nat} {L:List Int} {k:Nat} {T o:List Int} {v:Value} {A:Option Addr} {n c:Nat} (h:RSt w0 w base m L k T o v A n c) (x:Obj):RSt w0 (w.alloc x) base m L k T o v A n c :=
 have b:=(Below.refl w.heap.size w).alloc (Nat.le_refl _) x
 ⟨h.op,h.u8,h.ge,(b.block _ (Array.getElem?_eq_some_iff.1 h.blk).1).trans h.blk,h.sb.below b,ownI_below h.own b,h.tell,h.tl,h.bel.alloc h.bel.size x⟩
theorem ownb_ne {v:Value} {m:Nat} (h:v.ownBlock=none∨v.ownBlock≠some m):v.ownBlock≠some m:=by
 rcases h with h | h
 · rw [h];simp
 · exact h
theorem own_far {w:World} {base m:Nat} {v:Value} {n:Nat} {xs cs:List Value} (h:w.ownsRow base 21 1 v n xs) (hm:w.heap[m]?=some (.cells cs.toArray 111 (0,0))):v.ownBlock=none∨v.ownBlock≠some m:=by
 rcases h.2 with ⟨h,_⟩ | ⟨g,cap,cur,hv,_,hg,_⟩
 · subst h;exact .inl rfl
 · subst hv
   refine .inr (fun e=>?_)
   simp [Value.ownBlock] at e
   subst e
   rw [hg] at hm
   injection hm with hm
   injection hm with _ h3
   exact absurd h3 (by decide)
theorem run_loadVar_cell {P:Program} (w:World) (p:Addr) (ty:TypeId) (v:Value) (d:TypeDesc) (hc:w.cell? p=some v) (hu:P.underlying ty=some d) (hd:(match d with | .struct _ | .array _ _=>true | _=>false)=false) :
  (loadVar ty p).run P w=.ok v w:=by
 have hagg:(isAgg ty).run P w=.ok false w:=by
  unfold isAgg
  rw [Sem.run_bind,run_underlying hu w]
  cases d<;>simp_all
 simp [loadVar,Sem.run_bind,hagg,hc]
theorem yieldsIf_load_cell {P:Program} {ops:Array Oper} {S:World→Prop} {op:Oper} {a:Act} (hw:Region.wanted op (yielded ops a.tmps)=true) (ty:TypeId) (x:Operand) (ho:op.op=.load ty x)
  (p:Addr) (hx:a.eval x=.pointer (some p)) (v:Value) (d:TypeDesc) (hS:∀ w,S w→w.cell? p=some v)
  (hu:P.underlying ty=some d) (hd:(match d with | .struct _ | .array _ _=>true | _=>false)=false):YieldsIf P ops S op v a :=
 .inl ⟨hw,fun w hw'=>by
  unfold execOp
  simp only [ho,hx,Instr.loadAt,Instr.sureAddr,Sem.run_bind,Sem.run_pure,Result.andThen_ok,run_loadVar_cell w p ty v d (hS w hw') hu hd]⟩
theorem yieldsIf_indexAddr {P:Program} {ops:Array Oper} {S:World→Prop} {op:Oper} {a:Act} (hw:Region.wanted op (yielded ops a.tmps)=true) (t:TypeId) (x i:Operand) (ho:op.op=.indexAddr t x i)
  (ad:Addr) (len cap k:Nat) (hx:a.eval x=.slice (some ad) len cap) (hi:a.eval i=.int .i64 k) (hk:k<len)
  (hu:P.underlying t=some (.slice (P.elem t))) (i0:TypeInfo) (hinf:P.info? (P.elem t)=some i0) (hone:P.cellsOf (P.elem t)=1):YieldsIf P ops S op (.pointer (some (ad.add k))) a :=
 .inl ⟨hw,fun w _=>by
  have h1:(Instr.indexAt t (.slice (some ad) len cap) (.int .i64 k)).run P w=.ok (.pointer (some (ad.add k))) w:=by
   rw [run_indexAt_slice w t ad len cap .i64 k hu,if_pos ⟨by omega,by omega⟩,run_sizeOf w hinf,hone]
   simp
  unfold execOp
  simp only [ho,hx,hi,Sem.run_bind,h1,Result.andThen_ok,Sem.run_pure]⟩
theorem yieldsIf_extract {P:Program} {ops:Array Oper} {S:World→Prop} {op:Oper} {a:Act} (hw:Region.wanted op (yielded ops a.tmps)=true) (x:Operand) (i:Nat) (ho:op.op=.extract x i) (vs:Array Value) (v:Value) (hx:a.eval x=.tuple vs) (hv:vs[i]?=some v):YieldsIf P ops S op v a :=
 .inl ⟨hw,fun w _=>by
  unfold execOp
  simp [ho,hx,Instr.extract,hv]⟩
set_option maxHeartbeats 3200000 in
set_option maxRecDepth 100000 in
theorem refRunes_any {w:World} {A:Option Addr} {n c:Nat} {zs:List Int} (hs:Sb w A n zs) (h8:U8s zs) (hn:n≤100000) :
  Calls Tryz.prog 46 #[.slice A n c] w fun e w'=>∃ A1 n1 c1,e=.returned (.slice A1 n1 c1)∧Ik .i32 w' A1 n1 (foldS [] zs)∧Below w.heap.size w w':=by
 have H:=Lib.hid (And.intro hs (And.intro h8 hn))
 clear hs h8 hn
 go_enter Tryz.func46,Tryz.ntmps46
 go_upto_region 3 with fail
 have X0:RSt w ((w.alloc (.cells #[] 21)).alloc (.cells #[.slice none 0 0] 111)) w.heap.size (w.heap.size+1) zs 0 [] [] (.slice (some ⟨w.heap.size,0,none⟩) 0 0) none 0 0:=by
  have b1:Below w.heap.size w (w.alloc (.cells #[] 21)):=(Below.refl _ _).alloc (Nat.le_refl _) _
  have o1:(w.alloc (.cells #[] 21)).ownsRow w.heap.size 21 1 (.slice (some ⟨w.heap.size,0,none⟩) 0 0) 0 []:=World.ownsRow_lit w #[] 0 (Nat.le_refl _) (by unfold maxLen;omega) rfl
  exact ⟨.inl rfl,U8s.nil,by omega,heap_alloc2_new _ _ _,Sb.nil _ _,ownI_below o1 ((Below.refl _ _).alloc (Nat.le_refl _) _),by simp,by simp,b1.alloc b1.size _⟩
 obtain ⟨m,hm⟩:∃ m,m=w.heap.size+1:=⟨_,rfl⟩
 rw [← hm] at X0 ⊢
 generalize (w.alloc (.cells #[] 21)).alloc (.cells #[.slice none 0 0] 111)=w1 at X0 ⊢
 clear hm
 have X0:=Lib.hid X0
 go_wp2_with fail
 go_loopw [3,11] (fun v i wr=>∃ (k:Nat) (T o:List Int) (Ao:Option Addr) (no co:Nat),k≤n∧i=.int .i64 k∧RSt w wr w.heap.size m zs k T o v Ao no co) (fun _ i _=>n-(iOf i).toNat)
 case atStart=>exact ⟨0,[],[],none,0,0,by omega,rfl,X0.out⟩
 case round =>
  obtain ⟨k,T,o,Ao,no,co,hk,rfl,hst⟩:=hrel
  obtain ⟨Av,cv,rfl,_,_⟩:=own_shape hst.own
  have hnn:n≤100000:=H.out.2.2
  have hkn:k≤100000:=by omega
  obtain ⟨tl,htl⟩:∃ tl,tl=T.length:=⟨_,rfl⟩
  have hown:=hst.own
  have htl2:tl≤200000:=by have:=hst.tl;omega
  rw [← htl] at hown ⊢
  have X:=Lib.hid hst
  have XO:=Lib.hid (And.intro hown (And.intro htl htl2))
  clear hst hown htl htl2
  by_cases hlt:k<n
  · have hkl:(k:Int)<(n:Int):=by omega
    have hsb:=H.out.1.below X.out.bel
    obtain ⟨ad,rfl⟩:=hsb.addr (by omega)
    have hkz:k<zs.length:=by rw [hsb.len];exact hlt
    obtain ⟨b,hb⟩:∃ b,b=zs.getD k 0:=⟨_,rfl⟩
    have hdrop:zs.drop k=b :: zs.drop (k+1):=by rw [hb,getD_lt hkz,List.drop_eq_getElem_cons hkz]
    have hbb:0≤b∧b≤255:=by rw [hb,getD_lt hkz];exact H.out.2.1 _ (List.getElem_mem hkz)
    have HB:=Lib.hid (show b=zs.getD k 0∧0≤b∧b≤255∧foldS o (zs.drop k)=(feedS o b).1 ++ foldS (feedS o b).2 (zs.drop (k+1)) from ⟨hb,hbb.1,hbb.2,by rw [hdrop];rfl⟩)
    clear hb hdrop hbb hkz hsb
    go_upto_region 7 with fail
    have hbw:=(X.out.alloc (.cells #[] 21)).bel.drew
    refine wp_region_held_drew (S:=fun w'=>Below w.heap.size w w') (by kernel_rfl) hbw (fun hHeld=>?_)
    clear hbw
    have XD:=(X.out.alloc (.cells #[] 21)).drew
    have XOD:(wr.alloc (.cells #[] 21)).drew.ownsRow w.heap.size 21 1 (.slice Av tl cv) tl (T.map (Value.int .i32)):=ownI_below XO.out.1 ((Below.refl wr.heap.size wr).alloc (Nat.le_refl _) _).drew
    generalize hwd:(wr.alloc (.cells #[] 21)).drew=wd at XD XOD hHeld ⊢
    clear hwd
    refine wpAnyH_take (i:=1) (v:=.slice (some ad) n c) rfl (by kernel_rfl) (by kernel_rfl) (by kernel_rfl) (fun _ _ _ h=>h) (yieldsIf_moveU (by rfl) (.tmp 0) rfl _ rfl) hHeld ?_
    simp only [Act.put,List.getElem_toArray,List.getElem_cons_succ,List.getElem_cons_zero,List.setIfInBounds_toArray,List.set_cons_succ,List.set_cons_zero]
    refine wpAnyH_take (i:=2) (v:=.int .i64 k) rfl (by kernel_rfl) (by kernel_rfl) (by kernel_rfl) (fun _ _ _ h=>h) (yieldsIf_moveU (by rfl) (.tmp 5) rfl _ rfl) hHeld ?_
    simp only [Act.put,List.getElem_toArray,List.getElem_cons_succ,List.getElem_cons_zero,List.setIfInBounds_toArray,List.set_cons_succ,List.set_cons_zero]
    refine wpAnyH_take (i:=3) (v:=.pointer (some (ad.add k))) rfl (by kernel_rfl) (by kernel_rfl) (by kernel_rfl) (fun _ _ _ h=>h) (yieldsIf_indexAddr (by rfl) 26 (.tmp 17) (.tmp 18) rfl ad n c k rfl rfl hlt Tryz.underlying26 _ rfl rfl) hHeld ?_
    simp only [Act.put,List.getElem_toArray,List.getElem_cons_succ,List.getElem_cons_zero,List.setIfInBounds_toArray,List.set_cons_succ,List.set_cons_zero]
    refine wpAnyH_take (i:=4) (v:=.int .u8 b) rfl (by kernel_rfl) (by kernel_rfl) (by kernel_rfl) (fun _ _ _ h=>h) (yieldsIf_load_cell (by rfl) 5 (.tmp 19) rfl (ad.add k) rfl _ _ (fun wx hx=>by rw [HB.out.1];exact (H.out.1.below hx).cell hlt) Tryz.underlying5 rfl) hHeld ?_
    simp only [Act.put,List.getElem_toArray,List.getElem_cons_succ,List.getElem_cons_zero,List.setIfInBounds_toArray,List.set_cons_succ,List.set_cons_zero]
    refine wpAnyH_ready (rs:=[0]) (by kernel_rfl) (by simp) (AllReadyH.cons rfl (fun K hK=>?_) AllReadyH.nil)
    rw [if_pos (by rfl)]
    refine wp_load_row 111 (.tmp 4) rfl m rfl _ #[.slice Ao no co] (0,0) _ XD.blk Tryz.underlying111 rfl infoD ?_
    simp only [Act.put,List.getElem_toArray,List.getElem_cons_zero,List.setIfInBounds_toArray,List.set_cons_succ,List.set_cons_zero]
    refine hK.out _ _ hHeld (fun hHeld=>?_)
    clear hK K
    refine wpAnyH_ready (rs:=[5]) (by kernel_rfl) (by simp) (AllReadyH.cons rfl (fun K hK=>?_) AllReadyH.nil)
    rw [if_pos (by rfl)]
    go_simp
    refine (refFeed_any XD.sb XD.op XD.u8 ⟨HB.out.2.1,HB.out.2.2.1⟩).mono ?_
    rintro e w2 ⟨A1,n1,c1,A2,n2,c2,rfl,hk1,hs2,hb2,hA1,hA2⟩
    refine hK.out _ _ (hHeld.trans (hb2.mono hHeld.size)) (fun hHeld=>?_)
    clear hK K
    refine wpAnyH_take (i:=6) (v:=.tuple #[.slice A1 n1 c1,.agg #[.slice A2 n2 c2]]) rfl (by kernel_rfl) (by kernel_rfl) (by kernel_rfl) (fun _ _ _ h=>h) (yieldsIf_moveU (by rfl) (.tmp 21) rfl _ rfl) hHeld ?_
    simp only [Act.put,List.getElem_toArray,List.getElem_cons_succ,List.getElem_cons_zero,List.setIfInBounds_toArray,List.set_cons_succ,List.set_cons_zero]
    refine wpAnyH_take (i:=7) (v:=.slice A1 n1 c1) rfl (by kernel_rfl) (by kernel_rfl) (by kernel_rfl) (fun _ _ _ h=>h) (yieldsIf_extract (by rfl) (.tmp 15) 0 rfl _ _ rfl rfl) hHeld ?_
    simp only [Act.put,List.getElem_toArray,List.getElem_cons_succ,List.getElem_cons_zero,List.setIfInBounds_toArray,List.set_cons_succ,List.set_cons_zero]
    refine wpAnyH_take (i:=8) (v:=.agg #[.slice A2 n2 c2]) rfl (by kernel_rfl) (by kernel_rfl) (by kernel_rfl) (fun _ _ _ h=>h) (yieldsIf_extract (by rfl) (.tmp 15) 1 rfl _ _ rfl rfl) hHeld ?_
    simp only [Act.put,List.getElem_toArray,List.getElem_cons_succ,List.getElem_cons_zero,List.setIfInBounds_toArray,List.set_cons_succ,List.set_cons_zero]
    refine wpAnyH_take (i:=9) (v:=.slice A1 n1 c1) rfl (by kernel_rfl) (by kernel_rfl) (by kernel_rfl) (fun _ _ _ h=>h) (yieldsIf_assignU (by rfl) (.tmp 22) rfl _ rfl) hHeld ?_
    simp only [Act.put,List.getElem_toArray,List.getElem_cons_succ,List.getElem_cons_zero,List.setIfInBounds_toArray,List.set_cons_succ,List.set_cons_zero]
    have hmlt:m<wd.heap.size:=(Array.getElem?_eq_some_iff.1 XD.blk).1
    have hB2:=(hb2.block _ hmlt).trans XD.blk
    have hc2:w2.cell? ⟨m,0,none⟩=some (.slice Ao no co):=by rw [cell_of_row _ _ 0 _ _ _ hB2];rfl
    have hf2:w2.frozen? ⟨m,0,none⟩=false:=frozen_of_row _ _ 0 _ _ hB2
    have hB5:(w2.setCell ⟨m,0,none⟩ (.slice A2 n2 c2)).heap[m]?=some (.cells #[.slice A2 n2 c2] 111 (0,0)):=(heap_setCell_same w2 m 0 _ _ _ hB2).trans rfl
    have hO2:=ownI_below XOD hb2
    have S5:Below w.heap.size w (w2.setCell ⟨m,0,none⟩ (.slice A2 n2 c2))∧Sb (w2.setCell ⟨m,0,none⟩ (.slice A2 n2 c2)) A2 n2 (feedS o b).2∧Ik .i32 (w2.setCell ⟨m,0,none⟩ (.slice A2 n2 c2)) A1 n1 (feedS o b).1 ∧
      (w2.setCell ⟨m,0,none⟩ (.slice A2 n2 c2)).ownsRow w.heap.size 21 1 (.slice Av tl cv) tl (T.map (Value.int .i32)) :=
     ⟨hHeld.setCell (p:=⟨m,0,none⟩) XD.ge _,ikSb ((sbIk hs2).grown (grownBy_set w2 ⟨m,0,none⟩ _) (fun ad e h0 e2=>by have:=hA2 ad e h0;simp at e2;omega)),
      hk1.grown (grownBy_set w2 ⟨m,0,none⟩ _) (fun ad e h0 e2=>by have:=hA1 ad e h0;simp at e2;omega),hO2.kept (grownBy_set w2 ⟨m,0,none⟩ _) (own_far (cs:=[_]) hO2 hB2)⟩
    have hrow:∀ g,Value.ownBlock (.slice Av tl cv)=some g→g<wd.heap.size:=fun g hg=>(XOD.lt g hg).2
    have hn1:n1≤2:=by rw [← hk1.len];exact feedS_len _ _
    have hA2':∀ ad,A2=some ad→0<n2→Value.ownBlock (.slice Av tl cv)≠some ad.block:=fun ad e h0 e2=>by have h1:=hA2 ad e h0;have h2:=hrow _ e2;omega
    have hge:=XD.ge
    clear hs2 hk1 hb2 hA1 hA2 hO2 hrow XOD hB2 XD
    refine wpAnyH_ready (rs:=[10]) (by kernel_rfl) (by simp) (AllReadyH.cons rfl (fun K hK=>?_) AllReadyH.nil)
    rw [if_pos (by rfl)]
    go_simp
    refine hK.out _ _ S5.1 (fun hHeld=>?_)
    clear hK K
    refine wpAnyH_done (by kernel_rfl) ?_ _
    clear hc2 hf2 hHeld
    have Z:=Lib.hid (And.intro S5 (And.intro hB5 (And.intro hn1 (And.intro hA2' (And.intro hge hmlt)))))
    clear S5 hB5 hn1 hA2' hge hmlt
    generalize w2.setCell ⟨m,0,none⟩ (.slice A2 n2 c2)=w5 at Z ⊢
    go_wp2_with (refine wpList_appI _ rfl (.tmp 24) (.tmp 25) 81 rfl w.heap.size 21 .i32 4 (by omega) Tryz.underlying81 info32 (.slice Av tl cv) tl _ rfl Z.out.1.2.2.2 A1 n1 c1 (tl+n1) rfl (feedS o b).1 rfl Z.out.1.2.2.1 (by have h1:=XO.out.2.2;have h2:=Z.out.2.2.1;omega) Z.out.1.1.size ?_)
    intro A6 c6 w6 o6 g6
    have hfar:=own_far (cs:=[_]) Z.out.1.2.2.2 Z.out.2.1
    have hlen:tl+n1=(T ++ (feedS o b).1).length:=by rw [List.length_append,← XO.out.2.1,Z.out.1.2.2.1.len]
    have V:=Lib.hid (show RSt w w6 w.heap.size m zs (k+1) (T ++ (feedS o b).1) (feedS o b).2 (.slice A6 (tl+n1) c6) A2 n2 c2 from
     ⟨feedS_op _ _,feed_u8 X.out.u8 ⟨HB.out.2.1,HB.out.2.2.1⟩,X.out.ge,
      (g6.block _ (Array.getElem?_eq_some_iff.1 Z.out.2.1).1 (fun e=>ownb_ne hfar e.symm)).trans Z.out.2.1,
      Z.out.1.2.1.grown g6 (fun ad e h0 e2=>Z.out.2.2.2.1 ad e h0 e2),by rw [← hlen];simpa using o6,
      by rw [X.out.tell,HB.out.2.2.2,List.append_assoc],by have h1:=X.out.tl;have h2:=feedS_len o b;rw [List.length_append];omega,
      Z.out.1.1.grown g6 Z.out.1.1.size (fun g hg=>(Z.out.1.2.2.2.lt g hg).1)⟩)
    clear o6 g6 hfar hlen Z
    go_wp2_with fail
    go_roundw
    case rel=>exact ⟨k+1,_,_,_,_,_,by omega,by go_num,V.out⟩
    case measure=>simp [iOf];omega
  · obtain rfl:k=n:=by omega
    have hT:foldS [] zs=T ++ endS o:=by rw [X.out.tell,List.drop_of_length_le (by rw [H.out.1.len];exact Nat.le_refl _)];rfl
    have HT:=Lib.hid hT
    have hno:no≤3:=by rw [← X.out.sb.len];exact X.out.op.len
    clear hT
    go_wp2_with (refine wpList_load_row rfl 111 (.tmp 4) rfl m rfl _ #[.slice Ao no co] (0,0) _ X.out.blk Tryz.underlying111 rfl infoD ?_)
    go_wp2_with fail
    refine (refEnd_any X.out.sb (by omega)).mono ?_
    rintro e w2 ⟨A1,n1,c1,rfl,hk1,hb2⟩
    have hn1:n1≤1:=by rw [← hk1.len];unfold endS;split<;>simp
    have Z:=Lib.hid (show w2.ownsRow w.heap.size 21 1 (.slice Av tl cv) tl (T.map (Value.int .i32))∧Ik .i32 w2 A1 n1 (endS o)∧Below w.heap.size w w2∧n1≤1 from
     ⟨ownI_below XO.out.1 hb2,hk1,X.out.bel.trans (hb2.mono X.out.bel.size),hn1⟩)
    clear hk1 hb2 hn1 hno
    go_wp2_with (refine wpList_appI _ rfl (.tmp 28) (.tmp 30) 81 rfl w.heap.size 21 .i32 4 (by omega) Tryz.underlying81 info32 (.slice Av tl cv) tl _ rfl Z.out.1 A1 n1 c1 (tl+n1) rfl (endS o) rfl Z.out.2.1 (by have h1:=XO.out.2.2;have h2:=Z.out.2.2.2;omega) Z.out.2.2.1.size ?_)
    intro A6 c6 w6 o6 g6
    have V:=Lib.hid (show Ik .i32 w6 A6 (tl+n1) (foldS [] zs)∧Below w.heap.size w w6 from ⟨by rw [HT.out];exact Ik.own (by simpa using o6),Z.out.2.2.1.grown g6 Z.out.2.2.1.size (fun g hg=>(Z.out.1.lt g hg).1)⟩)
    clear o6 g6 Z
    go_wp2_with fail
    go_ret
    exact ⟨_,_,_,rfl,V.out.1,V.out.2⟩
open Go.RowKit
theorem fold_leR:∀ (l o:List Int),(foldS o l).length≤2*l.length+1
 | [],o=>by unfold foldS endS;split<;>simp
 | b :: l,o=>by have h1:=feedS_len o b;have h2:=fold_leR l (feedS o b).2;simp only [foldS,List.length_append,List.length_cons];omega
set_option maxHeartbeats 6400000 in
set_option maxRecDepth 100000 in
theorem refRightS_any {w:World} {s:ScR} {S:Sc} (h:ScIn w s S) (hn:s.n≤60000) (hm:s.m≤60000) :
  Calls Tryz.prog 24 #[.agg (scrA s)] w fun e w'=>e=.returned (.bool (rightSc S))∧Below w.heap.size w w':=by
 have HR:=Lib.hid (right_is S)
 generalize rightSc S=RS at HR ⊢
 have HS:=Lib.hid h
 obtain ⟨b,hb⟩:∃ b,b=w.heap.size:=⟨_,rfl⟩
 obtain ⟨w1,hw1⟩:∃ w1,w1=w.alloc (.cells (scrA s) 25):=⟨_,rfl⟩
 have hb1:Below w.heap.size w w1:=by rw [hw1];exact (Below.refl _ _).alloc (Nat.le_refl _) _
 have hlt:b<w1.heap.size:=by rw [hw1,hb];simp
 have H1:∀ k v,(scrA s)[k]?=some v→w1.cell? ⟨b,k,none⟩=some v:=fun k v hv=>by
  rw [hw1,hb]
  exact newCell w _ _ k hv
 have HC:=Lib.hid (show ∀ w',Below w1.heap.size w1 w'→w'.cell? ⟨b,0,none⟩=some (.int .i64 s.c)∧w'.cell? ⟨b,1,none⟩=some (.int .i64 s.r)∧w'.cell? ⟨b,2,none⟩=some (.slice s.A s.n s.k)∧w'.cell? ⟨b,3,none⟩=some (.int .i64 s.x)∧w'.cell? ⟨b,4,none⟩=some (.int .i64 s.y)∧w'.cell? ⟨b,6,none⟩=some (.int .u8 s.mouse)∧w'.cell? ⟨b,7,none⟩=some (.string s.ttl)∧w'.cell? ⟨b,8,none⟩=some (.slice s.T s.m s.q) from fun w' hb'=>by
  have hc:∀ k,w'.cell? ⟨b,k,none⟩=w1.cell? ⟨b,k,none⟩:=fun k=>hb'.cell (p:=⟨b,k,none⟩) hlt
  simp only [hc]
  exact ⟨H1 0 _ rfl,H1 1 _ rfl,H1 2 _ rfl,H1 3 _ rfl,H1 4 _ rfl,H1 6 _ rfl,H1 7 _ rfl,H1 8 _ rfl⟩)
 have c0:w1.cell? ⟨b,0,none⟩=some (.int .i64 s.c):=H1 0 _ rfl
 have c1:w1.cell? ⟨b,1,none⟩=some (.int .i64 s.r):=H1 1 _ rfl
 have c2:w1.cell? ⟨b,2,none⟩=some (.slice s.A s.n s.k):=H1 2 _ rfl
 have HB1:=Lib.hid hb1
 obtain ⟨MM,hMM⟩:∃ MM,gridMay s.c s.r S.cells=MM:=⟨_,rfl⟩
 obtain ⟨OO,hOO⟩:∃ OO,ordS S.cells S.links=OO:=⟨_,rfl⟩
 obtain ⟨LL,hLL⟩:∃ LL,rowsS s.c.toNat s.r.toNat S.cells=LL:=⟨_,rfl⟩
 have HM:=Lib.hid (refRows_any (k:=s.k) (HS.out.cells.below hb1) HS.out.nk HS.out.n9 hMM hLL)
 have HLK:=Lib.hid (fun w' (hb':Below w.heap.size w w')=>refRight_any (c:=s.k) (c':=s.q) (HS.out.cells.below hb') (HS.out.links.below hb') HS.out.lk HS.out.sz hn hm)
 rw [HS.out.c,HS.out.r,HS.out.x,HS.out.y,HS.out.mouse,HS.out.ttl,hMM,hOO] at HR
 rw [hOO] at HLK
 have HTT:=Lib.hid (show tMay (sL s.ttl)=(decide (s.ttl.size≤64) && validS (sL s.ttl) && (foldS [] (sL s.ttl)).all fun r=>decide (widthS r≠0)) from by unfold tMay;rw [sL_len])
 clear h hb1 hlt H1 hMM hOO hLL hn hm
 have hgv:gV s.c s.r s.A s.n s.k=#[.int .i64 s.c,.int .i64 s.r,.slice s.A s.n s.k]:=rfl
 rw [hgv] at HM
 clear hgv
 unfold scrA at hw1 ⊢
 go_enter Tryz.func24,Tryz.ntmps24
 go_upto_region 1 with fail
 rw [← hw1,← hb]
 clear hw1 hb
 go_wp2_with fail
 refine HM.out.mono ?_
 rintro e w3 hp
 clear HM
 cases MM
 · obtain ⟨rfl,hb3⟩:=hp.2 rfl
   have H3:=Lib.hid (HB1.out.trans (hb3.mono HB1.out.size))
   have E:=Lib.hid (show RS=false from by rw [HR.out];simp)
   clear hp hb3
   go_wp2_with fail
   go_ret
   exact ⟨by rw [E.out];rfl,H3.out⟩
 obtain ⟨hb3,g3,k3,S3,rfl,_⟩:=hp.1 rfl
 have H3:=Lib.hid (HB1.out.trans (hb3.mono HB1.out.size))
 have H13:=Lib.hid hb3
 clear hp c0 c1 c2
 obtain ⟨a0,a1,a2,a3,a4,a6,a7,a8⟩:=HC.out w3 hb3
 clear hb3
 go_wp2_with fail
 refine (HLK.out w3 H3.out).mono ?_
 rintro e w4 ⟨rfl,hb4⟩
 have H4:=Lib.hid (H3.out.trans (hb4.mono H3.out.size))
 have H14:=Lib.hid (H13.out.trans (hb4.mono H13.out.size))
 clear hb4 a0 a1 a2 a3 a4 a6 a7 a8
 obtain ⟨a0,a1,a2,a3,a4,a6,a7,a8⟩:=HC.out w4 H14.out
 cases OO
 · have E:=Lib.hid (show RS=false from by rw [HR.out];simp)
   go_wp2_with fail
   go_ret
   exact ⟨by rw [E.out];rfl,H4.out⟩
 by_cases hx0:0≤s.x
 case neg =>
  have E:=Lib.hid (show RS=false from by rw [HR.out,decide_eq_false hx0];simp)
  go_wp2_with fail
  go_ret
  exact ⟨by rw [E.out];rfl,H4.out⟩
 by_cases hx1:s.x<s.c
 case neg =>
  have E:=Lib.hid (show RS=false from by rw [HR.out,decide_eq_false hx1];simp)
  go_wp2_with fail
  go_ret
  exact ⟨by rw [E.out];rfl,H4.out⟩
 by_cases hy0:0≤s.y
 case neg =>
  have E:=Lib.hid (show RS=false from by rw [HR.out,decide_eq_false hy0];simp)
  go_wp2_with fail
  go_ret
  exact ⟨by rw [E.out];rfl,H4.out⟩
 by_cases hy1:s.y<s.r
 case neg =>
  have E:=Lib.hid (show RS=false from by rw [HR.out,decide_eq_false hy1];simp)
  go_wp2_with fail
  go_ret
  exact ⟨by rw [E.out];rfl,H4.out⟩
 by_cases hm:s.mouse≤2
 case neg =>
  have E:=Lib.hid (show RS=false from by rw [HR.out,decide_eq_false hm];simp)
  go_wp2_with fail
  go_ret
  exact ⟨by rw [E.out];rfl,H4.out⟩
 by_cases hz:(s.ttl.size:Int)≤64
 case neg =>
  have E:=Lib.hid (show RS=false from by rw [HR.out,HTT.out,decide_eq_false (show ¬ s.ttl.size≤64 by omega)];simp)
  go_wp2_with fail
  go_ret
  exact ⟨by rw [E.out];rfl,H4.out⟩
 have HZ:=Lib.hid (show s.ttl.size≤64 by omega)
 obtain ⟨c5,w5,hrun,hb5,hs5,hc5⟩:=str_bytes w4 s.ttl
 have H5:=Lib.hid (H4.out.trans (hb5.mono H4.out.size))
 have H15:=Lib.hid (H14.out.trans (hb5.mono H14.out.size))
 obtain ⟨V,hV⟩:∃ V,validS (sL s.ttl)=V:=⟨_,rfl⟩
 have HV:=Lib.hid (refValid_any (c:=c5) hs5 (sL_b s.ttl) hc5 (by have:=HZ.out;omega))
 rw [hV] at HV HTT
 have HRX:=Lib.hid (show RS=tMay (sL s.ttl) from by rw [HR.out,decide_eq_true hx0,decide_eq_true hx1,decide_eq_true hy0,decide_eq_true hy1,decide_eq_true hm];simp)
 rw [decide_eq_true HZ.out] at HTT
 clear hb5 hs5 hc5 hV HR
 go_wp2_with fail
 refine HV.out.mono ?_
 rintro e w6 ⟨rfl,hb6⟩
 have H6:=Lib.hid (H5.out.trans (hb6.mono H5.out.size))
 have H16:=Lib.hid (H15.out.trans (hb6.mono H15.out.size))
 clear hb6 hrun HV
 cases V
 · have E:=Lib.hid (show RS=false from by rw [HRX.out,HTT.out];simp)
   go_wp2_with fail
   go_ret
   exact ⟨by rw [E.out];rfl,H6.out⟩
 clear a0 a1 a2 a3 a4 a6 a7 a8
 obtain ⟨_,_,_,_,_,_,a7,_⟩:=HC.out w6 H16.out
 obtain ⟨c7,w7,hrun,hb7,hs7,hc7⟩:=str_bytes w6 s.ttl
 have H7:=Lib.hid (H6.out.trans (hb7.mono H6.out.size))
 have HRU:=Lib.hid (refRunes_any (c:=c7) hs7 (sL_b s.ttl) (by have:=HZ.out;omega))
 have HTA:=Lib.hid (show RS=(foldS [] (sL s.ttl)).all fun r=>decide (widthS r≠0) from by rw [HRX.out,HTT.out];simp)
 clear hb7 hs7 hc7
 go_wp2_with fail
 refine HRU.out.mono ?_
 rintro e w8 ⟨A8,n8,c8,rfl,hI,hb8⟩
 have X8:=Lib.hid (And.intro hI (H7.out.trans (hb8.mono H7.out.size)))
 obtain ⟨l,hl⟩:∃ l,foldS [] (sL s.ttl)=l:=⟨_,rfl⟩
 rw [hl] at X8 HTA
 have hlen:n8≤1000:=by
  have h1:=X8.out.1.len
  have h2:=fold_leR (sL s.ttl) []
  have h3:=HZ.out
  rw [hl,sL_len] at h2
  omega
 clear hI hb8 hrun HRU a7 hl
 go_wp2_with fail
 go_loopw [74] (fun i wr=>∃ k:Nat,k≤n8∧i=.int .i64 k∧(∀ j,j<k→widthS (l.getD j 0)≠0)∧wr=w8) (fun i _=>n8-(intOf i).toNat)
 case atStart=>exact ⟨0,Nat.zero_le _,rfl,fun j hj=>absurd hj (by omega),rfl⟩
 case round =>
  obtain ⟨k,hk,rfl,hall,rfl⟩:=hrel
  have HA:=Lib.hid hall
  clear hall
  by_cases hlt:k<n8
  · have hs:=X8.out.1
    obtain ⟨ad,hA⟩:∃ ad,A8=some ad:=by obtain ⟨ad,e,_⟩:=hs.at_ (by omega);exact ⟨ad,e⟩
    subst hA
    have hcell:=hs.cell hlt
    have hkl:k<l.length:=by rw [hs.len];exact hlt
    obtain ⟨z,hz⟩:∃ z,z=l.getD k 0:=⟨_,rfl⟩
    rw [← hz] at hcell
    have HZZ:=Lib.hid (And.intro hz hkl)
    clear hz hs hkl
    go_wp2_with fail
    refine (refWid_any z _).mono ?_
    rintro e w9 ⟨rfl,rfl⟩
    by_cases h0:widthS z=0
    · have E:=Lib.hid (show RS=false from by
       rw [HTA.out,List.all_eq_false]
       exact ⟨z,by rw [HZZ.out.1,getD_lt HZZ.out.2];exact List.getElem_mem _,by rw [h0];decide⟩)
      rw [h0]
      clear h0
      go_wp2_with fail
      go_ret
      exact ⟨by rw [E.out];rfl,X8.out.2⟩
    · obtain ⟨W,hW⟩:∃ W,widthS z=W:=⟨_,rfl⟩
      rw [hW] at h0 ⊢
      have HW:=Lib.hid (And.intro hW h0)
      have hb0:(W == 0)=false:=by rw [beq_eq_false_iff_ne];exact h0
      clear hW
      go_wp2_with fail
      go_roundw
      case rel=>exact ⟨k+1,by omega,by go_num,fun j hj=>by
       rcases Nat.lt_or_ge j k with h1 | h1
       · exact HA.out j h1
       · obtain rfl:j=k:=by omega
         rw [← HZZ.out.1,HW.out.1];exact HW.out.2,by first | rfl | trivial⟩
      case measure=>simp [intOf];omega
  · obtain rfl:k=n8:=by omega
    have E:=Lib.hid (show RS=true from by
     rw [HTA.out,List.all_eq_true]
     intro r hr
     obtain ⟨j,hj,rfl⟩:=List.getElem_of_mem hr
     have:=HA.out j (by rw [← X8.out.1.len];exact hj)
     rw [getD_lt hj] at this
     simpa using this)
    go_wp2_with fail
    go_ret
    exact ⟨by rw [E.out];rfl,X8.out.2⟩
open Go.RowKit
def greatS (s:ScR):Bool:=decide (3000<s.n) || decide (1000<s.ttl.size) || decide (1000<s.m)
theorem great_no {s:ScR} (h:greatS s=false):s.n≤3000∧s.ttl.size≤1000∧s.m≤1000:=by
 unfold greatS at h
 simp only [Bool.or_eq_false_iff,decide_eq_false_iff_not] at h
 omega
theorem ex_size:sizeOk 2 1=true:=by decide
theorem Cx.two {base:Nat} {w:World} {A:Option Addr} {c:Nat} {L:List Ce} {n:Nat} (h:Cx base w A n c L) (hn:n=2):∃ g,A=some ⟨g,0,none⟩∧base≤g∧2≤c∧Rw ceV 43 w g L:=by
 obtain ⟨g,e,hb,hR⟩:=h.own (by omega)
 exact ⟨g,e,hb,by have:=h.le;omega,hR⟩
def numL (n:Int):Nat→List Int
 | 0=>[]
 | k+1=>(n / 256 ^ k % 256) :: numL n k
theorem numL_len (n:Int) (k:Nat):(numL n k).length=k:=by induction k with
 | zero=>rfl
 | succ k ih=>simp [numL,ih]
def rowL (s:Nat) (n:Int) (k:Nat):List Int:=List.replicate (s-k) 0 ++ numL n k
theorem rowL_zero (s:Nat) (n:Int):rowL s n 0=List.replicate s 0:=by simp [rowL,numL]
theorem rowL_full (s:Nat) (n:Int):rowL s n s=numL n s:=by simp [rowL]
theorem rowL_at {s k:Nat} (n:Int) (h:k<s):(rowL s n k)[s-1-k]?=some 0:=by
 unfold rowL
 rw [List.getElem?_append_left (by simp;omega),List.getElem?_replicate,if_pos (by omega)]
theorem rowL_set {s k:Nat} (n:Int) (h:k<s):(rowL s n k).set (s-1-k) (n / 256 ^ k % 256)=rowL s n (k+1):=by
 obtain ⟨m,rfl⟩:∃ m,s=k+1+m:=⟨s-(k+1),by omega⟩
 unfold rowL
 have e1:k+1+m-k=m+1:=by omega
 have e2:k+1+m-(k+1)=m:=by omega
 have e3:k+1+m-1-k=m:=by omega
 rw [e1,e2,e3,List.set_append_left _ _ (by simp),List.replicate_succ',List.set_append_right _ _ (by simp)]
 simp [numL]
theorem pow8 (k:Nat):(2:Int) ^ (8*k)=256 ^ k:=by rw [Int.pow_mul];rfl
theorem pow_pos256 (k:Nat):(0:Int)<256 ^ k:=Int.pow_pos (by omega)
def fvK:List Int→Nat
 | []=>0
 | d :: r=>if d<128 then 1 else fvK r+1
/-! A reader that has zs still to read and the error e: what a call answers,what is left,the error. -/
def take1 (zs:List Int) (e n:Int):List Int × List Int × Int :=
 if e≠0 then ([],zs,e) else if n<0 then ([],zs,1) else if (zs.length:Int)<n then ([],zs,2) else (zs.take n.toNat,zs.drop n.toNat,0)
def valL (acc:Int):List Int→Int
 | []=>acc
 | d :: r=>valL (acc*256+d) r
def num1 (zs:List Int) (e n:Int):Int × List Int × Int :=
 if e≠0 then (0,zs,e) else if n<1∨8<n then (0,zs,1) else if (zs.length:Int)<n then (0,zs,2) else (valL 0 (zs.take n.toNat),zs.drop n.toNat,0)
theorem valL_append (acc:Int) (l:List Int) (d:Int):valL acc (l ++ [d])=valL acc l*256+d:=by
 induction l generalizing acc with
 | nil=>rfl
 | cons a l ih=>simp [valL,ih]
theorem take_snoc {zs:List Int} {k:Nat} (h:k<zs.length):zs.take (k+1)=zs.take k ++ [zs.getD k 0]:=by
 rw [List.take_succ_eq_append_getElem h]
 simp [List.getD,List.getElem?_eq_getElem h]
theorem valL_step {zs:List Int} {k:Nat} (h:k<zs.length):valL 0 (zs.take (k+1))=valL 0 (zs.take k)*256+zs.getD k 0:=by
 rw [take_snoc h,valL_append]
theorem valL_bound {zs:List Int} (hu:∀ z∈zs,0≤z∧z≤255) (acc:Int) (h0:0≤acc):0≤valL acc zs∧valL acc zs<(acc+1)*256 ^ zs.length:=by
 induction zs generalizing acc with
 | nil=>simp [valL];omega
 | cons d r ih =>
  have hd:=hu d (List.mem_cons_self ..)
  have h1:=ih (fun z hz=>hu z (List.mem_cons_of_mem _ hz)) (acc*256+d) (by omega)
  refine ⟨h1.1,?_⟩
  have h2:(acc*256+d+1)*256 ^ r.length≤((acc+1)*256)*256 ^ r.length:=Int.mul_le_mul_of_nonneg_right (by omega) (Int.le_of_lt (Int.pow_pos (by omega)))
  have h3:(acc+1)*256 ^ (d :: r).length=((acc+1)*256)*256 ^ r.length:=by
   rw [List.length_cons,Int.pow_succ,Int.mul_assoc,Int.mul_comm 256]
  rw [h3]
  exact Int.lt_of_lt_of_le h1.2 h2
theorem num1_of_take {zs:List Int} {n:Int} (h:¬ (n<1∨8<n)):num1 zs 0 n=(valL 0 (take1 zs 0 n).1,(take1 zs 0 n).2):=by
 have h2:¬ n<0:=by omega
 have e0:¬ ((0:Int)≠0):=by simp
 unfold num1 take1
 by_cases h3:(zs.length:Int)<n
 · rw [if_neg e0,if_neg h,if_pos h3,if_neg e0,if_neg h2,if_pos h3];rfl
 · rw [if_neg e0,if_neg h,if_neg h3,if_neg e0,if_neg h2,if_neg h3]
theorem take1_len (zs:List Int) {n:Int} (h:0≤n):((take1 zs 0 n).1.length:Int)≤n:=by
 unfold take1
 rw [if_neg (by simp)]
 split
 · simp;omega
 · split
   · simp;omega
   · simp;omega
theorem take1_mem {zs:List Int} {e n z:Int} (h:z∈(take1 zs e n).1):z∈zs:=by
 unfold take1 at h
 split at h
 · cases h
 · split at h
   · cases h
   · split at h
     · cases h
     · exact List.mem_of_mem_take h
theorem mod_split (x:Int) (_:0≤x) (s:Nat):x / 256 ^ s % 256*256 ^ s+x % 256 ^ s=x % 256 ^ (s+1):=by
 rw [Int.pow_succ]
 have hp:(0:Int)<256 ^ s:=pow_pos256 s
 obtain ⟨p,hP⟩:∃ p,p=(256:Int) ^ s:=⟨_,rfl⟩
 rw [← hP] at hp ⊢
 clear hP
 have e1:x=p*(x / p)+x % p:=(Int.mul_ediv_add_emod x p).symm
 have e2:x / p=256*(x / p / 256)+x / p % 256:=(Int.mul_ediv_add_emod (x / p) 256).symm
 have b1:=Int.emod_nonneg x (show p≠0 by omega)
 have b2:=Int.emod_lt_of_pos x hp
 have b3:=Int.emod_nonneg (x / p) (show (256:Int)≠0 by omega)
 have b4:=Int.emod_lt_of_pos (x / p) (show (0:Int)<256 by omega)
 have e3:x=(p*256)*(x / p / 256)+(x / p % 256*p+x % p):=by
  have:p*(x / p)=p*256*(x / p / 256)+x / p % 256*p:=by
   conv=>lhs;rw [e2]
   rw [Int.mul_add,Int.mul_assoc,Int.mul_comm p (x / p % 256)]
  omega
 have c1:0≤x / p % 256*p:=Int.mul_nonneg b3 (by omega)
 have c2:x / p % 256*p≤255*p:=Int.mul_le_mul_of_nonneg_right (by omega) (by omega)
 conv=>rhs;rw [e3]
 rw [Int.mul_add_emod_self_left]
 exact (Int.emod_eq_of_lt (by omega) (by omega)).symm
theorem valL_numL (x:Int) (h:0≤x) (s:Nat):∀ acc,valL acc (numL x s)=acc*256 ^ s+x % 256 ^ s:=by
 induction s with
 | zero=>intro acc;simp [numL,valL,Int.emod_one]
 | succ s ih =>
  intro acc
  rw [numL,valL,ih,← mod_split x h s,Int.pow_succ,Int.add_mul,Int.mul_assoc,Int.mul_comm 256 (256 ^ s)]
  omega
def okR (c:Ce):Bool:=decide (c.wd=0) && decide (c.p.fg≤256) && decide (c.p.bg≤256)
noncomputable def fitsS (S:Sc):Bool:=rightSc S && decide (S.links=[]) && decide (S.mouse=0) && S.cells.all okR
def cellB (c:Ce):List Int:=numL c.r 4 ++ (numL c.p.fg 2 ++ (numL c.p.bg 2 ++ [c.p.st]))
def i32S (v:Int):Int:=if v<2147483648 then v else v-4294967296
def cellOf (d:List Int):Ce:=⟨i32S (valL 0 (d.take 4)),0,⟨valL 0 ((d.drop 4).take 2),valL 0 ((d.drop 6).take 2),d.getD 8 0,0⟩⟩
def okC (c:Ce):Bool:=cellMay c && decide (c.p.fg≤256) && decide (c.p.bg≤256)
def rowBy (c:Nat) (L:List Ce) (y:Nat):List Int:=(y:Int) :: (rowAt c L y).flatMap cellB
def unlike (c r:Nat) (L M:List Ce):List Nat:=(List.range r).filter fun y=>decide (rowAt c L y≠rowAt c M y)
def diffS (base b:Sc) (fl:Int):List Int :=
 [b.c,b.r,b.x,b.y,fl+(if b.hid=true then 1 else 0)+(if b.title≠base.title then 2 else 0)] ++ ((if b.title≠base.title then (b.title.length:Int) :: b.title else []) ++
  (((unlike b.c.toNat b.r.toNat base.cells b.cells).length:Int) :: (unlike b.c.toNat b.r.toNat base.cells b.cells).flatMap (rowBy b.c.toNat b.cells)))
noncomputable def fullS (b:Sc):List Int × Int:=if fitsS b=true then (diffS (blS b.c.toNat b.r.toNat) b 4,0) else ([],1)
noncomputable def encR (a b:Sc):List Int × Int :=
 if fitsS a=true∧fitsS b=true then (if a.c=b.c∧a.r=b.r then (diffS a b 0,0) else fullS b) else ([],1)
def rdCells:Nat→List Int→Except Int (List Ce × List Int)
 | 0,d=>.ok ([],d)
 | n+1,d =>
  if d.length<9 then .error 2
  else if okC (cellOf d)=true then
   match rdCells n (d.drop 9) with
   | .ok (L,t)=>.ok (cellOf d :: L,t)
   | .error e=>.error e
  else .error 3
def rdRows (c r:Nat):Nat→Int→List Ce→List Int→Except Int (List Ce × List Int)
 | 0,_,L,d=>.ok (L,d)
 | _+1,_,_,[]=>.error 2
 | n+1,last,L,y :: t =>
  if (r:Int)≤y∨y≤last then .error 3
  else match rdCells c t with
   | .ok (M,t')=>rdRows c r n y (overS L (y.toNat*c) M) t'
   | .error e=>.error e
def rdTitle (fl:Int) (old:List Int) (t:List Int):Except Int (List Int × List Int) :=
 if fl / 2 % 2=1 then
  match t with
  | []=>.error 2
  | n :: t=>if (t.length:Int)<n then .error 2 else .ok (t.take n.toNat,t.drop n.toNat)
 else .ok (old,t)
def rdRest (c r:Nat) (fl:Int) (s:Sc) (t:List Int):Except Int Sc :=
 match rdTitle fl s.title t with
 | .error e=>.error e
 | .ok (_,[])=>.error 2
 | .ok (ti,n :: t) =>
  match rdRows c r n.toNat (-1) s.cells t with
  | .error e=>.error e
  | .ok (L,[])=>.ok { s with title:=ti,cells:=L }
  | .ok (_,_ :: _)=>.error 6
noncomputable def applyS (a:Sc) (d:List Int):Sc × Int :=
 if fitsS a=true then
  match d with
  | c :: r :: x :: y :: fl :: t =>
   if 7<fl∨sizeOk c r=false then (scZero,3)
   else if fl<4∧(c≠a.c∨r≠a.r) then (scZero,15)
   else match rdRest c.toNat r.toNat fl { (if fl<4 then a else blS c.toNat r.toNat) with x:=x,y:=y,hid:=decide (fl % 2=1) } t with
    | .error e=>(scZero,e)
    | .ok s=>if fitsS s=true then (s,0) else (scZero,3)
  | _=>(scZero,2)
 else (scZero,1)
/-! ### What is told leads there -/
theorem width_range {r:Int} (h:widthS r≠0):0≤r∧r<1114112:=by
 unfold widthS at h
 split at h
 · rename_i hm
   unfold mayS at hm
   simp at hm
   omega
 · exact absurd rfl h
theorem numL_at (x:Int) (h0:0≤x) {s:Nat} (h1:x<256 ^ s):valL 0 (numL x s)=x:=by
 rw [valL_numL x h0,Int.emod_eq_of_lt h0 h1,Int.zero_mul,Int.zero_add]
structure FitC (c:Ce):Prop where
 may:cellMay c=true
 wd:c.wd=0
 fg0:0≤c.p.fg
 fg:c.p.fg≤256
 bg0:0≤c.p.bg
 bg:c.p.bg≤256
 lk:c.p.lk=0
theorem FitC.rune {c:Ce} (h:FitC c):0≤c.r∧c.r<1114112:=by
 have hm:=h.may
 unfold cellMay at hm
 rw [h.wd] at hm
 simp at hm
 exact width_range (by omega)
theorem unlike_at (c r:Nat) (L M:List Ce) (y:Nat):y∈unlike c r L M↔y<r∧rowAt c L y≠rowAt c M y:=by simp [unlike]
structure FitS (S:Sc) (c r:Nat) (LL:Rws):Prop where
 ec:S.c=(c:Int)
 er:S.r=(r:Int)
 el:S.cells=LL.flatten
 gk:Gk c r LL
 lk:S.links=[]
 mo:S.mouse=0
 fit:∀ y,y<r→∀ x∈lAt LL y,FitC x
 ti:S.title.length≤64
theorem fits_of {S:Sc} (h:fitsS S=true) (hp:PosC S.cells):∃ c r LL,FitS S c r LL:=by
 unfold fitsS at h
 simp only [Bool.and_eq_true,decide_eq_true_eq,List.all_eq_true] at h
 obtain ⟨⟨⟨hR,hl⟩,hm⟩,hok⟩:=h
 have hR2:=hR
 unfold rightSc at hR2
 simp only [Bool.and_eq_true,decide_eq_true_eq] at hR2
 obtain ⟨⟨⟨⟨⟨⟨h1,h2⟩,h3⟩,h4⟩,h5⟩,h6⟩,h7⟩:=hR2
 obtain ⟨c,r,LL,ec,er,el,_,hg⟩:=((gridMay_iff _ _ _).1 h1).parts
 rw [hl] at h2
 have hz:=ord_zero h2
 refine ⟨c,r,LL,ec,er,el,hg,hl,hm,fun y hy x hx=>?_,h5⟩
 have hx2:x∈S.cells:=by
  rw [el]
  have hyl:y<LL.length:=by rw [hg.box.len];exact hy
  rw [lAt_lt hyl] at hx
  exact List.mem_flatten.2 ⟨_,List.getElem_mem _,hx⟩
 have ho:=hok x hx2
 unfold okR at ho
 simp only [Bool.and_eq_true,decide_eq_true_eq] at ho
 obtain ⟨i,hi,rfl⟩:=List.getElem_of_mem hx
 have hat:=(hg.ok y hy).at_ i hi
 have hpx:=hp _ hx2
 exact ⟨by have:=hat.1;rwa [cAt_lt hi] at this,ho.1.1,hpx.1,ho.1.2,hpx.2,ho.2,hz _ hx2⟩
theorem bl_fit {c r:Nat} (h1:1≤c) (h2:c≤80) (h3:1≤r) (h4:r≤24):FitS (blS c r) c r (blankR c r):=by
 have hg:=gk_blankE h1 h2 h3 h4
 refine ⟨rfl,rfl,rfl,hg,rfl,rfl,fun y hy x hx=>?_,Nat.zero_le _⟩
 have hyl:y<(blankR c r).length:=by rw [hg.box.len];exact hy
 have e:x=blankS pn0:=bl_mem x (List.mem_flatten.2 ⟨_,List.getElem_mem hyl,by rw [← lAt_lt hyl];exact hx⟩)
 subst e
 have hm:cellMay (blankS pn0)=true:=by
  have h:=hg.ok y hy
  have hp:0<(lAt (blankR c r) y).length:=by rw [hg.box.row y hy];omega
  have:=(h.at_ 0 hp).1
  rw [cAt_lt hp] at this
  have e2:(lAt (blankR c r) y)[0]=blankS pn0:=bl_mem _ (List.mem_flatten.2 ⟨_,List.getElem_mem hyl,by rw [← lAt_lt hyl];exact List.getElem_mem _⟩)
  rwa [e2] at this
 exact ⟨hm,rfl,by decide,by decide,by decide,by decide,rfl⟩
theorem fit_size {S:Sc} {c r:Nat} {LL:Rws} (h:FitS S c r LL):sizeOk S.c S.r=true:=by
 rw [h.ec,h.er]
 unfold sizeOk
 have h1:=h.gk.c1;have h2:=h.gk.c80;have h3:=h.gk.r1;have h4:=h.gk.r24
 exact decide_eq_true (by omega)
end Go.Proofs.YtikhknnhmnopbaaGreatDoor
