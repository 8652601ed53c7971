/-
  Part 18 of what the laws of emul want: UtfRefFeed.
-/
import Derived.Deep.DeepCutAuto
import Derived.Laws.EntriesVeiled
import Derived.Test.YtikhknnhmnopbaaGreatDoorPm02
import Derived.Test.YtikhknnhmnopbaaGreatDoorPm06
import Derived.Test.YtikhknnhmnopbaaGreatDoorPm07
import Derived.Test.YtikhknnhmnopbaaGreatDoorPm09
import Derived.Test.YtikhknnhmnopbaaGreatDoorPm15
import Derived.Test.YtikhknnhmnopbaaGreatDoorPm17
namespace Go.Proofs.YtikhknnhmnopbaaGreatDoor
open Go.RowKit
def RFeed (o:List Int) (b:Int) (w:World) (e:Ending) (w':World):Prop :=
 ∃ A1 n1 c1 A2 n2 c2,e=.returned (.tuple #[.slice A1 n1 c1,.agg #[.slice A2 n2 c2]])∧Ik .i32 w' A1 n1 (feedS o b).1∧Sb w' A2 n2 (feedS o b).2∧Below w.heap.size w w'∧(∀ ad,A1=some ad→0<n1→w.heap.size≤ad.block)∧(∀ ad,A2=some ad→0<n2→w.heap.size≤ad.block)
theorem sbIk {w:World} {A:Option Addr} {n:Nat} {zs:List Int} (h:Sb w A n zs):Ik .u8 w A n zs:=⟨h.len,h.at_⟩
theorem ikSb {w:World} {A:Option Addr} {n:Nat} {zs:List Int} (h:Ik .u8 w A n zs):Sb w A n zs:=⟨h.len,h.at_⟩
theorem yieldsIf_load_row {P:Program} {ops:Array Oper} {S:World→Prop} {op:Oper} {a:Act} (hw:Region.wanted op (yielded ops a.tmps)=true) (ty:TypeId) (x:Operand) (ho:op.op=.load ty x)
  (g:Nat) (hx:a.eval x=.pointer (some ⟨g,0,none⟩)) (cs:Array Value) (d:TypeDesc) (hS:∀ w,S w→w.heap[g]?=some (.cells cs ty (0,0)))
  (hu:P.underlying ty=some d) (hd:(match d with | .struct _ | .array _ _=>true | _=>false)=true) (hi:(P.info? ty).map (·.size)=some cs.size):YieldsIf P ops S op (.agg cs) a :=
 .inl ⟨hw,fun w hw'=>by
  unfold execOp
  simp only [ho,hx,Instr.loadAt,Instr.sureAddr,Sem.run_bind,Sem.run_pure,Result.andThen_ok,run_loadVar_row w g ty ty cs (0,0) d (hS w hw') hu hd hi]⟩
theorem yieldsIf_moveU {P:Program} {ops:Array Oper} {S:World→Prop} {op:Oper} {a:Act} (hw:Region.wanted op (yielded ops a.tmps)=true) (x:Operand) (ho:op.op=.move x) (v:Value) (hx:a.eval x=v):YieldsIf P ops S op v a :=
 .inl ⟨hw,fun w _=>by
  unfold execOp
  simp [ho,hx]⟩
theorem yieldsIf_assignU {P:Program} {ops:Array Oper} {S:World→Prop} {op:Oper} {a:Act} (hw:Region.wanted op (yielded ops a.tmps)=true) (x:Operand) (ho:op.op=.assign x) (v:Value) (hx:a.eval x=v):YieldsIf P ops S op v a :=
 .inl ⟨hw,fun w _=>by
  unfold execOp
  simp [ho,hx]⟩
theorem wp_appI {P:Program} (w:World) {o:Oper} {a:Act} {K:Act→World→Prop} {Q:Exit→Act→World→Prop} (s x:Operand) (t:TypeId)
  (ho:o.op=.call { callee:=.builtin .append,args:=#[s,x],argTypes:=#[t,t] })
  (base:Nat) (e:TypeId) (q:IntKind) (b8:Nat) (hb8:b8≤8) (ht:P.underlying t=some (.slice e)) (hi:(P.info? e).map (fun i=>(i.zero,i.size,i.bytes))=some (some (.int q 0),1,b8))
  (v:Value) (n:Nat) (xs:List Value) (hs:a.eval s=v) (hown:w.ownsRow base e 1 v n xs)
  (A:Option Addr) (m c k:Nat) (hk:n+m=k) (news:List Int) (hx:a.eval x=.slice A m c) (hr:Ik q w A m news) (h63:k≤1000000) (hbase:base≤w.heap.size)
  (h:∀ A' c' w',w'.ownsRow base e 1 (.slice A' k c') k (xs ++ news.map (Value.int q))→w.grownBy w' v.ownBlock→K (a.put o.dst (.slice A' k c')) w'):o.wp P a w K Q:=by
 subst hk
 obtain ⟨i0,hi,hz0,hz1,hz2⟩:=info_parts hi
 have hk:∀ v' w',w'.ownsRow base e 1 v' (n+m) (xs ++ news.map (Value.int q))→w.grownBy w' v.ownBlock→K (a.put o.dst v') w':=by
  intro v' w' h1 h2
  obtain ⟨A',c',rfl,_⟩:=own_shape h1
  exact h A' c' w' h1 h2
 have h8:(n+m)*b8≤1000000*8:=Nat.mul_le_mul h63 hb8
 cases A with
 | none =>
  have hm:m=0:=by
   rcases Nat.eq_zero_or_pos m with h0 | h0
   · exact h0
   · obtain ⟨ad,e1,_⟩:=hr.at_ h0
     cases e1
  subst hm
  have hn:news=[]:=List.eq_nil_of_length_eq_zero hr.len
  subst hn
  have hrun:=run_app_nil (P:=P) w base t o.type e i0 1 ht hi v n xs hown c
  unfold Oper.wp
  simp [execOp,ho,resolve,invoke,builtin,hs,hx,hrun,Result.andThen]
  exact hk v w (by simpa using hown) (World.grownBy.refl w _)
 | some ad =>
  exact wp_append_own w s x t ho base e i0 (.int q 0) 1 b8 ht hi hz0 hz1 hz2 rfl (by decide) v n xs hs hown ad m c (news.map (Value.int q)) hx (by simp [hr.len]) hr.news (oneCellsI q _)
   (by unfold maxLen;omega) (by omega) hbase fun v' w' h1 h2 _=>hk v' w' h1 h2
theorem infoD:(Tryz.prog.info? 111).map (·.size)=some 1:=by kernel_rfl
theorem ret_cell {W:World} {B:Nat} {t:TypeId} {v v':Value} (h:W.heap[B]?=some (.cells #[v] t (0,0))):(W.setCell ⟨B,0,none⟩ v').cell? ⟨B,0,none⟩=some v':=by
 rw [cell_of_row _ _ 0 _ _ _ (heap_setCell_same W B 0 _ _ _ h)];rfl
theorem ik_set {q:IntKind} {W:World} {A:Option Addr} {n:Nat} {zs:List Int} {B:Nat} (h:Ik q W A n zs) (hne:∀ ad,A=some ad→ad.block≠B) (v:Value):Ik q (W.setCell ⟨B,0,none⟩ v) A n zs :=
 h.grown (grownBy_set W ⟨B,0,none⟩ v) (fun ad e _ e2=>hne ad e (by injection e2 with e2;exact e2.symm))
set_option maxHeartbeats 3200000 in
set_option maxRecDepth 100000 in
theorem refFeed_gen {w:World} {A:Option Addr} {n c:Nat} {o:List Int} {b:Int}
  (hrec:o≠[]→∀ wx,Calls Tryz.prog 70 #[.agg #[.slice none 0 0],.int .u8 b] wx (RFeed [] b wx))
  (hs:Sb w A n o) (ho:Op o) (h8:U8s o) (hb:0≤b∧b≤255) :
  Calls Tryz.prog 70 #[.agg #[.slice A n c],.int .u8 b] w (RFeed o b w):=by
 have hn3:n≤3:=by rw [← hs.len];exact ho.len
 have H:=Lib.hid (And.intro hs (And.intro ho (And.intro h8 hb)))
 have HR:=Lib.hid hrec
 clear hs ho h8 hb hrec
 go_enter Tryz.func70,Tryz.ntmps70
 go_upto_region 1 with fail
 have hb1:Below w.heap.size w ((w.alloc (.cells #[.slice A n c] 111)).alloc (.cells #[.slice none 0 0] 111)) :=
  ((Below.refl _ _).alloc (Nat.le_refl _) _).alloc (by simp [World.size_alloc]) _
 have hB0:((w.alloc (.cells #[.slice A n c] 111)).alloc (.cells #[.slice none 0 0] 111)).heap[w.heap.size]?=some (.cells #[.slice A n c] 111 (0,0)):=heap_alloc2_old _ _ _
 have hB1:((w.alloc (.cells #[.slice A n c] 111)).alloc (.cells #[.slice none 0 0] 111)).heap[w.heap.size+1]?=some (.cells #[.slice none 0 0] 111 (0,0)):=heap_alloc2_new _ _ _
 generalize (w.alloc (.cells #[.slice A n c] 111)).alloc (.cells #[.slice none 0 0] 111)=w1 at hb1 hB0 hB1 ⊢
 have hb1a:Below w1.heap.size w1 (w1.alloc (.cells #[] 5)):=(Below.refl _ _).alloc (Nat.le_refl _) _
 have hl0:=(Array.getElem?_eq_some_iff.1 hB0).1
 have hl1:=(Array.getElem?_eq_some_iff.1 hB1).1
 have k0:(w1.alloc (.cells #[] 5)).cell? ⟨w.heap.size,0,none⟩=some (.slice A n c):=by rw [cell_of_row _ _ 0 _ _ _ ((hb1a.block _ hl0).trans hB0)];rfl
 have o1:(w1.alloc (.cells #[] 5)).ownsRow w1.heap.size 5 1 (.slice (some ⟨w1.heap.size,0,none⟩) 0 0) 0 []:=World.ownsRow_lit w1 #[] 0 (Nat.le_refl _) (by unfold maxLen;omega) rfl
 have X1:=Lib.hid (show Below w.heap.size w w1∧w1.heap[w.heap.size]?=some (.cells #[.slice A n c] 111 (0,0))∧w1.heap[w.heap.size+1]?=some (.cells #[.slice none 0 0] 111 (0,0))∧Below w1.heap.size w1 (w1.alloc (.cells #[] 5)) ∧
   (w1.alloc (.cells #[] 5)).ownsRow w1.heap.size 5 1 (.slice (some ⟨w1.heap.size,0,none⟩) 0 0) 0 []∧w.heap.size<w1.heap.size∧w.heap.size+1<w1.heap.size∧n≤3 from ⟨hb1,hB0,hB1,hb1a,o1,hl0,hl1,hn3⟩)
 clear hb1 hB0 hB1 hb1a o1 hl0 hl1 hn3
 go_wp2_with (refine wpList_appI _ rfl (.tmp 11) (.tmp 13) 26 rfl w1.heap.size 5 .u8 1 (by omega) Tryz.underlying26 info8 (.slice (some ⟨w1.heap.size,0,none⟩) 0 0) 0 [] rfl X1.out.2.2.2.2.1 A n c n (Nat.zero_add _) o rfl (sbIk ((H.out.1.below X1.out.1).below X1.out.2.2.2.1)) (by have:=X1.out.2.2.2.2.2.2.2;omega) X1.out.2.2.2.1.size ?_)
 intro A2 c2 w2 o2 g2
 have b2:Below w1.heap.size w1 w2:=X1.out.2.2.2.1.grown g2 X1.out.2.2.2.1.size (fun k hk=>by simp [Value.ownBlock] at hk;omega)
 have o2':=ownI_below o2 ((Below.refl w2.heap.size w2).alloc (Nat.le_refl _) (.cells #[.int .u8 b] 5))
 have X2:=Lib.hid (And.intro b2 (And.intro o2' (b2.alloc b2.size (.cells #[.int .u8 b] 5))))
 clear o2 g2 b2 o2' k0
 go_wp2_with (refine wpList_appI _ rfl (.tmp 14) (.tmp 16) 26 rfl w1.heap.size 5 .u8 1 (by omega) Tryz.underlying26 info8 (.slice A2 n c2) n _ rfl X2.out.2.1 (some ⟨w2.heap.size,0,none⟩) 1 1 (n+1) rfl [b] rfl (Ik.one _ _ _ _) (by have:=X1.out.2.2.2.2.2.2.2;omega) X2.out.2.2.size ?_)
 intro A3 c3 w3 o3 g3
 have b3:Below w1.heap.size w1 w3:=X2.out.2.2.grown g3 X2.out.2.2.size (fun k hk=>(X2.out.2.1.lt k hk).1)
 have s3:Sb w3 A3 (n+1) (o ++ [b]):=ikSb (Ik.own (by simpa using o3))
 have h83:U8s (o ++ [b]):=U8s.append H.out.2.2.1 (fun z hz=>by simp at hz;subst hz;exact H.out.2.2.2)
 have X3:=Lib.hid (show Sb w3 A3 (n+1) (o ++ [b])∧U8s (o ++ [b])∧Below w.heap.size w w3∧w3.heap[w.heap.size]?=some (.cells #[.slice A n c] 111 (0,0))∧w3.heap[w.heap.size+1]?=some (.cells #[.slice none 0 0] 111 (0,0))∧n≤3∧(∀ ad,A3=some ad→w.heap.size+1<ad.block)∧w.heap.size+1<w3.heap.size from
  ⟨s3,h83,X1.out.1.trans (b3.mono X1.out.1.size),(b3.block _ X1.out.2.2.2.2.2.1).trans X1.out.2.1,(b3.block _ X1.out.2.2.2.2.2.2.1).trans X1.out.2.2.1,X1.out.2.2.2.2.2.2.2,fun ad e=>by subst e;have h1:=(own_block o3).1;have h2:=X1.out.2.2.2.2.2.2.1;omega,by have h1:=b3.size;have h2:=X1.out.2.2.2.2.2.2.1;omega⟩)
 clear o3 g3 b3 s3 h83 X1 X2
 have hwh:=whole_any (cc:=c3) X3.out.1 X3.out.2.1 (by have:=X3.out.2.2.2.2.2.1;omega)
 cases hw:wholeS (o ++ [b]) with
 | some r =>
  rw [whole_yes hw] at hwh
  have HC:=Lib.hid hwh
  have HF:=Lib.hid (feed_done hw)
  clear hwh hw
  go_wp2_with fail
  refine HC.out.mono ?_
  rintro e w4 ⟨rfl,b4⟩
  have hB1:=(b4.block _ (Array.getElem?_eq_some_iff.1 X3.out.2.2.2.2.1).1).trans X3.out.2.2.2.2.1
  have b4':=X3.out.2.2.1.trans (b4.mono X3.out.2.2.1.size)
  have b5:=b4'.alloc b4'.size (.cells #[.int .i32 r] 21)
  have hB5:=(((Below.refl w4.heap.size w4).alloc (Nat.le_refl _) (.cells #[.int .i32 r] 21)).block _ (Array.getElem?_eq_some_iff.1 hB1).1).trans hB1
  have hc5:(w4.alloc (.cells #[.int .i32 r] 21)).cell? ⟨w.heap.size+1,0,none⟩=some (.slice none 0 0):=by rw [cell_of_row _ _ 0 _ _ _ hB5];rfl
  have hf5:(w4.alloc (.cells #[.int .i32 r] 21)).frozen? ⟨w.heap.size+1,0,none⟩=false:=frozen_of_row _ _ 0 _ _ hB5
  have hlt4:w.heap.size+1<w4.heap.size:=Nat.lt_of_lt_of_le X3.out.2.2.2.2.2.2.2 b4.size
  have yr:=ret_cell (v':=.slice none 0 0) hB5
  have HFIN:Hid (RFeed o b w (.returned (.tuple #[.slice (some ⟨w4.heap.size,0,none⟩) 1 1,.agg #[.slice none 0 0]])) ((w4.alloc (.cells #[.int .i32 r] 21)).setCell ⟨w.heap.size+1,0,none⟩ (.slice none 0 0))) :=
   ⟨_,_,_,_,_,_,rfl,by rw [HF.out];exact ik_set (Ik.one _ _ _ _) (fun ad e=>by cases e;simp;omega) _,by rw [HF.out];exact Sb.nil _ _,b5.setCell (p:=⟨w.heap.size+1,0,none⟩) (by simp) _,fun ad e _=>by cases e;exact b4'.size,fun ad e=>by cases e⟩
  clear b4 b4' b5 hB1 hB5 hlt4
  go_wp2_with fail
  exact bodyPost_ret (v:=.tuple #[.slice (some ⟨w4.heap.size,0,none⟩) 1 1,.agg #[.slice none 0 0]]) (by simp [results,Tryz.results70,go_sem,yr]) rfl HFIN.out
 | none =>
  rw [whole_no hw] at hwh
  have HC:=Lib.hid hwh
  have HWN:=Lib.hid hw
  clear hwh hw
  go_wp2_with fail
  refine HC.out.mono ?_
  rintro e w4 ⟨rfl,b4⟩
  have X4:=Lib.hid (show Sb w4 A3 (n+1) (o ++ [b])∧Below w.heap.size w w4∧w4.heap[w.heap.size]?=some (.cells #[.slice A n c] 111 (0,0))∧w4.heap[w.heap.size+1]?=some (.cells #[.slice none 0 0] 111 (0,0)) from
   ⟨X3.out.1.below b4,X3.out.2.2.1.trans (b4.mono X3.out.2.2.1.size),(b4.block _ (Array.getElem?_eq_some_iff.1 X3.out.2.2.2.1).1).trans X3.out.2.2.2.1,(b4.block _ (Array.getElem?_eq_some_iff.1 X3.out.2.2.2.2.1).1).trans X3.out.2.2.2.2.1⟩)
  clear b4
  have hbg:=begins_any (cc:=c3) X4.out.1 X3.out.2.1 (by have:=X3.out.2.2.2.2.2.1;omega)
  cases hbs:begS (o ++ [b])
  · rw [hbs] at hbg
    have HG:=Lib.hid hbg
    have HB:=Lib.hid hbs
    clear hbg hbs
    go_wp2_with fail
    refine HG.out.mono ?_
    rintro e w5 ⟨rfl,b5⟩
    have X5:=Lib.hid (show Below w.heap.size w w5∧w5.heap[w.heap.size]?=some (.cells #[.slice A n c] 111 (0,0))∧w5.heap[w.heap.size+1]?=some (.cells #[.slice none 0 0] 111 (0,0)) from
     ⟨X4.out.2.1.trans (b5.mono X4.out.2.1.size),(b5.block _ (Array.getElem?_eq_some_iff.1 X4.out.2.2.1).1).trans X4.out.2.2.1,(b5.block _ (Array.getElem?_eq_some_iff.1 X4.out.2.2.2).1).trans X4.out.2.2.2⟩)
    clear b5
    have k5:w5.cell? ⟨w.heap.size,0,none⟩=some (.slice A n c):=by rw [cell_of_row _ _ 0 _ _ _ X5.out.2.1];rfl
    by_cases hn0:n=0
    · subst hn0
      have ho0:o=[]:=List.eq_nil_of_length_eq_zero H.out.1.len
      have HF:=Lib.hid (show feedS o b=([65533],[]) from by rw [ho0];exact feed_bad (by have:=HWN.out;rw [ho0] at this;exact this) (by have:=HB.out;rw [ho0] at this;exact this))
      have b6:=X5.out.1.alloc X5.out.1.size (.cells #[.int .i32 65533] 21)
      have hB6:=(((Below.refl w5.heap.size w5).alloc (Nat.le_refl _) (.cells #[.int .i32 65533] 21)).block _ (Array.getElem?_eq_some_iff.1 X5.out.2.2).1).trans X5.out.2.2
      have hlt5:w.heap.size+1<w5.heap.size:=(Array.getElem?_eq_some_iff.1 X5.out.2.2).1
      have hc6:(w5.alloc (.cells #[.int .i32 65533] 21)).cell? ⟨w.heap.size+1,0,none⟩=some (.slice none 0 0):=by rw [cell_of_row _ _ 0 _ _ _ hB6];rfl
      have hf6:(w5.alloc (.cells #[.int .i32 65533] 21)).frozen? ⟨w.heap.size+1,0,none⟩=false:=frozen_of_row _ _ 0 _ _ hB6
      have yr:=ret_cell (v':=.slice none 0 0) hB6
      have HFIN:Hid (RFeed o b w (.returned (.tuple #[.slice (some ⟨w5.heap.size,0,none⟩) 1 1,.agg #[.slice none 0 0]])) ((w5.alloc (.cells #[.int .i32 65533] 21)).setCell ⟨w.heap.size+1,0,none⟩ (.slice none 0 0))) :=
       ⟨_,_,_,_,_,_,rfl,by rw [HF.out];exact ik_set (Ik.one _ _ _ _) (fun ad e=>by cases e;simp;omega) _,by rw [HF.out];exact Sb.nil _ _,b6.setCell (p:=⟨w.heap.size+1,0,none⟩) (by simp) _,fun ad e _=>by cases e;exact X5.out.1.size,fun ad e=>by cases e⟩
      clear b6 hB6 hlt5 ho0
      go_wp2_with fail
      exact bodyPost_ret (v:=.tuple #[.slice (some ⟨w5.heap.size,0,none⟩) 1 1,.agg #[.slice none 0 0]]) (by simp [results,Tryz.results70,go_sem,yr]) rfl HFIN.out
    · have hoe:o≠[]:=fun e=>hn0 (by rw [← H.out.1.len,e];rfl)
      have HF:=Lib.hid (feed_fall HWN.out HB.out hoe)
      have hnz:¬ (n:Int)=0:=by omega
      have HRR:=Lib.hid (HR.out hoe)
      clear hoe hn0
      go_wp2_with fail
      refine (HRR.out w5).mono ?_
      rintro e w6 ⟨A6,n6,c6,A7,n7,c7,rfl,hk6,hs6,b6,_,hA7⟩
      rw [feedS_nil] at hk6 hs6
      have hd6:=(b6.block _ (Array.getElem?_eq_some_iff.1 X5.out.2.2).1).trans X5.out.2.2
      have Y6:=Lib.hid (And.intro hk6 (And.intro hs6 (And.intro (X5.out.1.trans (b6.mono X5.out.1.size)) hd6)))
      clear hk6 hs6 b6 hd6 k5
      go_upto_region 10 with fail
      have b7:=Y6.out.2.2.1.alloc Y6.out.2.2.1.size (.cells #[.slice A7 n7 c7] 111)
      have h67:Below w6.heap.size w6 (w6.alloc (.cells #[.slice A7 n7 c7] 111)):=(Below.refl _ _).alloc (Nat.le_refl _) _
      have hS0:Below w.heap.size w (w6.alloc (.cells #[.slice A7 n7 c7] 111))∧(w6.alloc (.cells #[.slice A7 n7 c7] 111)).heap[w.heap.size+1]?=some (.cells #[.slice none 0 0] 111 (0,0)) ∧
        (w6.alloc (.cells #[.slice A7 n7 c7] 111)).heap[w6.heap.size]?=some (.cells #[.slice A7 n7 c7] 111 (0,0))∧Ik .i32 (w6.alloc (.cells #[.slice A7 n7 c7] 111)) A6 n6 (feed1 b).1 ∧
        Sb (w6.alloc (.cells #[.slice A7 n7 c7] 111)) A7 n7 (feed1 b).2 :=
       ⟨b7,(h67.block _ (Array.getElem?_eq_some_iff.1 Y6.out.2.2.2).1).trans Y6.out.2.2.2,heap_alloc_new _ _,Y6.out.1.below h67,Y6.out.2.1.below h67⟩
      have hlt7:w.heap.size+1<w6.heap.size:=(Array.getElem?_eq_some_iff.1 Y6.out.2.2.2).1
      have hn6:n6≤1:=by rw [← Y6.out.1.len];exact feed1_len b
      have hB15:w.heap.size+1<w5.heap.size:=(Array.getElem?_eq_some_iff.1 X5.out.2.2).1
      have hAd:∀ ad,A7=some ad→0<n7→w.heap.size+1<ad.block:=fun ad e h0=>Nat.lt_of_lt_of_le hB15 (hA7 ad e h0)
      clear hA7 hB15
      have hAl:∀ ad,A7=some ad→0<n7→ad.block<w6.heap.size:=fun ad e h0=>by subst e;exact Y6.out.2.1.lt h0
      have L7:=Lib.hid (And.intro hlt7 (And.intro hn6 (And.intro hAd hAl)))
      clear b7 h67 hlt7 hn6 hAd hAl Y6
      obtain ⟨D,hD⟩:∃ D,D=w6.heap.size:=⟨_,rfl⟩
      rw [← hD] at hS0 L7
      generalize hW:w6.alloc (.cells #[.slice A7 n7 c7] 111)=w7 at hS0 ⊢
      rw [← hD]
      clear hW hD
      refine wp_region_held_drew (S:=fun w'=>Below w.heap.size w w'∧w'.heap[D]?=some (.cells #[.slice A7 n7 c7] 111 (0,0))) (by kernel_rfl) ⟨hS0.1.drew,hS0.2.2.1⟩ (fun hHeld=>?_)
      refine wpAnyH_take (i:=1) (v:=.slice A6 n6 c6) rfl (by kernel_rfl) (by kernel_rfl) (by kernel_rfl) (fun _ _ _ h=>h) (yieldsIf_moveU (by rfl) (.tmp 9) rfl _ rfl) hHeld ?_
      simp only [Act.put,List.getElem_toArray,List.getElem_cons_succ,List.getElem_cons_zero,List.setIfInBounds_toArray,List.set_cons_succ,List.set_cons_zero]
      refine wpAnyH_take (i:=3) (v:=.agg #[.slice A7 n7 c7]) rfl (by kernel_rfl) (by kernel_rfl) (by kernel_rfl) (fun _ _ _ h=>h) (yieldsIf_load_row (by rfl) 111 (.tmp 10) rfl D rfl #[.slice A7 n7 c7] _ (fun _ h=>h.2) Tryz.underlying111 rfl infoD) hHeld ?_
      simp only [Act.put,List.getElem_toArray,List.getElem_cons_succ,List.getElem_cons_zero,List.setIfInBounds_toArray,List.set_cons_succ,List.set_cons_zero]
      refine wpAnyH_ready (rs:=[0]) (by kernel_rfl) (by simp) (AllReadyH.cons rfl (fun K hK=>?_) AllReadyH.nil)
      rw [if_pos (by rfl)]
      go_simp
      have b8:Below w7.heap.size w7 (w7.alloc (.cells #[.int .i32 65533] 21)):=(Below.refl _ _).alloc (Nat.le_refl _) _
      have S8:Below w.heap.size w (w7.alloc (.cells #[.int .i32 65533] 21)).drew∧(w7.alloc (.cells #[.int .i32 65533] 21)).drew.heap[w.heap.size+1]?=some (.cells #[.slice none 0 0] 111 (0,0)) ∧
        (w7.alloc (.cells #[.int .i32 65533] 21)).drew.heap[D]?=some (.cells #[.slice A7 n7 c7] 111 (0,0))∧Ik .i32 (w7.alloc (.cells #[.int .i32 65533] 21)).drew A6 n6 (feed1 b).1∧Sb (w7.alloc (.cells #[.int .i32 65533] 21)).drew A7 n7 (feed1 b).2 :=
       ⟨(hS0.1.alloc hS0.1.size _).drew,(b8.block _ (Array.getElem?_eq_some_iff.1 hS0.2.1).1).trans hS0.2.1,(b8.block _ (Array.getElem?_eq_some_iff.1 hS0.2.2.1).1).trans hS0.2.2.1,⟨(hS0.2.2.2.1.below b8).len,(hS0.2.2.2.1.below b8).at_⟩,(hS0.2.2.2.2.below b8).drew⟩
      have o8:(w7.alloc (.cells #[.int .i32 65533] 21)).drew.ownsRow w7.heap.size 21 1 (.slice (some ⟨w7.heap.size,0,none⟩) 1 1) 1 [.int .i32 65533]:=World.ownsRow_lit w7 #[.int .i32 65533] 1 (Nat.le_refl _) (by unfold maxLen;omega) rfl
      have hlt8:w.heap.size+1<w7.heap.size∧D<w7.heap.size:=⟨(Array.getElem?_eq_some_iff.1 hS0.2.1).1,(Array.getElem?_eq_some_iff.1 hS0.2.2.1).1⟩
      have hz8:w7.heap.size≤(w7.alloc (.cells #[.int .i32 65533] 21)).drew.heap.size:=by show w7.heap.size≤(w7.alloc (.cells #[.int .i32 65533] 21)).heap.size;simp [World.size_alloc]
      obtain ⟨G,hG⟩:∃ G,G=w7.heap.size:=⟨_,rfl⟩
      rw [← hG] at o8 hlt8 hz8 ⊢
      generalize (w7.alloc (.cells #[.int .i32 65533] 21)).drew=w8 at S8 o8 hz8 ⊢
      refine hK.out _ _ ⟨S8.1,S8.2.2.1⟩ (fun hHeld=>?_)
      clear hK K hS0 b8 hG
      refine wpAnyH_ready (rs:=[2]) (by kernel_rfl) (by simp) (AllReadyH.cons rfl (fun K hK=>?_) AllReadyH.nil)
      rw [if_pos (by rfl)]
      refine wp_appI _ (.tmp 43) (.tmp 44) 81 rfl G 21 .i32 4 (by omega) Tryz.underlying81 info32 (.slice (some ⟨G,0,none⟩) 1 1) 1 _ rfl o8 A6 n6 c6 (1+n6) rfl (feed1 b).1 rfl S8.2.2.2.1 (by have:=L7.out.2.1;omega) hz8 ?_
      intro A9 c9 w9 o9 g9
      simp only [Act.put,List.getElem_toArray,List.getElem_cons_succ,List.getElem_cons_zero,List.setIfInBounds_toArray,List.set_cons_succ,List.set_cons_zero]
      have hge:∀ k,Value.ownBlock (.slice (some ⟨G,0,none⟩) 1 1)=some k→k=G:=fun k hk=>by simp [Value.ownBlock] at hk;omega
      have S9:Below w.heap.size w w9∧w9.heap[w.heap.size+1]?=some (.cells #[.slice none 0 0] 111 (0,0)) ∧
        w9.heap[D]?=some (.cells #[.slice A7 n7 c7] 111 (0,0))∧Sb w9 A7 n7 (feed1 b).2 :=
       ⟨S8.1.grown g9 S8.1.size (fun k hk=>by rw [hge k hk];omega),(g9.block _ (Array.getElem?_eq_some_iff.1 S8.2.1).1 (fun e=>by have:=hge _ e.symm;omega)).trans S8.2.1,
        (g9.block _ (Array.getElem?_eq_some_iff.1 S8.2.2.1).1 (fun e=>by have:=hge _ e.symm;omega)).trans S8.2.2.1,S8.2.2.2.2.grown g9 (fun ad e h0 e2=>by have:=hge _ e2;have h3:=L7.out.2.2.2 ad e h0;omega)⟩
      refine hK.out _ _ ⟨S9.1,S9.2.2.1⟩ (fun hHeld=>?_)
      clear hK K
      refine wpAnyH_take (i:=4) (v:=.slice A9 (1+n6) c9) rfl (by kernel_rfl) (by kernel_rfl) (by kernel_rfl) (fun _ _ _ h=>h) (yieldsIf_assignU (by rfl) (.tmp 45) rfl _ rfl) hHeld ?_
      simp only [Act.put,List.getElem_toArray,List.getElem_cons_succ,List.getElem_cons_zero,List.setIfInBounds_toArray,List.set_cons_succ,List.set_cons_zero]
      have hc9:w9.cell? ⟨w.heap.size+1,0,none⟩=some (.slice none 0 0):=by rw [cell_of_row _ _ 0 _ _ _ S9.2.1];rfl
      have hf9:w9.frozen? ⟨w.heap.size+1,0,none⟩=false:=frozen_of_row _ _ 0 _ _ S9.2.1
      refine wpAnyH_ready (rs:=[5]) (by kernel_rfl) (by simp) (AllReadyH.cons rfl (fun K hK=>?_) AllReadyH.nil)
      rw [if_pos (by rfl)]
      go_simp
      have yr:=ret_cell (v':=.slice A7 n7 c7) S9.2.1
      have hA9:∀ ad,A9=some ad→G≤ad.block:=fun ad e=>by subst e;exact (own_block o9).1
      have HFIN:Hid (RFeed o b w (.returned (.tuple #[.slice A9 (1+n6) c9,.agg #[.slice A7 n7 c7]])) (w9.setCell ⟨w.heap.size+1,0,none⟩ (.slice A7 n7 c7))) :=
       ⟨_,_,_,_,_,_,rfl,by rw [HF.out];exact ik_set (Ik.own (by simpa using o9)) (fun ad e=>by have:=hA9 ad e;omega) _,
        by rw [HF.out];exact ikSb ((sbIk S9.2.2.2).grown (grownBy_set w9 ⟨w.heap.size+1,0,none⟩ _) (fun ad e h0 e2=>by have:=L7.out.2.2.1 ad e h0;simp at e2;omega)),
        S9.1.setCell (p:=⟨w.heap.size+1,0,none⟩) (by simp) _,fun ad e _=>by have:=hA9 ad e;omega,fun ad e h0=>by have:=L7.out.2.2.1 ad e h0;omega⟩
      have hDo:(w9.setCell ⟨w.heap.size+1,0,none⟩ (.slice A7 n7 c7)).heap[D]?=some (.cells #[.slice A7 n7 c7] 111 (0,0)):=(heap_setCell_other w9 ⟨w.heap.size+1,0,none⟩ D _ (by have:=L7.out.1;simp;omega)).trans S9.2.2.1
      refine hK.out _ _ ⟨S9.1.setCell (p:=⟨w.heap.size+1,0,none⟩) (by simp) _,hDo⟩ (fun hHeld=>?_)
      clear hK K
      refine wpAnyH_done (by kernel_rfl) ?_ _
      clear S8 o8 hz8 hlt8 o9 g9 hge S9 hHeld hc9 hf9 hA9 hDo
      go_wp2_with fail
      exact bodyPost_ret (v:=.tuple #[.slice A9 (1+n6) c9,.agg #[.slice A7 n7 c7]]) (by simp [results,Tryz.results70,go_sem,yr]) rfl HFIN.out
  · rw [hbs] at hbg
    have HG:=Lib.hid hbg
    have HF:=Lib.hid (feed_more hbs)
    clear hbg hbs
    go_wp2_with fail
    refine HG.out.mono ?_
    rintro e w5 ⟨rfl,b5⟩
    have hB5:=(b5.block _ (Array.getElem?_eq_some_iff.1 X4.out.2.2.2).1).trans X4.out.2.2.2
    have hc5:w5.cell? ⟨w.heap.size+1,0,none⟩=some (.slice none 0 0):=by rw [cell_of_row _ _ 0 _ _ _ hB5];rfl
    have hf5:w5.frozen? ⟨w.heap.size+1,0,none⟩=false:=frozen_of_row _ _ 0 _ _ hB5
    have yr:=ret_cell (v':=.slice A3 (n+1) c3) hB5
    have HFIN:Hid (RFeed o b w (.returned (.tuple #[.slice none 0 0,.agg #[.slice A3 (n+1) c3]])) (w5.setCell ⟨w.heap.size+1,0,none⟩ (.slice A3 (n+1) c3))) :=
     ⟨_,_,_,_,_,_,rfl,by rw [HF.out];exact Ik.nil _ _ _,by rw [HF.out];exact ikSb (ik_set (sbIk (X4.out.1.below b5)) (fun ad e=>by have:=X3.out.2.2.2.2.2.2.1 ad e;omega) _),(X4.out.2.1.trans (b5.mono X4.out.2.1.size)).setCell (p:=⟨w.heap.size+1,0,none⟩) (by simp) _,(fun ad e=>by cases e),fun ad e _=>by have:=X3.out.2.2.2.2.2.2.1 ad e;omega⟩
    clear b5 hB5
    go_wp2_with fail
    exact bodyPost_ret (v:=.tuple #[.slice none 0 0,.agg #[.slice A3 (n+1) c3]]) (by simp [results,Tryz.results70,go_sem,yr]) rfl HFIN.out
theorem refFeed_any {w:World} {A:Option Addr} {n c:Nat} {o:List Int} {b:Int} (hs:Sb w A n o) (ho:Op o) (h8:U8s o) (hb:0≤b∧b≤255) :
  Calls Tryz.prog 70 #[.agg #[.slice A n c],.int .u8 b] w (RFeed o b w) :=
 refFeed_gen (fun _ _=>refFeed_gen (fun h=>absurd rfl h) (Sb.nil _ _) (.inl rfl) U8s.nil hb) hs ho h8 hb
theorem refEnd_any {w:World} {A:Option Addr} {n c:Nat} {o:List Int} (hs:Sb w A n o) (hn:n≤1000000) :
  Calls Tryz.prog 71 #[.agg #[.slice A n c]] w fun e w'=>∃ A1 n1 c1,e=.returned (.slice A1 n1 c1)∧Ik .i32 w' A1 n1 (endS o)∧Below w.heap.size w w':=by
 have H:=Lib.hid hs
 clear hs
 by_cases h0:n=0
 · subst h0
   have ho:=Lib.hid (show o=[] from List.eq_nil_of_length_eq_zero H.out.len)
   go_enter Tryz.func71,Tryz.ntmps71
   go_wp2_with fail
   go_ret
   exact ⟨_,_,_,rfl,by rw [ho.out];exact Ik.nil _ _ _,(Below.refl _ _).alloc (Nat.le_refl _) _⟩
 · have ho:=Lib.hid (show o≠[] from fun e=>h0 (by rw [← H.out.len,e];rfl))
   have hz:¬ (n:Int)=0:=by omega
   clear h0
   go_enter Tryz.func71,Tryz.ntmps71
   go_wp2_with fail
   go_ret
   have hk:=Ik.one .i32 (w.alloc (.cells #[.slice A n c] 111)) 21 65533
   rw [World.size_alloc] at hk
   exact ⟨_,_,_,rfl,by rw [endS,if_neg ho.out];exact hk,((Below.refl _ _).alloc (Nat.le_refl _) _).alloc (by simp [World.size_alloc]) _⟩
end Go.Proofs.YtikhknnhmnopbaaGreatDoor
