/-
  Part 37 of what the laws of emul want: EmulSized.
-/
import Derived.Test.YtlcipgdnpilkfaaGreatDoorPr21
import Derived.Test.YtlcipgdnpilkfaaGreatDoorPr29
import Derived.Test.YtlcipgdnpilkfaaGreatDoorPr36
namespace Go.Proofs.YtlcipgdnpilkfaaGreatDoor
open Go.RowKit
/-! ### The chapter's terminal -/
theorem prow_res {P:Int→Prop} {L:List Ce} (h:PRow P L) (h0:P 0) (c:Nat):PRow P (resRow c L):=prow_over (prow_rep h0) (prow_take (prow_erase h h0 _ _ _) _) _
theorem prws_resize {P:Int→Prop} {LL:Rws} (h:PRws P LL) (h0:P 0) (c r:Nat):PRws P (resizeS c r LL):=prws_map fun y=>by
 split
 · exact prow_res (prws_at h y) h0 c
 · exact prow_rep h0
theorem LkOk.resize {t:Tm} (h:LkOk t) (c r:Nat):LkOk (t.resize c r):=⟨prws_resize h.main (.inl rfl) c r,prws_resize h.other (.inl rfl) c r,h.pen,h.sav⟩
section
variable {B:Nat} {w w0:World} {g:Nat} {x:CT} {L:List Value} {R:Int}
def CT.sized (x:CT) (c r q1 k1 q2 k2:Nat):CT:={ x with t:=x.t.resize c r,mb:=q1,mN:=r*c,mK:=k1,ob:=q2,oN:=r*c,oK:=k2 }
def g3V (c r q n k:Nat):List Value:=[.int .i64 c,.int .i64 r,.slice (some ⟨q,0,none⟩) n k]
def szL2 (x:CT) (c r q1 k1 q2 k2:Nat):List Value:=((ctV x).take 15 ++ (g3V c r q1 (r*c) k1 ++ (ctV x).drop 18)).take 18 ++ (g3V c r q2 (r*c) k2 ++ ((ctV x).take 15 ++ (g3V c r q1 (r*c) k1 ++ (ctV x).drop 18)).drop 21)
def szL4 (x:CT) (c r q1 k1 q2 k2:Nat):List Value:=(((((szL2 x c r q1 k1 q2 k2).set 1 (.int .i64 (min x.t.now.x ((c:Int)-1)))).set 2 (.int .i64 (min x.t.now.y ((r:Int)-1)))).set 22 (.bool false)).set 23 (.int .i64 0)).set 24 (.int .i64 ((r:Int)-1))
def szL (x:CT) (c r q1 k1 q2 k2:Nat):List Value:=(szL4 x c r q1 k1 q2 k2).take 29 ++ (tabs0.map Value.bool ++ (szL4 x c r q1 k1 q2 k2).drop 109)
theorem szL4_is (x:CT) (c r q1 k1 q2 k2:Nat):szL4 x c r q1 k1 q2 k2=ctH (x.sized c r q1 k1 q2 k2) ++ (x.t.tabs.map Value.bool ++ ctT x):=rfl
theorem ctV_sized (x:CT) (h:x.t.tabs.length=80) (c r q1 k1 q2 k2:Nat):szL x c r q1 k1 q2 k2=ctV (x.sized c r q1 k1 q2 k2):=by
 have hl:(ctH (x.sized c r q1 k1 q2 k2)).length=29:=rfl
 have hd:∀ (H T:List Value),H.length=29→List.drop 109 (H ++ (x.t.tabs.map Value.bool ++ T))=T:=fun H T hH=>by
  rw [List.drop_append,List.drop_eq_nil_of_le (by omega),List.nil_append,hH,List.drop_append,List.drop_eq_nil_of_le (by rw [List.length_map,h];omega),List.nil_append,List.length_map,h]
  rfl
 unfold szL
 rw [szL4_is,hd _ _ hl,List.take_left' hl]
 rfl
theorem szL2_len (x:CT) (h:x.t.tabs.length=80) (c r q1 k1 q2 k2:Nat):(szL2 x c r q1 k1 q2 k2).length=112:=by
 have:=ctV_len h
 simp [szL2,g3V,this]
theorem szL2_at (x:CT) (c r q1 k1 q2 k2:Nat):(szL2 x c r q1 k1 q2 k2)[1]?=some (.int .i64 x.t.now.x)∧(szL2 x c r q1 k1 q2 k2)[2]?=some (.int .i64 x.t.now.y)∧(szL2 x c r q1 k1 q2 k2)[15]?=some (.int .i64 c)∧(szL2 x c r q1 k1 q2 k2)[16]?=some (.int .i64 r)∧(szL2 x c r q1 k1 q2 k2)[22]?=some (.bool x.t.full)∧(szL2 x c r q1 k1 q2 k2)[23]?=some (.int .i64 x.t.top)∧(szL2 x c r q1 k1 q2 k2)[24]?=some (.int .i64 x.t.bot):=⟨rfl,rfl,rfl,rfl,rfl,rfl,rfl⟩
theorem Cz.sized {w1 w':World} {c r q1 k1 q2 k2:Nat} (h:Cz B w g x) (h1:1≤c) (h2:c≤80) (h3:1≤r) (h4:r≤24) (hb:Below w.heap.size w w1) (hq1:w.heap.size≤q1) (hq2:w.heap.size≤q2) (hne:q1≠q2) (hk1:r*c≤k1∧k1≤maxLen) (hk2:r*c≤k2∧k2≤maxLen)
  (hr1:Rw ceV 66 w1 q1 (resizeS c r x.t.main).flatten) (hr2:Rw ceV 66 w1 q2 (resizeS c r x.t.other).flatten) (R:RwG w1 g (szL x c r q1 k1 q2 k2) w') :
  CzTo B g x (x.t.resize c r) w w' (x.sized c r q1 k1 q2 k2):=by
 rw [ctV_sized x h.ok.tabs] at R
 have hlt:=h.lt
 have hB:=h.bB
 have r1:=hr1.kept (R.gr.block q1 hr1.lt (fun e=>by injection e with e;omega))
 have r2:=hr2.kept (R.gr.block q2 hr2.lt (fun e=>by injection e with e;omega))
 have hkp:∀ b,b<w.heap.size→b≠g→w'.heap[b]?=w.heap[b]?:=fun b hb' hne=>(R.gr.block b (by have:=hb.size;omega) (fun e=>hne (by injection e))).trans (hb.block b hb')
 have hsz:w.heap.size≤w'.heap.size:=Nat.le_trans hb.size R.gr.size
 have hok:=h.ok.resize h1 h2 h3 h4
 have hout:OutB B (CB g x) w w':=⟨⟨R.gr.os.trans hb.os,R.gr.tape.trans hb.tape,R.gr.output.trans hb.output,hsz,fun b hb'=>hkp b (by omega) (fun e=>by have:=h.gB;omega)⟩,fun b hb' hS=>hkp b hb' (fun e=>hS (.inl e))⟩
 refine ⟨rfl,⟨R.blk,h.gB,hok,r1,by show B≤q1;omega,rfl,hk1,r2,by show B≤q2;omega,rfl,hk2,hne,h.p.kept hsz fun b hb'=>hkp b (h.p.hi b hb') (fun e=>h.gp (e ▸ hb')),h.b.same fun q hq=>hkp q (h.b.own.lt q hq).2 (fun e=>h.gb (e ▸ hq)),h.tl,h.bs⟩,hout,?_⟩
 rintro b (rfl | rfl | rfl | hb' | hb')
 · exact .inl (.inl rfl)
 · exact .inr hq1
 · exact .inr hq2
 · exact .inl (.inr (.inr (.inr (.inl hb'))))
 · exact .inl (.inr (.inr (.inr (.inr hb'))))
set_option maxRecDepth 100000 in
set_option maxHeartbeats 1600000 in
theorem freeMargins_raw {X Y:Int} (h:RwG w0 g L w) (h16:L[16]?=some (.int .i64 R)) (h23:L[23]?=some (.int .i64 X)) (h24:L[24]?=some (.int .i64 Y)) (hR:1≤R∧R≤24) :
  Calls Tryz.prog 38 #[.pointer (some ⟨g,0,none⟩)] w fun e w'=>e=.returned (.tuple #[])∧RwG w0 g ((L.set 23 (.int .i64 0)).set 24 (.int .i64 (R-1))) w':=by
 have HR:=Lib.hid (lastRow_raw (h.cell h16) hR)
 have c23:w.cell? ⟨g,23,none⟩=some (.int .i64 X):=h.cell h23
 have c24:w.cell? ⟨g,24,none⟩=some (.int .i64 Y):=h.cell h24
 have f23:w.frozen? ⟨g,23,none⟩=false:=h.fr 23
 have f24:w.frozen? ⟨g,24,none⟩=false:=h.fr 24
 have X:=Lib.hid (show RwG w0 g ((L.set 23 (.int .i64 0)).set 24 (.int .i64 (R-1))) ((w.setCell ⟨g,23,none⟩ (.int .i64 0)).setCell ⟨g,24,none⟩ (.int .i64 (R-1))) from (h.set 23 _).set 24 _)
 clear h h16 h23 h24 hR
 go_enter Tryz.func38,Tryz.ntmps38
 go_wp2_with fail
 refine HR.out.mono ?_
 rintro e w1 ⟨rfl,hw1⟩
 obtain rfl:=hw1.symm
 clear hw1
 go_wp2_with fail
 go_end0
 exact ⟨rfl,X.out⟩
end
end Go.Proofs.YtlcipgdnpilkfaaGreatDoor
