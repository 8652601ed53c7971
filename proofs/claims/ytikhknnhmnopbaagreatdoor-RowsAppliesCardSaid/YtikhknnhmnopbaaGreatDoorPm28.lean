/-
  Part 28 of what the laws of emul want: RowsApply.
-/
import Derived.Deep.DeepCutAuto
import Derived.Test.YtikhknnhmnopbaaGreatDoorPm01
import Derived.Test.YtikhknnhmnopbaaGreatDoorPm21
import Derived.Test.YtikhknnhmnopbaaGreatDoorPm23
import Derived.Test.YtikhknnhmnopbaaGreatDoorPm24
import Derived.Test.YtikhknnhmnopbaaGreatDoorPm25
import Derived.Test.YtikhknnhmnopbaaGreatDoorPm26
import Derived.Test.YtikhknnhmnopbaaGreatDoorPm27
namespace Go.Proofs.YtikhknnhmnopbaaGreatDoor
open Go.RowKit
def AppEnd (p:Sc × Int) (w:World) (e:Ending) (w':World):Prop:=Below w.heap.size w w'∧∃ s',e=.returned (.tuple #[.agg (scrA s'),.int .i64 p.2])∧ScIn w' s' p.1∧s'.n≤60000∧s'.m=0∧(s'.n=0∨∃ q,s'.A=some ⟨q,0,none⟩∧Rw ceV 43 w' q p.1.cells)
structure ApM (w wr:World) (b:Nat):Prop where
 eb:b=w.heap.size
 res:Sx wr (b+1) scN
 non:Sx wr (b+2) scN
 bel:Below w.heap.size w wr
 lt:b+3≤wr.heap.size
theorem ApM.on {w wr w':World} {b:Nat} (h:ApM w wr b) (hb:Below wr.heap.size wr w'):ApM w w' b:=⟨h.eb,h.res.below hb,h.non.below hb,h.bel.trans (hb.mono h.bel.size),Nat.le_trans h.lt hb.size⟩
theorem ApM.grown {w wr w':World} {b g:Nat} (h:ApM w wr b) (hg:wr.grownBy w' (some g)) (hl:b+3≤g):ApM w w' b:=by
 have he:=h.eb
 exact ⟨h.eb,h.res.grown hg (fun e=>by injection e with e;omega),h.non.grown hg (fun e=>by injection e with e;omega),h.bel.grown hg h.bel.size (fun k hk=>by injection hk with hk;omega),Nat.le_trans h.lt hg.size⟩
theorem end_no {w wr w7:World} {b:Nat} {p:Sc × Int} {k:Int} (h:ApM w wr b) (hg:wr.grownBy w7 (some (b+1))) (hp:p=(scZero,k)):AppEnd p w (.returned (.tuple #[.agg (scrA scN),.int .i64 k])) w7:=by
 have he:=h.eb
 rw [hp]
 exact ⟨h.bel.grown hg h.bel.size (fun k hk=>by injection hk with hk;omega),scN,rfl,(zero_own w.heap.size w7).sc,by show (0:Nat)≤_;omega,rfl,.inl rfl⟩
structure ApS (w wr:World) (b b4 q:Nat) (s:ScR) (S:Sc):Prop where
 m:ApM w wr b
 scr:Sx wr b4 s
 lo:b+3≤b4
 A:s.A=some ⟨q,0,none⟩
 ql:b+3≤q
 qn:q≠b4
 rw:Rw ceV 43 wr q S.cells
 sc:ScIn wr s S
 lm:s.m=0
 n:s.n≤60000
theorem ApS.put {w wr:World} {b b4 q k:Nat} {s s':ScR} {S S':Sc} {v:Value} (h:ApS w wr b b4 q s S) (e:(scF s).set k v=scF s') (hk:k<9) (hA:s'.A=s.A) (hn:s'.n=s.n) (hm:s'.m=s.m) (hc:S'.cells=S.cells) (hsc:∀ w',Vs ceV w' s.A s.n S.cells→Vs stV w' s.T s.m S.links→ScIn w' s' S'):ApS w (wr.setCell ⟨b4,k,none⟩ v) b b4 q s' S':=by
 have hg:wr.grownBy (wr.setCell ⟨b4,k,none⟩ v) (some b4):=grownBy_set wr ⟨b4,k,none⟩ v
 have hR:=h.rw.grown hg (fun e=>by injection e with e;exact h.qn e.symm)
 have hl:Vs stV (wr.setCell ⟨b4,k,none⟩ v) s.T s.m S.links:=⟨h.sc.links.len,fun hp=>by have:=h.lm;omega⟩
 have hv:Vs ceV (wr.setCell ⟨b4,k,none⟩ v) s.A s.n S.cells:=by
  have h1:=hR.vs
  rw [h.A]
  rw [h.sc.cells.len] at h1
  exact h1
 exact ⟨h.m.grown hg h.lo,Sx.set h.scr e hk,h.lo,by rw [hA];exact h.A,h.ql,h.qn,by rw [hc];exact hR,hsc _ hv hl,by rw [hm];exact h.lm,by rw [hn];exact h.n⟩
theorem ApS.on {w wr w':World} {b b4 q:Nat} {s:ScR} {S:Sc} (h:ApS w wr b b4 q s S) (hb:Below wr.heap.size wr w'):ApS w w' b b4 q s S:=⟨h.m.on hb,h.scr.below hb,h.lo,h.A,h.ql,h.qn,h.rw.below hb,h.sc.below hb,h.lm,h.n⟩
theorem bl_one {c r:Int} (h:sizeOk c r=true):0<(blS c.toNat r.toNat).cells.length:=by
 unfold sizeOk at h
 simp only [decide_eq_true_eq] at h
 have hb:Box c.toNat r.toNat (blankR c.toNat r.toNat):=(gk_blankE (by omega) (by omega) (by omega) (by omega)).box
 show 0<(blankR c.toNat r.toNat).flatten.length
 rw [hb.flen]
 exact Nat.mul_pos (by omega) (by omega)
theorem fit_one {S:Sc} {c r:Nat} {LL:Rws} (h:FitS S c r LL):0<S.cells.length:=by
 rw [h.el,h.gk.box.flen]
 exact Nat.mul_pos (by have:=h.gk.r1;omega) (by have:=h.gk.c1;omega)
theorem links_none {w:World} {A:Option Addr} {n:Nat} {L:List ByteArray} (hl:L.length=n) (h:L=[]):Vs stV w A n L:=⟨hl,fun hn=>by subst h;simp at hl;omega⟩
theorem end_yes {w wr w7:World} {b b4 q:Nat} {s:ScR} {S:Sc} (h:ApS w wr b b4 q s S) (hg:wr.grownBy w7 (some (b+1))):AppEnd (S,0) w (.returned (.tuple #[.agg (scrA s),.int .i64 0])) w7:=by
 have he:=h.m.eb
 have hR:=h.rw.grown hg (fun e=>by injection e with e;have:=h.ql;omega)
 have hv:Vs ceV w7 s.A s.n S.cells:=by
  have h1:=hR.vs
  rw [h.A]
  rw [h.sc.cells.len] at h1
  exact h1
 exact ⟨h.m.bel.grown hg h.m.bel.size (fun k hk=>by injection hk with hk;omega),s,rfl,{ h.sc with cells:=hv,links:=⟨h.sc.links.len,fun hp=>by have:=h.lm;omega⟩ },h.n,h.lm,.inr ⟨q,h.A,hR⟩⟩
theorem val_four {zs:List Int} (h:U8s zs) (k s:Nat):0≤valL 0 ((zs.drop k).take s)∧valL 0 ((zs.drop k).take s)<256 ^ s:=by
 have h1:=valL_lt ((zs.drop k).take s) 0 ((h.drop k).take s) (by omega)
 refine ⟨h1.1,Int.lt_of_lt_of_le h1.2 ?_⟩
 have hl:((zs.drop k).take s).length≤s:=by rw [List.length_take];exact Nat.min_le_left _ _
 rw [Int.zero_add,Int.one_mul]
 have h3:((256 ^ ((zs.drop k).take s).length:Nat):Int)≤((256 ^ s:Nat):Int):=Int.ofNat_le.mpr (Nat.pow_le_pow_right (by omega) hl)
 rw [Int.natCast_pow,Int.natCast_pow] at h3
 exact h3
def ceN:Ce:=⟨0,0,⟨0,0,0,0⟩⟩
theorem wp_store_C {w:World} {o:Oper} {a:Act} {K:Act→World→Prop} {Q:Exit→Act→World→Prop} (x y:Operand) (ho:o.op=.store 43 x y)
  (g:Nat) (s0 s:Ce) (hx:a.eval x=.pointer (some ⟨g,0,none⟩)) (hy:a.eval y=.agg (ceA s)) (hR:Cb w g s0)
  (h:∀ w',Cb w' g s→w.grownBy w' (some g)→K (a.put o.dst undef) w'):o.wp Tryz.prog a w K Q:=by
 obtain ⟨e1,e2⟩:=Rw.stored ceV_len hR (k:=0) (M:=[s]) (by simp)
 have hone:rowV ceV [s]=(ceA s).toList:=by simp [rowV,ceV,ceA]
 refine wp_store_mid 43 x y ho g 0 (ceA s) hx hy (by simpa [ceA] using Rw.there ceV_len hR (k:=0) (m:=1) (by simp)) (by kernel_rfl) ?_ ?_
 · rw [Array.all_eq_true_iff_forall_mem]
   intro v hv
   exact one_ce [s] v (by rw [hone];simpa using hv)
 · have e3:w.setCells g 0 (ceA s).toList=w.setCells g (0*6) (rowV ceV [s]):=by rw [hone]
   rw [e3]
   refine h _ ?_ e2
   have:=e1
   simpa using this
theorem ApS.far {w wr w':World} {b b4 q g:Nat} {s:ScR} {S:Sc} (h:ApS w wr b b4 q s S) (hg:wr.grownBy w' (some g)) (h1:b+3≤g) (h2:g≠b4) (h3:g≠q):ApS w w' b b4 q s S:=by
 have hR:=h.rw.grown hg (fun e=>by injection e with e;exact h3 e)
 have hv:Vs ceV w' s.A s.n S.cells:=by
  have h1:=hR.vs
  rw [h.A]
  rw [h.sc.cells.len] at h1
  exact h1
 exact ⟨h.m.grown hg h1,h.scr.grown hg (fun e=>by injection e with e;exact h2 e),h.lo,h.A,h.ql,h.qn,hR,{ h.sc with cells:=hv,links:=⟨h.sc.links.len,fun hp=>by have:=h.lm;omega⟩ },h.lm,h.n⟩
theorem ApS.cell {w wr w':World} {b b4 q i:Nat} {s:ScR} {S:Sc} {c:Ce} (h:ApS w wr b b4 q s S) (hg:wr.grownBy w' (some q)) (hR:Rw ceV 43 w' q (S.cells.set i c)) (hc:c.p.lk=0):ApS w w' b b4 q s { S with cells:=S.cells.set i c }:=by
 have hv:Vs ceV w' s.A s.n (S.cells.set i c):=by
  have h1:=hR.vs
  rw [h.A]
  rw [List.length_set,h.sc.cells.len] at h1
  exact h1
 have hlk:∀ x∈S.cells.set i c,0≤x.p.lk∧x.p.lk≤65535:=fun x hx=>by
  rcases List.mem_or_eq_of_mem_set hx with hx | rfl
  · exact h.sc.lk x hx
  · omega
 have hll:Vs stV w' s.T s.m S.links:=⟨h.sc.links.len,fun hp=>by have:=h.lm;omega⟩
 exact ⟨h.m.grown hg h.ql,h.scr.grown hg (fun e=>by injection e with e;exact h.qn e),h.lo,h.A,h.ql,h.qn,hR,{ h.sc with cells:=hv,links:=hll,lk:=hlk },h.lm,h.n⟩
theorem drop_cons {zs:List Int} {k:Nat} (h:k<zs.length):zs.drop k=zs.getD k 0 :: zs.drop (k+1):=by
 rw [List.drop_eq_getElem_cons h,List.getD_eq_getElem?_getD,List.getElem?_eq_getElem h]
 rfl
theorem five {zs:List Int} (h:5≤zs.length):∃ c r x y f t,zs=c :: r :: x :: y :: f :: t:=by
 rcases zs with _ | ⟨c,_ | ⟨r,_ | ⟨x,_ | ⟨y,_ | ⟨f,t⟩⟩⟩⟩⟩<;>first | (simp at h;done) | (simp at h;omega) | exact ⟨_,_,_,_,_,_,rfl⟩
set_option maxHeartbeats 6400000 in
set_option maxRecDepth 100000 in
theorem rApply_any {s:ScR} {S:Sc} {w:World} {A:Option Addr} {n c:Nat} {zs:List Int} (h:Got w s S) (hd:Sb w A n zs) (h8:U8s zs) (hn:n≤1000000) (hcap:n≤c) :
  Calls Tryz.prog 10 #[.agg (scrA s),.slice A n c] w (AppEnd (applyS S zs) w):=by
 have HI:=Lib.hid h
 have HD:=Lib.hid (And.intro hd h8)
 have hlen:=hd.len
 obtain ⟨p,hp⟩:∃ p,p=applyS S zs:=⟨_,rfl⟩
 rw [← hp]
 have HP:=Lib.hid hp
 clear hp
 obtain ⟨b,hb⟩:∃ b,b=w.heap.size:=⟨_,rfl⟩
 obtain ⟨w1,hw1⟩:∃ w1,w1=((w.alloc (.cells (scrA s) 25)).alloc (.cells (scrA scN) 25)).alloc (.cells (scrA scN) 25):=⟨_,rfl⟩
 have H1:=Lib.hid (show Sx w1 b s∧ApM w w1 b from by
  have h1:=Sx.new w s
  have h2:=Sx.new (w.alloc (.cells (scrA s) 25)) scN
  have h3:=Sx.new ((w.alloc (.cells (scrA s) 25)).alloc (.cells (scrA scN) 25)) scN
  simp only [World.size_alloc] at h2 h3
  rw [hw1,hb]
  exact ⟨h1.below (((Below.refl _ _).alloc (Nat.le_refl _) _).alloc (by simp) _),rfl,h2.below ((Below.refl _ _).alloc (by simp) _),h3,(((Below.refl _ _).alloc (Nat.le_refl _) _).alloc (by simp) _).alloc (by simp;omega) _,by simp⟩)
 have PF:=Lib.hid (rFits_any (h.sc.below H1.out.2.bel) h.mo h.n h.m)
 obtain ⟨a0,a1,a2,a3,a4,a5,a6,a7,a8,_⟩:=sx_cells H1.out.1
 clear h hd h8
 unfold scrA scN at hw1
 unfold scrA at PF ⊢
 go_enter Tryz.func10,Tryz.ntmps10
 go_upto_region 2 with fail
 have hb1:(w.alloc (.cells #[.int .i64 s.c,.int .i64 s.r,.slice s.A s.n s.k,.int .i64 s.x,.int .i64 s.y,.bool s.hid,.int .u8 s.mouse,.string s.ttl,.slice s.T s.m s.q] 25)).heap.size=b+1:=by rw [World.size_alloc,hb]
 clear hb1
 rw [← hw1,← hb,show b+1+1=b+2 from rfl]
 clear hw1 hb
 go_wp2_with fail
 refine PF.out.mono ?_
 rintro e w2 ⟨rfl,hb2⟩
 have H2:=Lib.hid (show Sx w2 b s∧ApM w w2 b from ⟨H1.out.1.below hb2,H1.out.2.on hb2⟩)
 clear hb2 H1 PF a0 a1 a2 a3 a4 a5 a6 a7 a8
 have HM:=Lib.hid H2.out.2
 cases hF:fitsS S
 · have HQ:=Lib.hid (show p=(scZero,1) from by rw [HP.out];exact app_1 hF)
   clear hF
   go_upto_region 3 with fail
   obtain ⟨q0,q1,q2,q3,q4,q5,q6,q7,q8,_⟩:=sx_cells HM.out.non
   repeat (first | (go_big_may;refine wpList_store_V rfl 25 (.tmp 4) (.tmp 24) rfl scF_len one_sc info56 (b+1) _ 0 scN _ rfl rfl rfl rfl 25 [scN] HM.out.res (by decide) ?_;intro w7 hR7 hg7) | go_values | go_skip | go_guarded | go_step | go_upon)
   have HE:=Lib.hid (end_no HM.out hg7 HQ.out)
   clear hg7
   obtain ⟨y0,y1,y2,y3,y4,y5,y6,y7,y8,_⟩:=sx_cells (s:=scN) hR7
   exact bodyPost_ret (v:=.tuple #[.agg (scrA scN),.int .i64 1]) (by simp [results,Tryz.results10,scrA,scN,go_sem,y0,y1,y2,y3,y4,y5,y6,y7,y8]) rfl HE.out
 have HF:=Lib.hid hF
 clear hF
 go_upto_region 4 with fail
 by_cases hl5:n<5
 · have HQ:=Lib.hid (show p=(scZero,2) from by rw [HP.out];exact app_2 HF.out (by omega))
   have hl5i:(n:Int)<5:=by omega
   go_upto_region 5 with fail
   obtain ⟨q0,q1,q2,q3,q4,q5,q6,q7,q8,_⟩:=sx_cells HM.out.non
   repeat (first | (go_big_may;refine wpList_store_V rfl 25 (.tmp 4) (.tmp 28) rfl scF_len one_sc info56 (b+1) _ 0 scN _ rfl rfl rfl rfl 25 [scN] HM.out.res (by decide) ?_;intro w7 hR7 hg7) | go_values | go_skip | go_guarded | go_step | go_upon)
   have HE:=Lib.hid (end_no HM.out hg7 HQ.out)
   clear hg7
   obtain ⟨y0,y1,y2,y3,y4,y5,y6,y7,y8,_⟩:=sx_cells (s:=scN) hR7
   exact bodyPost_ret (v:=.tuple #[.agg (scrA scN),.int .i64 2]) (by simp [results,Tryz.results10,scrA,scN,go_sem,y0,y1,y2,y3,y4,y5,y6,y7,y8]) rfl HE.out
 obtain ⟨c0,r0,x0,y0,f0,t,hz⟩:=five (zs:=zs) (by omega)
 have hz0:zs.getD 0 0=c0:=by rw [hz];rfl
 have hz1:zs.getD 1 0=r0:=by rw [hz];rfl
 have hz2:zs.getD 2 0=x0:=by rw [hz];rfl
 have hz3:zs.getD 3 0=y0:=by rw [hz];rfl
 have hz4:zs.getD 4 0=f0:=by rw [hz];rfl
 have HR:=Lib.hid (show (0≤c0∧c0≤255)∧(0≤r0∧r0≤255)∧(0≤x0∧x0≤255)∧(0≤y0∧y0≤255)∧(0≤f0∧f0≤255) from by
  have:=HD.out.2
  rw [hz] at this
  exact ⟨this _ (by simp),this _ (by simp),this _ (by simp),this _ (by simp),this _ (by simp)⟩)
 have HZ:=Lib.hid hz
 have HSB:=Lib.hid (HD.out.1.below HM.out.bel)
 obtain ⟨ad,rfl⟩:=HSB.out.addr (by omega)
 have hc0:(w2.cell? ad)=some (.int .u8 c0):=by have:=HSB.out.cell (k:=0) (by omega);rw [hz0] at this;exact this
 have hc1:=HSB.out.cell (k:=1) (by omega)
 have hc4:=HSB.out.cell (k:=4) (by omega)
 rw [hz1] at hc1
 rw [hz4] at hc4
 simp only [Addr.add,Nat.reduceEqDiff,if_false] at hc1 hc4
 have hg5:¬ (n:Int)<5:=by omega
 have hn0:0<n:=by omega
 have hn1:1<n:=by omega
 have hn4:4<n:=by omega
 have hg0:(0:Int)<(n:Int):=by omega
 have hg1:(1:Int)<(n:Int):=by omega
 have hg4:(4:Int)<(n:Int):=by omega
 have hv0:IntKind.i64.wrap c0=c0:=by have:=HR.out;rw [IntKind.wrap_i64];omega
 have hv1:IntKind.i64.wrap r0=r0:=by have:=HR.out;rw [IntKind.wrap_i64];omega
 have hv4:IntKind.i64.wrap f0=f0:=by have:=HR.out;rw [IntKind.wrap_i64];omega
 clear hz hl5
 go_upto_region 6 with fail
 go_quiet (fail)
 have HB:=Lib.hid (rBlank_any (w:=w2.drewN nq) c0 r0)
 clear hc0 hc1 hc4 hn0 hn1 hn4 hg0 hg1 hg4 hv0 hv1 hv4
 go_wp2_with fail
 refine HB.out.mono ?_
 have hbn:Below w2.heap.size w2 (w2.drewN nq):=belowN (Below.refl _ _) nq
 rintro e w3 ⟨hb3,⟨hzok,s2,rfl,hS2⟩ | ⟨hzok,rfl⟩⟩
 rotate_left
 · have HQ:=Lib.hid (show p=(scZero,3) from by rw [HP.out,HZ.out];exact app_3 HF.out (.inr hzok))
   have HM3:=Lib.hid (HM.out.on (hbn.trans hb3))
   have HM4:=Lib.hid (HM3.out.on ((Below.refl _ _).alloc (Nat.le_refl _) (.cells (scrA scN) 25)))
   unfold scrA scN at HM4
   unfold scrA scN
   clear hb3 hbn HB HM H2
   by_cases h7:7<f0
   · go_upto_region 8 with fail
     obtain ⟨q0,q1,q2,q3,q4,q5,q6,q7,q8,_⟩:=sx_cells HM4.out.non
     repeat (first | (go_big_may;refine wpList_store_V rfl 25 (.tmp 4) (.tmp 53) rfl scF_len one_sc info56 (b+1) _ 0 scN _ rfl rfl rfl rfl 25 [scN] HM4.out.res (by decide) ?_;intro w7 hR7 hg7) | go_values | go_skip | go_guarded | go_step | go_upon)
     have HE:=Lib.hid (end_no HM4.out hg7 HQ.out)
     clear hg7
     obtain ⟨y0,y1,y2,y3,y4,y5,y6,y7,y8,_⟩:=sx_cells (s:=scN) hR7
     exact bodyPost_ret (v:=.tuple #[.agg (scrA scN),.int .i64 3]) (by simp [results,Tryz.results10,scrA,scN,go_sem,y0,y1,y2,y3,y4,y5,y6,y7,y8]) rfl HE.out
   · go_upto_region 8 with fail
     obtain ⟨q0,q1,q2,q3,q4,q5,q6,q7,q8,_⟩:=sx_cells HM4.out.non
     repeat (first | (go_big_may;refine wpList_store_V rfl 25 (.tmp 4) (.tmp 53) rfl scF_len one_sc info56 (b+1) _ 0 scN _ rfl rfl rfl rfl 25 [scN] HM4.out.res (by decide) ?_;intro w7 hR7 hg7) | go_values | go_skip | go_guarded | go_step | go_upon)
     have HE:=Lib.hid (end_no HM4.out hg7 HQ.out)
     clear hg7
     obtain ⟨y0,y1,y2,y3,y4,y5,y6,y7,y8,_⟩:=sx_cells (s:=scN) hR7
     exact bodyPost_ret (v:=.tuple #[.agg (scrA scN),.int .i64 3]) (by simp [results,Tryz.results10,scrA,scN,go_sem,y0,y1,y2,y3,y4,y5,y6,y7,y8]) rfl HE.out
 have HB4:=Lib.hid (show Sx (w3.alloc (.cells (scrA s2) 25)) w3.heap.size s2∧ApM w (w3.alloc (.cells (scrA s2) 25)) b∧Sx (w3.alloc (.cells (scrA s2) 25)) b s∧(∃ q,ApS w (w3.alloc (.cells (scrA s2) 25)) b w3.heap.size q s2 (blS c0.toNat r0.toNat))∧b+3≤w3.heap.size from by
  have h3:Below w2.heap.size w2 w3:=hbn.trans hb3
  have hb4:Below w3.heap.size w3 (w3.alloc (.cells (scrA s2) 25)):=(Below.refl _ _).alloc (Nat.le_refl _) _
  have hm3:=HM.out.on h3
  have hlt:=HM.out.lt
  have hbk:=bl_one hzok
  have hl2:=hS2.cx.len
  obtain ⟨q,e,hq,hR⟩:=hS2.cx.own (by omega)
  have hql:=hR.lt
  rw [show (w2.drewN nq).heap.size=w2.heap.size from rfl] at hq
  have hS2b:=hS2.below hb4
  have hl3:=hS2.sc.links.len
  have hln:=hS2.n
  exact ⟨Sx.new w3 s2,hm3.on hb4,(H2.out.1.below h3).below hb4,⟨q,hm3.on hb4,Sx.new w3 s2,hm3.lt,e,by omega,by omega,hR.below hb4,hS2b.sc,by rw [← hl3];rfl,by omega⟩,hm3.lt⟩)
 have HZK:=Lib.hid hzok
 obtain ⟨b4,hb4⟩:∃ b4,b4=w3.heap.size:=⟨_,rfl⟩
 obtain ⟨w4,hw4⟩:∃ w4,w4=w3.alloc (.cells (scrA s2) 25):=⟨_,rfl⟩
 rw [← hb4,← hw4] at HB4
 clear hb3 hbn HB HM H2 hS2 hzok
 unfold scrA at hw4 ⊢
 by_cases h7:7<f0
 · have HQ:=Lib.hid (show p=(scZero,3) from by rw [HP.out,HZ.out];exact app_3 HF.out (.inl h7))
   have HM4:=Lib.hid HB4.out.2.1
   go_upto_region 8 with fail
   rw [← hw4,← hb4]
   clear hw4 hb4
   obtain ⟨q0,q1,q2,q3,q4,q5,q6,q7,q8,_⟩:=sx_cells HM4.out.non
   repeat (first | (go_big_may;refine wpList_store_V rfl 25 (.tmp 4) (.tmp 53) rfl scF_len one_sc info56 (b+1) _ 0 scN _ rfl rfl rfl rfl 25 [scN] HM4.out.res (by decide) ?_;intro w7 hR7 hg7) | go_values | go_skip | go_guarded | go_step | go_upon)
   have HE:=Lib.hid (end_no HM4.out hg7 HQ.out)
   clear hg7
   obtain ⟨y0,y1,y2,y3,y4,y5,y6,y7,y8,_⟩:=sx_cells (s:=scN) hR7
   exact bodyPost_ret (v:=.tuple #[.agg (scrA scN),.int .i64 3]) (by simp [results,Tryz.results10,scrA,scN,go_sem,y0,y1,y2,y3,y4,y5,y6,y7,y8]) rfl HE.out
 have HN3:=Lib.hid (show ¬ (7<f0∨sizeOk c0 r0=false) from by rw [HZK.out];simp;omega)
 have h7n:¬ (7:Int)<f0:=h7
 go_upto_region 8 with fail
 rw [← hw4,← hb4]
 clear hw4 hb4
 go_upto_if 55 with fail
 go_cut [] from 55 to 68 (fun wc=>∃ q s3,ApS w wc b b4 q s3 (if f0<4 then S else blS c0.toNat r0.toNat)∧¬ (f0<4∧(c0≠S.c∨r0≠S.r)))
 case first =>
  by_cases hf4:f0<4
  · have HF4:=Lib.hid hf4
    have hsc:s.c=S.c:=HI.out.sc.c.symm
    have hsr:s.r=S.r:=HI.out.sc.r.symm
    obtain ⟨a0,a1,a2,a3,a4,a5,a6,a7,a8,_⟩:=sx_cells HB4.out.2.2.1
    by_cases hcr:c0≠S.c∨r0≠S.r
    · have HQ:=Lib.hid (show p=(scZero,15) from by rw [HP.out,HZ.out];exact app_15 HF.out HN3.out ⟨hf4,hcr⟩)
      have HM4:=Lib.hid HB4.out.2.1
      by_cases e1:c0=s.c
      · have e2:¬ r0=s.r:=by rw [hsc,hsr] at *;intro e;rcases hcr with h | h<;>omega
        clear hcr hsc hsr
        go_upto_region 12 with fail
        clear a0 a1 a2 a3 a4 a5 a6 a7 a8
        obtain ⟨q0,q1,q2,q3,q4,q5,q6,q7,q8,_⟩:=sx_cells HM4.out.non
        repeat (first | (go_big_may;refine wpList_store_V rfl 25 (.tmp 4) (.tmp 66) rfl scF_len one_sc info56 (b+1) _ 0 scN _ rfl rfl rfl rfl 25 [scN] HM4.out.res (by decide) ?_;intro w7 hR7 hg7) | go_values | go_skip | go_guarded | go_step | go_upon)
        have HE:=Lib.hid (end_no HM4.out hg7 HQ.out)
        clear hg7
        obtain ⟨y0,y1,y2,y3,y4,y5,y6,y7,y8,_⟩:=sx_cells (s:=scN) hR7
        exact bodyPost_ret (v:=.tuple #[.agg (scrA scN),.int .i64 15]) (by simp [results,Tryz.results10,scrA,scN,go_sem,y0,y1,y2,y3,y4,y5,y6,y7,y8]) rfl HE.out
      · clear hcr hsc hsr
        go_upto_region 12 with fail
        clear a0 a1 a2 a3 a4 a5 a6 a7 a8
        obtain ⟨q0,q1,q2,q3,q4,q5,q6,q7,q8,_⟩:=sx_cells HM4.out.non
        repeat (first | (go_big_may;refine wpList_store_V rfl 25 (.tmp 4) (.tmp 66) rfl scF_len one_sc info56 (b+1) _ 0 scN _ rfl rfl rfl rfl 25 [scN] HM4.out.res (by decide) ?_;intro w7 hR7 hg7) | go_values | go_skip | go_guarded | go_step | go_upon)
        have HE:=Lib.hid (end_no HM4.out hg7 HQ.out)
        clear hg7
        obtain ⟨y0,y1,y2,y3,y4,y5,y6,y7,y8,_⟩:=sx_cells (s:=scN) hR7
        exact bodyPost_ret (v:=.tuple #[.agg (scrA scN),.int .i64 15]) (by simp [results,Tryz.results10,scrA,scN,go_sem,y0,y1,y2,y3,y4,y5,y6,y7,y8]) rfl HE.out
    · have e1:c0=s.c:=by rw [hsc];exact Classical.byContradiction fun e=>hcr (.inl e)
      have e2:r0=s.r:=by rw [hsr];exact Classical.byContradiction fun e=>hcr (.inr e)
      have PC:=Lib.hid (refCopyO_any (HI.out.sc.below HB4.out.2.1.bel) HI.out.n HI.out.m)
      have HCR:=Lib.hid hcr
      have q1:(c0 != s.c)=false:=by simpa using e1
      have q2:(r0 != s.r)=false:=by simpa using e2
      clear hcr hsc hsr e1 e2
      unfold scrA at PC
      go_upto_region 13 with fail
      go_wp2_with fail
      refine PC.out.mono ?_
      rintro e w5 ⟨hb5,s5,rfl,hS5,hC5,hT5,hn5,hm5⟩
      have H5:=Lib.hid (show Sx w5 b4 s2∧ApM w w5 b from ⟨HB4.out.1.below hb5,HB4.out.2.1.on hb5⟩)
      have HC5:=Lib.hid (And.intro hS5 hC5)
      have HN5:=Lib.hid (And.intro hn5 hm5)
      clear hb5 hS5 hC5 hT5 hn5 hm5 PC a0 a1 a2 a3 a4 a5 a6 a7 a8
      go_wp2_with (refine wpList_store_V rfl 25 (.tmp 10) (.tmp 68) rfl scF_len one_sc info56 b4 _ 0 s5 _ rfl (by omega) rfl rfl 25 [s2] H5.out.1 (by simp) ?_;intro w6 hR6 hg6)
      simp only [Act.put]
      go_meet
      rw [if_pos HF4.out]
      have hb4w:=HB4.out.1.lt
      have hlo:=HB4.out.2.2.2.2
      obtain ⟨c',r',LL,hFS⟩:=fits_of HF.out HI.out.pos
      have hpos:=fit_one hFS
      have hl5:=HC5.out.2.len
      obtain ⟨q,eq,hq,hR⟩:=HC5.out.2.own (by omega)
      have hSk:ScIn w6 s5 S:={ HC5.out.1 with cells:=(HC5.out.2.grown' hg6 (by omega)).vs,links:=links_none (HC5.out.1.links.len) hFS.lk }
      exact ⟨q,s5,⟨H5.out.2.grown hg6 hlo,hR6,hlo,eq,by have:=H5.out.2.lt;omega,by omega,hR.grown hg6 (fun e=>by injection e with e;omega),hSk,by rw [← HC5.out.1.links.len,hFS.lk];rfl,by rw [HN5.out.1];exact HI.out.n⟩,fun h=>HCR.out h.2⟩
  · have hf4n:¬ (f0:Int)<4:=hf4
    have HF4:=Lib.hid hf4n
    go_wp2_with fail
    go_meet
    rw [if_neg (show ¬ f0<4 from by have:=HF4.out;omega)]
    obtain ⟨q,hA⟩:=HB4.out.2.2.2.1
    exact ⟨q,s2,hA,fun h=>by have:=HF4.out;have:=h.1;omega⟩
 case rest =>
 obtain ⟨q,s3,hS,hno⟩:=hcut
 obtain ⟨S4,hS4⟩:∃ S4:Sc,S4=(if f0<4 then S else blS c0.toNat r0.toNat):=⟨_,rfl⟩
 rw [← hS4] at hS
 have Y:=Lib.hid hS
 have HAP:=Lib.hid (show p=restA c0.toNat r0.toNat f0 { S4 with x:=x0,y:=y0,hid:=decide (f0 % 2=1) } t from by rw [HP.out,HZ.out,hS4];exact app_on HF.out HN3.out hno)
 have HS4:=Lib.hid (show S4.c=c0∧S4.r=r0∧S4.cells.length=r0.toNat*c0.toNat∧0≤S4.mouse from by
  have hz:=HZK.out
  obtain ⟨c',r',e1,e2,g1,g2,g3,g4⟩:=size_nat hz
  rw [hS4]
  by_cases e:f0<4
  · rw [if_pos e]
    have h1:c0=S.c:=Classical.byContradiction fun h=>hno ⟨e,.inl h⟩
    have h2:r0=S.r:=Classical.byContradiction fun h=>hno ⟨e,.inr h⟩
    obtain ⟨c2,r2,LL,hFS⟩:=fits_of HF.out HI.out.pos
    refine ⟨h1.symm,h2.symm,?_,HI.out.mo⟩
    rw [h1,h2,hFS.ec,hFS.er,Int.toNat_natCast,Int.toNat_natCast,hFS.el]
    exact hFS.gk.box.flen
  · rw [if_neg e,e1,e2,Int.toNat_natCast,Int.toNat_natCast]
    exact ⟨rfl,rfl,(bl_fit g1 g2 g3 g4).gk.box.flen,Int.le_refl _⟩)
 clear hS hno hS4 HB4 HSB
 have HDB:=Lib.hid (fun (w':World) (hb:Below w.heap.size w w')=>HD.out.1.below hb)
 have hd2:=(HDB.out _ Y.out.m.bel).cell (k:=2) (by omega)
 rw [hz2] at hd2
 simp only [Addr.add,Nat.reduceEqDiff,if_false] at hd2
 have hv2:IntKind.i64.wrap x0=x0:=by have:=HR.out;rw [IntKind.wrap_i64];omega
 have hp2:(2:Int)<(n:Int):=by omega
 have hfz:=Y.out.scr.free 3
 obtain ⟨_,_,_,d3,_,_,_,_,_,_⟩:=sx_cells Y.out.scr
 go_upto_region 15 with fail
 have Y1:=Lib.hid (Y.out.put (s':={ s3 with x:=x0 }) (S':={ S4 with x:=x0 }) (k:=3) (v:=.int .i64 x0) rfl (by omega) rfl rfl rfl rfl (fun w' h1 h2=>{ Y.out.sc with x:=rfl,cells:=h1,links:=h2 }))
 obtain ⟨w14,hw14⟩:∃ q,q=wc.setCell ⟨b4,3,none⟩ (.int .i64 x0):=⟨_,rfl⟩
 rw [← hw14] at Y1 ⊢
 clear hw14 hfz d3 hd2 hv2 hp2 Y
 have hd2:=(HDB.out _ Y1.out.m.bel).cell (k:=3) (by omega)
 rw [hz3] at hd2
 simp only [Addr.add,Nat.reduceEqDiff,if_false] at hd2
 have hv2:IntKind.i64.wrap y0=y0:=by have:=HR.out;rw [IntKind.wrap_i64];omega
 have hp2:(3:Int)<(n:Int):=by omega
 have hfz:=Y1.out.scr.free 4
 obtain ⟨_,_,_,_,d3,_,_,_,_,_⟩:=sx_cells Y1.out.scr
 go_upto_region 16 with fail
 have Y2:=Lib.hid (Y1.out.put (s':={ s3 with x:=x0,y:=y0 }) (S':={ S4 with x:=x0,y:=y0 }) (k:=4) (v:=.int .i64 y0) rfl (by omega) rfl rfl rfl rfl (fun w' h1 h2=>{ Y1.out.sc with y:=rfl,cells:=h1,links:=h2 }))
 obtain ⟨w15,hw15⟩:∃ q,q=w14.setCell ⟨b4,4,none⟩ (.int .i64 y0):=⟨_,rfl⟩
 rw [← hw15] at Y2 ⊢
 clear hw15 hfz d3 hd2 hv2 hp2 Y1
 have hfz:=Y2.out.scr.free 5
 obtain ⟨_,_,_,_,_,d3,_,_,_,_⟩:=sx_cells Y2.out.scr
 go_upto_region 17 with fail
 have hhid:(Int.tmod f0 2 == 1)=decide (f0 % 2=1):=by
  rw [Int.tmod_eq_emod_of_nonneg HR.out.2.2.2.2.1]
  by_cases e:f0 % 2=1
  · rw [e];rfl
  · rw [decide_eq_false e];simpa using e
 rw [hhid]
 obtain ⟨S5,hS5⟩:∃ S5:Sc,S5={ S4 with x:=x0,y:=y0,hid:=decide (f0 % 2=1) }:=⟨_,rfl⟩
 obtain ⟨s5,hs5⟩:∃ s5:ScR,s5={ s3 with x:=x0,y:=y0,hid:=decide (f0 % 2=1) }:=⟨_,rfl⟩
 have Y3:=Lib.hid (show ApS w (w15.setCell ⟨b4,5,none⟩ (.bool (decide (f0 % 2=1)))) b b4 q s5 S5 from by
  rw [hs5,hS5]
  exact Y2.out.put (s':={ s3 with x:=x0,y:=y0,hid:=decide (f0 % 2=1) }) (S':={ S4 with x:=x0,y:=y0,hid:=decide (f0 % 2=1) }) (k:=5) (v:=.bool (decide (f0 % 2=1))) rfl (by omega) rfl rfl rfl rfl (fun w' h1 h2=>{ Y2.out.sc with hid:=rfl,cells:=h1,links:=h2 }))
 obtain ⟨w16,hw16⟩:∃ q,q=w15.setCell ⟨b4,5,none⟩ (.bool (decide (f0 % 2=1))):=⟨_,rfl⟩
 rw [← hw16] at Y3 ⊢
 rw [← hS5] at HAP
 have HS5:=Lib.hid (show S5.c=c0∧S5.r=r0∧S5.cells.length=r0.toNat*c0.toNat∧0≤S5.mouse from by rw [hS5];exact HS4.out)
 clear hw16 hfz d3 Y2 hhid hS5 hs5 HS4
 obtain ⟨T,hT⟩:∃ T,decide (f0 / 2 % 2=1)=T:=⟨_,rfl⟩
 have HT:=Lib.hid (show T=true↔f0 / 2 % 2=1 from by rw [← hT];simp)
 have hw64:wrap64 (Int.tdiv f0 2)=f0 / 2:=by
  have h0:=HR.out.2.2.2.2
  rw [Int.tdiv_eq_ediv_of_nonneg h0.1]
  unfold wrap64
  omega
 have hq2:(Int.tmod (f0 / 2) 2 == 1)=T:=by
  have h0:=HR.out.2.2.2.2.1
  rw [Int.tmod_eq_emod_of_nonneg (by omega),← hT]
  by_cases e:f0 / 2 % 2=1
  · rw [e];rfl
  · rw [decide_eq_false e];simpa using e
 clear hT
 go_upto_if 86 with fail
 have HT5:=Lib.hid (show zs.drop 5=t from by rw [HZ.out];rfl)
 go_cut [12,13] from 83 to 123 (fun v12 v13 wc=>∃ (k:Nat) (s6:ScR) (S6:Sc),v12=.int .i64 (k:Int)∧k≤n∧ApS w wc b b4 q s6 S6∧(S6.c=c0∧S6.r=r0∧S6.cells.length=r0.toNat*c0.toNat∧0≤S6.mouse)∧p=restB c0.toNat r0.toNat S6 (zs.drop k))
 case first =>
  cases T
  · have hfl:¬ f0 / 2 % 2=1:=fun e=>by have:=HT.out.2 e;cases this
    have HB:=Lib.hid (show p=restB c0.toNat r0.toNat S5 (zs.drop 5) from by rw [HT5.out,HAP.out];exact title_not hfl)
    clear hfl
    go_wp2_with fail
    go_meet
    case rel=>exact ⟨5,s5,S5,rfl,by omega,Y3.out,HS5.out,HB.out⟩
  · have HFL:=Lib.hid (show f0 / 2 % 2=1 from HT.out.1 rfl)
    by_cases hn5:n=5
    · have HQ:=Lib.hid (show p=(scZero,2) from by
       have h5:t=[]:=by rw [← HT5.out];exact List.drop_eq_nil_of_le (by omega)
       rw [HAP.out,h5]
       unfold restA
       rw [if_pos HFL.out])
      have HM5:=Lib.hid Y3.out.m
      have hn5b:((n:Int) == 5)=true:=by simp;omega
      clear hn5
      go_upto_region 20 with fail
      obtain ⟨q0,q1,q2,q3,q4,q5,q6,q7,q8,_⟩:=sx_cells HM5.out.non
      repeat (first | (go_big_may;refine wpList_store_V rfl 25 (.tmp 4) (.tmp 104) rfl scF_len one_sc info56 (b+1) _ 0 scN _ rfl rfl rfl rfl 25 [scN] HM5.out.res (by decide) ?_;intro w7 hR7 hg7) | go_values | go_skip | go_guarded | go_step | go_upon)
      have HE:=Lib.hid (end_no HM5.out hg7 HQ.out)
      clear hg7
      obtain ⟨y0,y1,y2,y3,y4,y5,y6,y7,y8,_⟩:=sx_cells (s:=scN) hR7
      exact bodyPost_ret (v:=.tuple #[.agg (scrA scN),.int .i64 2]) (by simp [results,Tryz.results10,scrA,scN,go_sem,y0,y1,y2,y3,y4,y5,y6,y7,y8]) rfl HE.out
    obtain ⟨m0,tt,htt⟩:∃ m0 tt,t=m0 :: tt:=by
     rcases t with _ | ⟨m0,tt⟩
     · exfalso
       have h:=congrArg List.length HT5.out
       rw [List.length_drop] at h
       simp at h
       omega
     · exact ⟨m0,tt,rfl⟩
    have HTT:=Lib.hid htt
    have hz5:zs.getD 5 0=m0:=by rw [HZ.out,htt];rfl
    have hm0:=getD_u8 HD.out.2 5
    rw [hz5] at hm0
    obtain ⟨m,rfl⟩:∃ m:Nat,m0=(m:Int):=⟨m0.toNat,by omega⟩
    have htl:tt.length=n-6:=by
     have h:=congrArg List.length HT5.out
     rw [List.length_drop,htt] at h
     simp at h
     omega
    have HTL:=Lib.hid htl
    have hd2:=(HDB.out _ Y3.out.m.bel).cell (k:=5) (by omega)
    rw [hz5] at hd2
    simp only [Addr.add,Nat.reduceEqDiff,if_false] at hd2
    have hv2:IntKind.i64.wrap (m:Int)=(m:Int):=by rw [IntKind.wrap_i64];omega
    have hp2:(5:Int)<(n:Int):=by omega
    have hn5b:((n:Int) == 5)=false:=by simp;omega
    clear htt htl
    by_cases hms:n-6<m
    · have HQ:=Lib.hid (show p=(scZero,2) from by
       rw [HAP.out,HTT.out]
       unfold restA
       rw [if_pos HFL.out]
       simp only
       rw [if_pos (by rw [HTL.out];omega)])
      have HM5:=Lib.hid Y3.out.m
      have hmi:(n:Int)-5-1<(m:Int):=by omega
      clear hms hn5
      go_upto_region 20 with fail
      clear hd2 hv2 hp2
      obtain ⟨q0,q1,q2,q3,q4,q5,q6,q7,q8,_⟩:=sx_cells HM5.out.non
      repeat (first | (go_big_may;refine wpList_store_V rfl 25 (.tmp 4) (.tmp 104) rfl scF_len one_sc info56 (b+1) _ 0 scN _ rfl rfl rfl rfl 25 [scN] HM5.out.res (by decide) ?_;intro w7 hR7 hg7) | go_values | go_skip | go_guarded | go_step | go_upon)
      have HE:=Lib.hid (end_no HM5.out hg7 HQ.out)
      clear hg7
      obtain ⟨y0,y1,y2,y3,y4,y5,y6,y7,y8,_⟩:=sx_cells (s:=scN) hR7
      exact bodyPost_ret (v:=.tuple #[.agg (scrA scN),.int .i64 2]) (by simp [results,Tryz.results10,scrA,scN,go_sem,y0,y1,y2,y3,y4,y5,y6,y7,y8]) rfl HE.out
    have hmi:¬ (n:Int)-5-1<(m:Int):=by omega
    clear hms hn5
    have HU6:=Lib.hid (show U8s ((zs.drop 6).take m) from (HD.out.2.drop 6).take m)
    obtain ⟨ti,hti⟩:∃ ti,strOfNums ((zs.drop 6).take m)=ti:=⟨_,rfl⟩
    have HK:=Lib.hid (show ti.size≤140737488351232 from by rw [← hti,strOfNums_size,List.length_take];omega)
    have HTI:=Lib.hid (show sL ti=(zs.drop 6).take m from by rw [← hti];exact sL_nums HU6.out)
    have HBT:=Lib.hid (show p=restB c0.toNat r0.toNat { S5 with title:=sL ti } (zs.drop (5+(1+m))) from by
     rw [HAP.out,HTT.out]
     unfold restA
     rw [if_pos HFL.out]
     simp only
     rw [if_neg (by rw [HTL.out];omega),Int.toNat_natCast,HTI.out]
     have e6:zs.drop 6=tt:=by
      have h:=HT5.out
      rw [HTT.out] at h
      rw [show (6:Nat)=5+1 from rfl,← List.drop_drop,h]
      rfl
     rw [e6,show 5+(1+m)=6+m from by omega,← List.drop_drop,e6])
    have hsl:=((HDB.out _ Y3.out.m.bel).cut (k:=6) (by omega) hcap).front (k:=m) (by omega)
    have hfz:=Y3.out.scr.free 7
    obtain ⟨_,_,_,_,_,_,_,d7,_,_⟩:=sx_cells Y3.out.scr
    have hmn:6+m≤n:=by omega
    by_cases hc6:c=6
    · rw [if_pos hc6] at hsl
      subst hc6
      have kc:=conv_any (c:=0) hsl 9 Tryz.underlying9
      rw [hti] at kc
      clear hti hsl
      have Y4:=Lib.hid (Y3.out.put (s':={ s5 with ttl:=ti }) (S':={ S5 with title:=sL ti }) (k:=7) (v:=.string ti) rfl (by omega) rfl rfl rfl rfl (fun w' h1 h2=>{ Y3.out.sc with ttl:=rfl,tz:=HK.out,cells:=h1,links:=h2 }))
      obtain ⟨w17,hw17⟩:∃ q,q=w16.setCell ⟨b4,7,none⟩ (.string ti):=⟨_,rfl⟩
      go_upto_region 23 with fail
      rw [← hw17] at Y4 ⊢
      clear hw17 hfz d7 kc Y3
      go_wp2_with fail
      go_meet
      case rel=>exact ⟨5+(1+m),_,_,by go_num,by omega,Y4.out,HS5.out,HBT.out⟩
    · rw [if_neg hc6] at hsl
      simp only [Option.map_some,Addr.add,Nat.reduceEqDiff,if_false] at hsl
      have kc:=conv_any (c:=c-6) hsl 9 Tryz.underlying9
      rw [hti] at kc
      clear hti hsl
      have Y4:=Lib.hid (Y3.out.put (s':={ s5 with ttl:=ti }) (S':={ S5 with title:=sL ti }) (k:=7) (v:=.string ti) rfl (by omega) rfl rfl rfl rfl (fun w' h1 h2=>{ Y3.out.sc with ttl:=rfl,tz:=HK.out,cells:=h1,links:=h2 }))
      obtain ⟨w17,hw17⟩:∃ q,q=w16.setCell ⟨b4,7,none⟩ (.string ti):=⟨_,rfl⟩
      go_upto_region 23 with fail
      rw [← hw17] at Y4 ⊢
      clear hw17 hfz d7 kc Y3
      go_wp2_with fail
      go_meet
      case rel=>exact ⟨5+(1+m),_,_,by go_num,by omega,Y4.out,HS5.out,HBT.out⟩
 case rest =>
 obtain ⟨k0,s6,S6,rfl,hk0,hAp,hS6,hpr⟩:=hcut
 obtain ⟨C,hC⟩:∃ C:Nat,c0=(C:Int):=⟨c0.toNat,by have:=HR.out;omega⟩
 obtain ⟨R,hRr⟩:∃ R:Nat,r0=(R:Int):=⟨r0.toNat,by have:=HR.out;omega⟩
 have HCR:=Lib.hid (show (1≤C∧C≤80)∧(1≤R∧R≤24) from by
  obtain ⟨c',r',e1,e2,g1,g2,g3,g4⟩:=size_nat HZK.out
  omega)
 subst hC hRr
 rw [Int.toNat_natCast,Int.toNat_natCast] at hpr hS6
 have Y4:=Lib.hid hAp
 have HS6:=Lib.hid hS6
 have HPR:=Lib.hid hpr
 have HEN:=Lib.hid (And.intro hcap hn)
 clear hAp hS6 hpr Y3 HAP HS5 HT5 HZK HN3 HZ HP hz0 hz1 hz2 hz3 hz4 hlen hq2 hw64 h7 h7n hg5 HT
 by_cases hkE:k0=n
 · have HQ:=Lib.hid (show p=(scZero,2) from by
    rw [HPR.out,List.drop_eq_nil_of_le (by rw [HD.out.1.len];omega)]
    rfl)
   have HM5:=Lib.hid Y4.out.m
   have hn5b:((n:Int) == (k0:Int))=true:=by simp;omega
   clear hkE
   go_upto_region 25 with fail
   obtain ⟨q0,q1,q2,q3,q4,q5,q6,q7,q8,_⟩:=sx_cells HM5.out.non
   repeat (first | (go_big_may;refine wpList_store_V rfl 25 (.tmp 4) (.tmp 128) rfl scF_len one_sc info56 (b+1) _ 0 scN _ rfl rfl rfl rfl 25 [scN] HM5.out.res (by decide) ?_;intro w7 hR7 hg7) | go_values | go_skip | go_guarded | go_step | go_upon)
   have HE:=Lib.hid (end_no HM5.out hg7 HQ.out)
   clear hg7
   obtain ⟨y0,y1,y2,y3,y4,y5,y6,y7,y8,_⟩:=sx_cells (s:=scN) hR7
   exact bodyPost_ret (v:=.tuple #[.agg (scrA scN),.int .i64 2]) (by simp [results,Tryz.results10,scrA,scN,go_sem,y0,y1,y2,y3,y4,y5,y6,y7,y8]) rfl HE.out
 have hkl:k0<n:=by omega
 have hn5b:((n:Int) == (k0:Int))=false:=by simp;omega
 obtain ⟨N,hN⟩:∃ N:Nat,zs.getD k0 0=(N:Int):=⟨(zs.getD k0 0).toNat,by have:=getD_u8 HD.out.2 k0;omega⟩
 have hN8:N≤255:=by have:=getD_u8 HD.out.2 k0;omega
 have HPN:=Lib.hid (show p=endA S6 (rdRows C R N (-1) S6.cells (zs.drop (k0+1))) from by
  rw [HPR.out,drop_cons (by rw [HD.out.1.len];exact hkl),hN]
  rfl)
 have hd2:=(HDB.out _ Y4.out.m.bel).cell (k:=k0) hkl
 rw [hN] at hd2
 have hv2:IntKind.i64.wrap (N:Int)=(N:Int):=by rw [IntKind.wrap_i64];omega
 have hp2:(k0:Int)<(n:Int):=by omega
 clear hkE hN HPR
 go_upto_region 30 with fail
 clear hd2 hv2 hp2 hn5b
 go_loopw [12,15,16] (fun v12 v15 v16 wr=>∃ (k at1:Nat) (last:Int) (M:List Ce),k≤N∧v16=.int .i64 (k:Int)∧v15=.int .i64 last∧v12=.int .i64 (at1:Int)∧at1≤n∧(-1≤last∧last≤255)∧M.length=R*C∧ApS w wr b b4 q s6 { S6 with cells:=M }∧p=endA S6 (rdRows C R (N-k) last M (zs.drop at1))) (fun _ _ v _=>N-(intOf v).toNat)
 case atStart=>exact ⟨0,k0+1,-1,S6.cells,Nat.zero_le _,rfl,rfl,by go_num,by omega,by omega,HS6.out.2.2.1,Y4.out,HPN.out⟩
 case round =>
  obtain ⟨k,at1,last,M,hk,rfl,rfl,rfl,hat1,hlast,h1,h2,h3⟩:=hrel
  have Y:=Lib.hid (And.intro h1 (And.intro h2 h3))
  clear h1 h2 h3 Y4 HPN
  by_cases hlt:k<N
  · by_cases hkE:at1=n
    · have HQ:=Lib.hid (show p=(scZero,2) from by
       rw [Y.out.2.2,List.drop_eq_nil_of_le (by rw [HD.out.1.len];omega),show N-k=(N-k-1)+1 from by omega,rdRows_out]
       rfl)
      have HM5:=Lib.hid Y.out.2.1.m
      have hn5b:((n:Int) == (at1:Int))=true:=by simp;omega
      clear hkE
      go_upto_region 33 with fail
      obtain ⟨q0,q1,q2,q3,q4,q5,q6,q7,q8,_⟩:=sx_cells HM5.out.non
      repeat (first | (go_big_may;refine wpList_store_V rfl 25 (.tmp 4) (.tmp 145) rfl scF_len one_sc info56 (b+1) _ 0 scN _ rfl rfl rfl rfl 25 [scN] HM5.out.res (by decide) ?_;intro w7 hR7 hg7) | go_values | go_skip | go_guarded | go_step | go_upon)
      have HE:=Lib.hid (end_no HM5.out hg7 HQ.out)
      clear hg7
      obtain ⟨y0,y1,y2,y3,y4,y5,y6,y7,y8,_⟩:=sx_cells (s:=scN) hR7
      exact bodyPost_ret (v:=.tuple #[.agg (scrA scN),.int .i64 2]) (by simp [results,Tryz.results10,scrA,scN,go_sem,y0,y1,y2,y3,y4,y5,y6,y7,y8]) rfl HE.out
    have hkl:at1<n:=by omega
    have hn5b:((n:Int) == (at1:Int))=false:=by simp;omega
    obtain ⟨y,hy⟩:∃ y:Nat,zs.getD at1 0=(y:Int):=⟨(zs.getD at1 0).toNat,by have:=getD_u8 HD.out.2 at1;omega⟩
    have hy8:y≤255:=by have:=getD_u8 HD.out.2 at1;omega
    have HPY:=Lib.hid (show p=endA S6 (rdRows C R ((N-(k+1))+1) last M ((y:Int) :: zs.drop (at1+1))) from by
     rw [Y.out.2.2,drop_cons (by rw [HD.out.1.len];exact hkl),hy,show N-k=(N-(k+1))+1 from by omega])
    have hd2:=(HDB.out _ Y.out.2.1.m.bel).cell (k:=at1) hkl
    rw [hy] at hd2
    have hv2:IntKind.i64.wrap (y:Int)=(y:Int):=by rw [IntKind.wrap_i64];omega
    have hp2:(at1:Int)<(n:Int):=by omega
    clear hkE hy
    have hRC:=HCR.out
    by_cases hyr:R≤y
    · have HQ:=Lib.hid (show p=(scZero,3) from by
       rw [HPY.out,rdRows_off (.inl (by omega))]
       rfl)
      have HM5:=Lib.hid Y.out.2.1.m
      go_upto_region 37 with fail
      clear hd2 hv2 hp2
      obtain ⟨q0,q1,q2,q3,q4,q5,q6,q7,q8,_⟩:=sx_cells HM5.out.non
      repeat (first | (go_big_may;refine wpList_store_V rfl 25 (.tmp 4) (.tmp 161) rfl scF_len one_sc info56 (b+1) _ 0 scN _ rfl rfl rfl rfl 25 [scN] HM5.out.res (by decide) ?_;intro w7 hR7 hg7) | go_values | go_skip | go_guarded | go_step | go_upon)
      have HE:=Lib.hid (end_no HM5.out hg7 HQ.out)
      clear hg7
      obtain ⟨y0,y1,y2,y3,y4,y5,y6,y7,y8,_⟩:=sx_cells (s:=scN) hR7
      exact bodyPost_ret (v:=.tuple #[.agg (scrA scN),.int .i64 3]) (by simp [results,Tryz.results10,scrA,scN,go_sem,y0,y1,y2,y3,y4,y5,y6,y7,y8]) rfl HE.out
    by_cases hyl:(y:Int)≤last
    · have HQ:=Lib.hid (show p=(scZero,3) from by
       rw [HPY.out,rdRows_off (.inr hyl)]
       rfl)
      have HM5:=Lib.hid Y.out.2.1.m
      go_upto_region 37 with fail
      clear hd2 hv2 hp2
      obtain ⟨q0,q1,q2,q3,q4,q5,q6,q7,q8,_⟩:=sx_cells HM5.out.non
      repeat (first | (go_big_may;refine wpList_store_V rfl 25 (.tmp 4) (.tmp 161) rfl scF_len one_sc info56 (b+1) _ 0 scN _ rfl rfl rfl rfl 25 [scN] HM5.out.res (by decide) ?_;intro w7 hR7 hg7) | go_values | go_skip | go_guarded | go_step | go_upon)
      have HE:=Lib.hid (end_no HM5.out hg7 HQ.out)
      clear hg7
      obtain ⟨y0,y1,y2,y3,y4,y5,y6,y7,y8,_⟩:=sx_cells (s:=scN) hR7
      exact bodyPost_ret (v:=.tuple #[.agg (scrA scN),.int .i64 3]) (by simp [results,Tryz.results10,scrA,scN,go_sem,y0,y1,y2,y3,y4,y5,y6,y7,y8]) rfl HE.out
    have HPI:=Lib.hid (show p=endA S6 (rowsOn C R (N-(k+1)) (y:Int) (rdIn C (y*C) M (zs.drop (at1+1)))) from by
     rw [HPY.out,rdRows_in Y.out.1 (by omega) (by omega) hlast.1,Int.toNat_natCast])
    have hyR:y<R:=by omega
    clear HPY
    go_upto_region 40 with fail
    clear hd2 hv2 hp2 hn5b
    go_loopw [12,18] (fun v12 v18 wr=>∃ (x at2:Nat) (M2:List Ce),x≤C∧v18=.int .i64 (x:Int)∧v12=.int .i64 (at2:Int)∧at2≤n∧M2.length=R*C∧ApS w wr b b4 q s6 { S6 with cells:=M2 }∧p=endA S6 (rowsOn C R (N-(k+1)) (y:Int) (rdIn (C-x) (y*C+x) M2 (zs.drop at2)))) (fun _ v _=>C-(intOf v).toNat)
    case atStart=>exact ⟨0,at1+1,M,Nat.zero_le _,rfl,by go_num,by omega,Y.out.1,Y.out.2.1,by rw [Nat.sub_zero,Nat.add_zero];exact HPI.out⟩
    case round =>
     obtain ⟨x,at2,M2,hx,rfl,rfl,hat2,h1,h2,h3⟩:=hrel
     have Y2:=Lib.hid (And.intro h1 (And.intro h2 h3))
     clear h1 h2 h3 Y HPI
     by_cases hxC:x<C
     · have hxi:(x:Int)<(C:Int):=by omega
       have hln:(zs.drop at2).length=n-at2:=by rw [List.length_drop,HD.out.1.len]
       have HLN:=Lib.hid hln
       clear hln
       by_cases h9:n-at2<9
       · have HQ:=Lib.hid (show p=(scZero,2) from by
          rw [Y2.out.2.2,show C-x=(C-x-1)+1 from by omega,rdIn_short (by rw [HLN.out];exact h9)]
          rfl)
         have HM5:=Lib.hid Y2.out.2.1.m
         have h9i:(n:Int)-(at2:Int)<9:=by omega
         clear h9
         go_upto_region 43 with fail
         obtain ⟨q0,q1,q2,q3,q4,q5,q6,q7,q8,_⟩:=sx_cells HM5.out.non
         repeat (first | (go_big_may;refine wpList_store_V rfl 25 (.tmp 4) (.tmp 173) rfl scF_len one_sc info56 (b+1) _ 0 scN _ rfl rfl rfl rfl 25 [scN] HM5.out.res (by decide) ?_;intro w7 hR7 hg7) | go_values | go_skip | go_guarded | go_step | go_upon)
         have HE:=Lib.hid (end_no HM5.out hg7 HQ.out)
         clear hg7
         obtain ⟨y0,y1,y2,y3,y4,y5,y6,y7,y8,_⟩:=sx_cells (s:=scN) hR7
         exact bodyPost_ret (v:=.tuple #[.agg (scrA scN),.int .i64 2]) (by simp [results,Tryz.results10,scrA,scN,go_sem,y0,y1,y2,y3,y4,y5,y6,y7,y8]) rfl HE.out
       have h9i:¬ (n:Int)-(at2:Int)<9:=by omega
       obtain ⟨V1,hV1⟩:∃ V1,valL 0 ((zs.drop at2).take 4)=V1:=⟨_,rfl⟩
       obtain ⟨V2,hV2⟩:∃ V2,valL 0 ((zs.drop (at2+4)).take 2)=V2:=⟨_,rfl⟩
       obtain ⟨V3,hV3⟩:∃ V3,valL 0 ((zs.drop (at2+6)).take 2)=V3:=⟨_,rfl⟩
       obtain ⟨ST,hST⟩:∃ ST,zs.getD (at2+8) 0=ST:=⟨_,rfl⟩
       have HSB:=Lib.hid (fun (w':World) (hb:Below w.heap.size w w')=>HDB.out w' hb)
       have N2:=Lib.hid (show ∀ w',Below w.heap.size w w'→Calls Tryz.prog 20 #[.slice (some ad) n c,.int .i64 (at2:Int),.int .i64 4] w' fun e w''=>e=.returned (.int .i64 V1)∧w'=w'' from fun w' hb=>by
        have h:=num16_any (c:=c) (at_:=at2) (size:=4) (HDB.out w' hb) HD.out.2 (by omega) (by omega) (by omega)
        rw [hV1] at h
        exact h.mono fun _ _ h=>⟨h.1,h.2.symm⟩)
       have N8:=Lib.hid (show ∀ w',Below w.heap.size w w'→Calls Tryz.prog 20 #[.slice (some ad) n c,.int .i64 ((at2:Int)+4),.int .i64 2] w' fun e w''=>e=.returned (.int .i64 V2)∧w'=w'' from fun w' hb=>by
        have h:=num16_any (c:=c) (at_:=at2+4) (size:=2) (HDB.out w' hb) HD.out.2 (by omega) (by omega) (by omega)
        rw [hV2] at h
        exact h.mono fun _ _ h=>⟨h.1,h.2.symm⟩)
       have N13:=Lib.hid (show ∀ w',Below w.heap.size w w'→Calls Tryz.prog 20 #[.slice (some ad) n c,.int .i64 ((at2:Int)+6),.int .i64 2] w' fun e w''=>e=.returned (.int .i64 V3)∧w'=w'' from fun w' hb=>by
        have h:=num16_any (c:=c) (at_:=at2+6) (size:=2) (HDB.out w' hb) HD.out.2 (by omega) (by omega) (by omega)
        rw [hV3] at h
        exact h.mono fun _ _ h=>⟨h.1,h.2.symm⟩)
       obtain ⟨AD,hAD⟩:∃ AD,ad.add (at2+8)=AD:=⟨_,rfl⟩
       have SX:=Lib.hid (show ∀ w',Below w.heap.size w w'→(Below w.heap.size w w'∧w'.cell? AD=some (.int .u8 ST)) from fun w' hb=>by
        refine ⟨hb,?_⟩
        have h:=(HDB.out w' hb).cell (k:=at2+8) (by omega)
        rw [hST,hAD] at h
        exact h)
       obtain ⟨CC,hCC⟩:∃ CC:Ce,CC=⟨i32S V1,0,⟨V2,V3,ST,0⟩⟩:=⟨_,rfl⟩
       have HOF:=Lib.hid (show cellOf (zs.drop at2)=CC from by
        rw [hCC]
        unfold cellOf
        rw [List.drop_drop,List.drop_drop,hV1,hV2,hV3,List.getD_eq_getElem?_getD,List.getElem?_drop,← List.getD_eq_getElem?_getD,hST])
       have hb1:=val_four HD.out.2 at2 4
       have hb2:=val_four HD.out.2 (at2+4) 2
       have hb3:=val_four HD.out.2 (at2+6) 2
       have hb4s:=getD_u8 HD.out.2 (at2+8)
       rw [hV1] at hb1
       rw [hV2] at hb2
       rw [hV3] at hb3
       rw [hST] at hb4s
       have HVB:=Lib.hid (show (0≤V1∧V1<4294967296)∧(0≤V2∧V2<65536)∧(0≤V3∧V3<65536)∧(0≤ST∧ST≤255) from ⟨hb1,hb2,hb3,hb4s⟩)
       have u1:IntKind.u32.wrap V1=V1:=by rw [IntKind.wrap_u32];omega
       have u2:IntKind.u32.wrap V2=V2:=by rw [IntKind.wrap_u32];omega
       have u3:IntKind.u32.wrap V3=V3:=by rw [IntKind.wrap_u32];omega
       have u4:IntKind.i32.wrap V1=i32S V1:=i32_of hb1.1 hb1.2
       have HCC:=Lib.hid hCC
       have tA:ad.add ((at2:Int)+8).toNat=AD:=by rw [← hAD];congr 1
       have r4:IntKind.i64.wrap ((at2:Int)+4)=(at2:Int)+4:=by rw [IntKind.wrap_i64];omega
       have r6:IntKind.i64.wrap ((at2:Int)+6)=(at2:Int)+6:=by rw [IntKind.wrap_i64];omega
       have r8:IntKind.i64.wrap ((at2:Int)+8)=(at2:Int)+8:=by rw [IntKind.wrap_i64];omega
       have p0:(0:Int)≤(at2:Int)+8:=by omega
       have p8:(at2:Int)+8<(n:Int):=by omega
       clear hAD hV1 hV2 hV3 hST hCC hb1 hb2 hb3 hb4s h9
       go_upto_region 44 with fail
       go_cut [19] from 174 to 195 (fun v19 wc2=>∃ b9:Nat,v19=.pointer (some ⟨b9,0,none⟩)∧ApS w wc2 b b4 q s6 { S6 with cells:=M2 }∧Cb wc2 b9 CC)
       case first =>
        refine wp_region_noPanic ?_
        refine wp_region_held_drew (S:=fun w'=>Below w.heap.size w w'∧w'.cell? AD=some (.int .u8 ST)) (by kernel_rfl) (SX.out _ (Y2.out.2.1.m.bel.trans ((Below.refl _ _).drew.mono Y2.out.2.1.m.bel.size))) (fun hHeld=>?_)
        refine tkH 0 (.slice (some ad) n c) rfl (.inl ⟨by rfl,fun wz hSz=>?_⟩) hHeld ?_
        · go_simp
        simp only [Act.put,List.getElem_toArray,List.getElem_cons_zero,List.setIfInBounds_toArray,List.set_cons_succ,List.set_cons_zero]
        refine tkH 1 (.int .i64 (at2:Int)) rfl (.inl ⟨by rfl,fun wz hSz=>?_⟩) hHeld ?_
        · go_simp
        simp only [Act.put,List.getElem_toArray,List.getElem_cons_succ,List.getElem_cons_zero,List.setIfInBounds_toArray,List.set_cons_succ,List.set_cons_zero]
        refine tkH 5 (.slice (some ad) n c) rfl (.inl ⟨by rfl,fun wz hSz=>?_⟩) hHeld ?_
        · go_simp
        simp only [Act.put,List.getElem_toArray,List.getElem_cons_succ,List.getElem_cons_zero,List.setIfInBounds_toArray,List.set_cons_succ,List.set_cons_zero]
        refine tkH 6 (.int .i64 (at2:Int)) rfl (.inl ⟨by rfl,fun wz hSz=>?_⟩) hHeld ?_
        · go_simp
        simp only [Act.put,List.getElem_toArray,List.getElem_cons_succ,List.getElem_cons_zero,List.setIfInBounds_toArray,List.set_cons_succ,List.set_cons_zero]
        refine tkH 7 (.int .i64 ((at2:Int)+4)) rfl (.inl ⟨by rfl,fun wz hSz=>?_⟩) hHeld ?_
        · go_simp
        simp only [Act.put,List.getElem_toArray,List.getElem_cons_succ,List.getElem_cons_zero,List.setIfInBounds_toArray,List.set_cons_succ,List.set_cons_zero]
        refine tkH 10 (.slice (some ad) n c) rfl (.inl ⟨by rfl,fun wz hSz=>?_⟩) hHeld ?_
        · go_simp
        simp only [Act.put,List.getElem_toArray,List.getElem_cons_succ,List.getElem_cons_zero,List.setIfInBounds_toArray,List.set_cons_succ,List.set_cons_zero]
        refine tkH 11 (.int .i64 (at2:Int)) rfl (.inl ⟨by rfl,fun wz hSz=>?_⟩) hHeld ?_
        · go_simp
        simp only [Act.put,List.getElem_toArray,List.getElem_cons_succ,List.getElem_cons_zero,List.setIfInBounds_toArray,List.set_cons_succ,List.set_cons_zero]
        refine tkH 12 (.int .i64 ((at2:Int)+6)) rfl (.inl ⟨by rfl,fun wz hSz=>?_⟩) hHeld ?_
        · go_simp
        simp only [Act.put,List.getElem_toArray,List.getElem_cons_succ,List.getElem_cons_zero,List.setIfInBounds_toArray,List.set_cons_succ,List.set_cons_zero]
        refine tkH 15 (.slice (some ad) n c) rfl (.inl ⟨by rfl,fun wz hSz=>?_⟩) hHeld ?_
        · go_simp
        simp only [Act.put,List.getElem_toArray,List.getElem_cons_succ,List.getElem_cons_zero,List.setIfInBounds_toArray,List.set_cons_succ,List.set_cons_zero]
        refine tkH 16 (.int .i64 (at2:Int)) rfl (.inl ⟨by rfl,fun wz hSz=>?_⟩) hHeld ?_
        · go_simp
        simp only [Act.put,List.getElem_toArray,List.getElem_cons_succ,List.getElem_cons_zero,List.setIfInBounds_toArray,List.set_cons_succ,List.set_cons_zero]
        refine tkH 17 (.int .i64 ((at2:Int)+8)) rfl (.inl ⟨by rfl,fun wz hSz=>?_⟩) hHeld ?_
        · go_simp
        simp only [Act.put,List.getElem_toArray,List.getElem_cons_succ,List.getElem_cons_zero,List.setIfInBounds_toArray,List.set_cons_succ,List.set_cons_zero]
        refine tkH 18 (.pointer (some AD)) rfl (.inl ⟨by rfl,fun wz hSz=>?_⟩) hHeld ?_
        · go_simp
        simp only [Act.put,List.getElem_toArray,List.getElem_cons_succ,List.getElem_cons_zero,List.setIfInBounds_toArray,List.set_cons_succ,List.set_cons_zero]
        refine tkH 19 (.int .u8 ST) rfl (.inl ⟨by rfl,fun wz hSz=>?_⟩) hHeld ?_
        · obtain ⟨_,e1⟩:=hSz
          go_simp
        simp only [Act.put,List.getElem_toArray,List.getElem_cons_succ,List.getElem_cons_zero,List.setIfInBounds_toArray,List.set_cons_succ,List.set_cons_zero]
        obtain ⟨w10,hw10⟩:∃ q,q=wr.drew:=⟨_,rfl⟩
        have H10:=Lib.hid (show ApS w w10 b b4 q s6 { S6 with cells:=M2 }∧True from by
         rw [hw10]
         exact ⟨Y2.out.2.1.on (Below.refl _ _).drew,trivial⟩)
        rw [← hw10] at hHeld ⊢
        clear hw10
        refine wpAnyH_ready (rs:=[2,22]) (by kernel_rfl) (by simp) (AllReadyH.cons rfl (fun K hK=>?_) (AllReadyH.cons rfl (fun K hK=>?_) AllReadyH.nil))
        · rw [if_pos (by rfl)]
          go_simp
          refine (N2.out _ H10.out.1.m.bel).mono ?_
          rintro e _ ⟨rfl,rfl⟩
          refine hK.out _ _ (SX.out _ H10.out.1.m.bel) (fun hHeld=>?_)
          clear hK K
          try simp only [Act.put,List.getElem_toArray,List.getElem_cons_succ,List.getElem_cons_zero]
          try simp only [List.setIfInBounds_toArray]
          try simp only [List.set_cons_succ]
          try simp only [List.set_cons_zero]
          refine tkH 3 (.int .u32 V1) rfl (.inl ⟨by rfl,fun wz hSz=>?_⟩) hHeld ?_
          · go_simp
          simp only [Act.put,List.getElem_toArray,List.getElem_cons_succ,List.getElem_cons_zero,List.setIfInBounds_toArray,List.set_cons_succ,List.set_cons_zero]
          refine tkH 4 (.int .i32 (i32S V1)) rfl (.inl ⟨by rfl,fun wz hSz=>?_⟩) hHeld ?_
          · go_simp
          simp only [Act.put,List.getElem_toArray,List.getElem_cons_succ,List.getElem_cons_zero,List.setIfInBounds_toArray,List.set_cons_succ,List.set_cons_zero]
          refine wpAnyH_ready (rs:=[8,22]) (by kernel_rfl) (by simp) (AllReadyH.cons rfl (fun K hK=>?_) (AllReadyH.cons rfl (fun K hK=>?_) AllReadyH.nil))
          · rw [if_pos (by rfl)]
            go_simp
            refine (N8.out _ H10.out.1.m.bel).mono ?_
            rintro e _ ⟨rfl,rfl⟩
            refine hK.out _ _ (SX.out _ H10.out.1.m.bel) (fun hHeld=>?_)
            clear hK K
            try simp only [Act.put,List.getElem_toArray,List.getElem_cons_succ,List.getElem_cons_zero]
            try simp only [List.setIfInBounds_toArray]
            try simp only [List.set_cons_succ]
            try simp only [List.set_cons_zero]
            refine tkH 9 (.int .u32 V2) rfl (.inl ⟨by rfl,fun wz hSz=>?_⟩) hHeld ?_
            · go_simp
            simp only [Act.put,List.getElem_toArray,List.getElem_cons_succ,List.getElem_cons_zero,List.setIfInBounds_toArray,List.set_cons_succ,List.set_cons_zero]
            refine wpAnyH_ready (rs:=[13,22]) (by kernel_rfl) (by simp) (AllReadyH.cons rfl (fun K hK=>?_) (AllReadyH.cons rfl (fun K hK=>?_) AllReadyH.nil))
            · rw [if_pos (by rfl)]
              go_simp
              refine (N13.out _ H10.out.1.m.bel).mono ?_
              rintro e _ ⟨rfl,rfl⟩
              refine hK.out _ _ (SX.out _ H10.out.1.m.bel) (fun hHeld=>?_)
              clear hK K
              try simp only [Act.put,List.getElem_toArray,List.getElem_cons_succ,List.getElem_cons_zero]
              try simp only [List.setIfInBounds_toArray]
              try simp only [List.set_cons_succ]
              try simp only [List.set_cons_zero]
              refine tkH 14 (.int .u32 V3) rfl (.inl ⟨by rfl,fun wz hSz=>?_⟩) hHeld ?_
              · go_simp
              simp only [Act.put,List.getElem_toArray,List.getElem_cons_succ,List.getElem_cons_zero,List.setIfInBounds_toArray,List.set_cons_succ,List.set_cons_zero]
              refine tkH 20 (.agg #[.int .u32 V2,.int .u32 V3,.int .u8 ST,.int .u16 0]) rfl (.inl ⟨by rfl,fun wz hSz=>?_⟩) hHeld ?_
              · go_simp
              simp only [Act.put,List.getElem_toArray,List.getElem_cons_succ,List.getElem_cons_zero,List.setIfInBounds_toArray,List.set_cons_succ,List.set_cons_zero]
              refine tkH 21 (.agg #[.int .i32 (i32S V1),.int .u8 0,.int .u32 V2,.int .u32 V3,.int .u8 ST,.int .u16 0]) rfl (.inl ⟨by rfl,fun wz hSz=>?_⟩) hHeld ?_
              · go_simp
              simp only [Act.put,List.getElem_toArray,List.getElem_cons_succ,List.getElem_cons_zero,List.setIfInBounds_toArray,List.set_cons_succ,List.set_cons_zero]
              refine wpAnyH_ready (rs:=[22]) (by kernel_rfl) (by simp) (AllReadyH.cons rfl (fun K hK=>?_) AllReadyH.nil)
              rw [if_pos (by rfl)]
              go_simp
              obtain ⟨b9,hb9⟩:∃ q,q=w10.heap.size:=⟨_,rfl⟩
              obtain ⟨w11,hw11⟩:∃ q,q=w10.alloc (.cells #[.int .i32 0,.int .u8 0,.int .u32 0,.int .u32 0,.int .u8 0,.int .u16 0] 43):=⟨_,rfl⟩
              have H11:=Lib.hid (show ApS w w11 b b4 q s6 { S6 with cells:=M2 }∧Cb w11 b9 ceN∧b+3≤b9∧b9≠b4∧b9≠q from by
               have hbz:Below w10.heap.size w10 w11:=by rw [hw11];exact (Below.refl _ _).alloc (Nat.le_refl _) _
               have h1:=H10.out.1.scr.lt
               have h2:=H10.out.1.rw.lt
               have h3:=H10.out.1.m.lt
               exact ⟨H10.out.1.on hbz,by rw [hw11,hb9];exact Cb.new w10 ceN,by omega,by omega,by omega⟩)
              rw [← hw11,← hb9]
              clear hw11 hb9
              refine hK.out _ _ (SX.out _ H11.out.1.m.bel) (fun hHeld=>?_)
              clear hK K H10
              try simp only [Act.put,List.getElem_toArray,List.getElem_cons_succ,List.getElem_cons_zero]
              try simp only [List.setIfInBounds_toArray]
              try simp only [List.set_cons_succ]
              try simp only [List.set_cons_zero]
              refine wpAnyH_ready (rs:=[23]) (by kernel_rfl) (by simp) (AllReadyH.cons rfl (fun K hK=>?_) AllReadyH.nil)
              rw [if_pos (by rfl)]
              refine wp_store_C (.tmp 19) (.tmp 195) rfl b9 ceN CC rfl (by rw [HCC.out];rfl) H11.out.2.1 ?_
              intro w12 hsx hgx
              have H12:=Lib.hid (show ApS w w12 b b4 q s6 { S6 with cells:=M2 }∧Cb w12 b9 CC from ⟨H11.out.1.far hgx H11.out.2.2.1 H11.out.2.2.2.1 H11.out.2.2.2.2,hsx⟩)
              clear hsx hgx
              refine hK.out _ _ (SX.out _ H12.out.1.m.bel) (fun hHeld=>?_)
              clear hK K
              try simp only [Act.put,List.getElem_toArray,List.getElem_cons_succ,List.getElem_cons_zero]
              try simp only [List.setIfInBounds_toArray]
              try simp only [List.set_cons_succ]
              try simp only [List.set_cons_zero]
              refine wpAnyH_done (by kernel_rfl) ?_ _
              refine NoPanic.normal ?_
              try go_wp2_with fail
              go_meet
              case rel=>exact ⟨b9,rfl,H12.out.1,H12.out.2⟩
            · rw [if_pos (by rfl)]
              go_simp
              obtain ⟨b9,hb9⟩:∃ q,q=w10.heap.size:=⟨_,rfl⟩
              obtain ⟨w11,hw11⟩:∃ q,q=w10.alloc (.cells #[.int .i32 0,.int .u8 0,.int .u32 0,.int .u32 0,.int .u8 0,.int .u16 0] 43):=⟨_,rfl⟩
              have H11:=Lib.hid (show ApS w w11 b b4 q s6 { S6 with cells:=M2 }∧Cb w11 b9 ceN∧b+3≤b9∧b9≠b4∧b9≠q from by
               have hbz:Below w10.heap.size w10 w11:=by rw [hw11];exact (Below.refl _ _).alloc (Nat.le_refl _) _
               have h1:=H10.out.1.scr.lt
               have h2:=H10.out.1.rw.lt
               have h3:=H10.out.1.m.lt
               exact ⟨H10.out.1.on hbz,by rw [hw11,hb9];exact Cb.new w10 ceN,by omega,by omega,by omega⟩)
              rw [← hw11,← hb9]
              clear hw11 hb9
              refine hK.out _ _ (SX.out _ H11.out.1.m.bel) (fun hHeld=>?_)
              clear hK K H10
              try simp only [Act.put,List.getElem_toArray,List.getElem_cons_succ,List.getElem_cons_zero]
              try simp only [List.setIfInBounds_toArray]
              try simp only [List.set_cons_succ]
              try simp only [List.set_cons_zero]
              refine wpAnyH_ready (rs:=[13]) (by kernel_rfl) (by simp) (AllReadyH.cons rfl (fun K hK=>?_) AllReadyH.nil)
              rw [if_pos (by rfl)]
              go_simp
              refine (N13.out _ H11.out.1.m.bel).mono ?_
              rintro e _ ⟨rfl,rfl⟩
              refine hK.out _ _ (SX.out _ H11.out.1.m.bel) (fun hHeld=>?_)
              clear hK K
              try simp only [Act.put,List.getElem_toArray,List.getElem_cons_succ,List.getElem_cons_zero]
              try simp only [List.setIfInBounds_toArray]
              try simp only [List.set_cons_succ]
              try simp only [List.set_cons_zero]
              refine tkH 14 (.int .u32 V3) rfl (.inl ⟨by rfl,fun wz hSz=>?_⟩) hHeld ?_
              · go_simp
              simp only [Act.put,List.getElem_toArray,List.getElem_cons_succ,List.getElem_cons_zero,List.setIfInBounds_toArray,List.set_cons_succ,List.set_cons_zero]
              refine tkH 20 (.agg #[.int .u32 V2,.int .u32 V3,.int .u8 ST,.int .u16 0]) rfl (.inl ⟨by rfl,fun wz hSz=>?_⟩) hHeld ?_
              · go_simp
              simp only [Act.put,List.getElem_toArray,List.getElem_cons_succ,List.getElem_cons_zero,List.setIfInBounds_toArray,List.set_cons_succ,List.set_cons_zero]
              refine tkH 21 (.agg #[.int .i32 (i32S V1),.int .u8 0,.int .u32 V2,.int .u32 V3,.int .u8 ST,.int .u16 0]) rfl (.inl ⟨by rfl,fun wz hSz=>?_⟩) hHeld ?_
              · go_simp
              simp only [Act.put,List.getElem_toArray,List.getElem_cons_succ,List.getElem_cons_zero,List.setIfInBounds_toArray,List.set_cons_succ,List.set_cons_zero]
              refine wpAnyH_ready (rs:=[23]) (by kernel_rfl) (by simp) (AllReadyH.cons rfl (fun K hK=>?_) AllReadyH.nil)
              rw [if_pos (by rfl)]
              refine wp_store_C (.tmp 19) (.tmp 195) rfl b9 ceN CC rfl (by rw [HCC.out];rfl) H11.out.2.1 ?_
              intro w12 hsx hgx
              have H12:=Lib.hid (show ApS w w12 b b4 q s6 { S6 with cells:=M2 }∧Cb w12 b9 CC from ⟨H11.out.1.far hgx H11.out.2.2.1 H11.out.2.2.2.1 H11.out.2.2.2.2,hsx⟩)
              clear hsx hgx
              refine hK.out _ _ (SX.out _ H12.out.1.m.bel) (fun hHeld=>?_)
              clear hK K
              try simp only [Act.put,List.getElem_toArray,List.getElem_cons_succ,List.getElem_cons_zero]
              try simp only [List.setIfInBounds_toArray]
              try simp only [List.set_cons_succ]
              try simp only [List.set_cons_zero]
              refine wpAnyH_done (by kernel_rfl) ?_ _
              refine NoPanic.normal ?_
              try go_wp2_with fail
              go_meet
              case rel=>exact ⟨b9,rfl,H12.out.1,H12.out.2⟩
          · rw [if_pos (by rfl)]
            go_simp
            obtain ⟨b9,hb9⟩:∃ q,q=w10.heap.size:=⟨_,rfl⟩
            obtain ⟨w11,hw11⟩:∃ q,q=w10.alloc (.cells #[.int .i32 0,.int .u8 0,.int .u32 0,.int .u32 0,.int .u8 0,.int .u16 0] 43):=⟨_,rfl⟩
            have H11:=Lib.hid (show ApS w w11 b b4 q s6 { S6 with cells:=M2 }∧Cb w11 b9 ceN∧b+3≤b9∧b9≠b4∧b9≠q from by
             have hbz:Below w10.heap.size w10 w11:=by rw [hw11];exact (Below.refl _ _).alloc (Nat.le_refl _) _
             have h1:=H10.out.1.scr.lt
             have h2:=H10.out.1.rw.lt
             have h3:=H10.out.1.m.lt
             exact ⟨H10.out.1.on hbz,by rw [hw11,hb9];exact Cb.new w10 ceN,by omega,by omega,by omega⟩)
            rw [← hw11,← hb9]
            clear hw11 hb9
            refine hK.out _ _ (SX.out _ H11.out.1.m.bel) (fun hHeld=>?_)
            clear hK K H10
            try simp only [Act.put,List.getElem_toArray,List.getElem_cons_succ,List.getElem_cons_zero]
            try simp only [List.setIfInBounds_toArray]
            try simp only [List.set_cons_succ]
            try simp only [List.set_cons_zero]
            refine wpAnyH_ready (rs:=[8]) (by kernel_rfl) (by simp) (AllReadyH.cons rfl (fun K hK=>?_) AllReadyH.nil)
            rw [if_pos (by rfl)]
            go_simp
            refine (N8.out _ H11.out.1.m.bel).mono ?_
            rintro e _ ⟨rfl,rfl⟩
            refine hK.out _ _ (SX.out _ H11.out.1.m.bel) (fun hHeld=>?_)
            clear hK K
            try simp only [Act.put,List.getElem_toArray,List.getElem_cons_succ,List.getElem_cons_zero]
            try simp only [List.setIfInBounds_toArray]
            try simp only [List.set_cons_succ]
            try simp only [List.set_cons_zero]
            refine tkH 9 (.int .u32 V2) rfl (.inl ⟨by rfl,fun wz hSz=>?_⟩) hHeld ?_
            · go_simp
            simp only [Act.put,List.getElem_toArray,List.getElem_cons_succ,List.getElem_cons_zero,List.setIfInBounds_toArray,List.set_cons_succ,List.set_cons_zero]
            refine wpAnyH_ready (rs:=[13]) (by kernel_rfl) (by simp) (AllReadyH.cons rfl (fun K hK=>?_) AllReadyH.nil)
            rw [if_pos (by rfl)]
            go_simp
            refine (N13.out _ H11.out.1.m.bel).mono ?_
            rintro e _ ⟨rfl,rfl⟩
            refine hK.out _ _ (SX.out _ H11.out.1.m.bel) (fun hHeld=>?_)
            clear hK K
            try simp only [Act.put,List.getElem_toArray,List.getElem_cons_succ,List.getElem_cons_zero]
            try simp only [List.setIfInBounds_toArray]
            try simp only [List.set_cons_succ]
            try simp only [List.set_cons_zero]
            refine tkH 14 (.int .u32 V3) rfl (.inl ⟨by rfl,fun wz hSz=>?_⟩) hHeld ?_
            · go_simp
            simp only [Act.put,List.getElem_toArray,List.getElem_cons_succ,List.getElem_cons_zero,List.setIfInBounds_toArray,List.set_cons_succ,List.set_cons_zero]
            refine tkH 20 (.agg #[.int .u32 V2,.int .u32 V3,.int .u8 ST,.int .u16 0]) rfl (.inl ⟨by rfl,fun wz hSz=>?_⟩) hHeld ?_
            · go_simp
            simp only [Act.put,List.getElem_toArray,List.getElem_cons_succ,List.getElem_cons_zero,List.setIfInBounds_toArray,List.set_cons_succ,List.set_cons_zero]
            refine tkH 21 (.agg #[.int .i32 (i32S V1),.int .u8 0,.int .u32 V2,.int .u32 V3,.int .u8 ST,.int .u16 0]) rfl (.inl ⟨by rfl,fun wz hSz=>?_⟩) hHeld ?_
            · go_simp
            simp only [Act.put,List.getElem_toArray,List.getElem_cons_succ,List.getElem_cons_zero,List.setIfInBounds_toArray,List.set_cons_succ,List.set_cons_zero]
            refine wpAnyH_ready (rs:=[23]) (by kernel_rfl) (by simp) (AllReadyH.cons rfl (fun K hK=>?_) AllReadyH.nil)
            rw [if_pos (by rfl)]
            refine wp_store_C (.tmp 19) (.tmp 195) rfl b9 ceN CC rfl (by rw [HCC.out];rfl) H11.out.2.1 ?_
            intro w12 hsx hgx
            have H12:=Lib.hid (show ApS w w12 b b4 q s6 { S6 with cells:=M2 }∧Cb w12 b9 CC from ⟨H11.out.1.far hgx H11.out.2.2.1 H11.out.2.2.2.1 H11.out.2.2.2.2,hsx⟩)
            clear hsx hgx
            refine hK.out _ _ (SX.out _ H12.out.1.m.bel) (fun hHeld=>?_)
            clear hK K
            try simp only [Act.put,List.getElem_toArray,List.getElem_cons_succ,List.getElem_cons_zero]
            try simp only [List.setIfInBounds_toArray]
            try simp only [List.set_cons_succ]
            try simp only [List.set_cons_zero]
            refine wpAnyH_done (by kernel_rfl) ?_ _
            refine NoPanic.normal ?_
            try go_wp2_with fail
            go_meet
            case rel=>exact ⟨b9,rfl,H12.out.1,H12.out.2⟩
        · rw [if_pos (by rfl)]
          go_simp
          obtain ⟨b9,hb9⟩:∃ q,q=w10.heap.size:=⟨_,rfl⟩
          obtain ⟨w11,hw11⟩:∃ q,q=w10.alloc (.cells #[.int .i32 0,.int .u8 0,.int .u32 0,.int .u32 0,.int .u8 0,.int .u16 0] 43):=⟨_,rfl⟩
          have H11:=Lib.hid (show ApS w w11 b b4 q s6 { S6 with cells:=M2 }∧Cb w11 b9 ceN∧b+3≤b9∧b9≠b4∧b9≠q from by
           have hbz:Below w10.heap.size w10 w11:=by rw [hw11];exact (Below.refl _ _).alloc (Nat.le_refl _) _
           have h1:=H10.out.1.scr.lt
           have h2:=H10.out.1.rw.lt
           have h3:=H10.out.1.m.lt
           exact ⟨H10.out.1.on hbz,by rw [hw11,hb9];exact Cb.new w10 ceN,by omega,by omega,by omega⟩)
          rw [← hw11,← hb9]
          clear hw11 hb9
          refine hK.out _ _ (SX.out _ H11.out.1.m.bel) (fun hHeld=>?_)
          clear hK K H10
          try simp only [Act.put,List.getElem_toArray,List.getElem_cons_succ,List.getElem_cons_zero]
          try simp only [List.setIfInBounds_toArray]
          try simp only [List.set_cons_succ]
          try simp only [List.set_cons_zero]
          refine wpAnyH_ready (rs:=[2]) (by kernel_rfl) (by simp) (AllReadyH.cons rfl (fun K hK=>?_) AllReadyH.nil)
          rw [if_pos (by rfl)]
          go_simp
          refine (N2.out _ H11.out.1.m.bel).mono ?_
          rintro e _ ⟨rfl,rfl⟩
          refine hK.out _ _ (SX.out _ H11.out.1.m.bel) (fun hHeld=>?_)
          clear hK K
          try simp only [Act.put,List.getElem_toArray,List.getElem_cons_succ,List.getElem_cons_zero]
          try simp only [List.setIfInBounds_toArray]
          try simp only [List.set_cons_succ]
          try simp only [List.set_cons_zero]
          refine tkH 3 (.int .u32 V1) rfl (.inl ⟨by rfl,fun wz hSz=>?_⟩) hHeld ?_
          · go_simp
          simp only [Act.put,List.getElem_toArray,List.getElem_cons_succ,List.getElem_cons_zero,List.setIfInBounds_toArray,List.set_cons_succ,List.set_cons_zero]
          refine tkH 4 (.int .i32 (i32S V1)) rfl (.inl ⟨by rfl,fun wz hSz=>?_⟩) hHeld ?_
          · go_simp
          simp only [Act.put,List.getElem_toArray,List.getElem_cons_succ,List.getElem_cons_zero,List.setIfInBounds_toArray,List.set_cons_succ,List.set_cons_zero]
          refine wpAnyH_ready (rs:=[8]) (by kernel_rfl) (by simp) (AllReadyH.cons rfl (fun K hK=>?_) AllReadyH.nil)
          rw [if_pos (by rfl)]
          go_simp
          refine (N8.out _ H11.out.1.m.bel).mono ?_
          rintro e _ ⟨rfl,rfl⟩
          refine hK.out _ _ (SX.out _ H11.out.1.m.bel) (fun hHeld=>?_)
          clear hK K
          try simp only [Act.put,List.getElem_toArray,List.getElem_cons_succ,List.getElem_cons_zero]
          try simp only [List.setIfInBounds_toArray]
          try simp only [List.set_cons_succ]
          try simp only [List.set_cons_zero]
          refine tkH 9 (.int .u32 V2) rfl (.inl ⟨by rfl,fun wz hSz=>?_⟩) hHeld ?_
          · go_simp
          simp only [Act.put,List.getElem_toArray,List.getElem_cons_succ,List.getElem_cons_zero,List.setIfInBounds_toArray,List.set_cons_succ,List.set_cons_zero]
          refine wpAnyH_ready (rs:=[13]) (by kernel_rfl) (by simp) (AllReadyH.cons rfl (fun K hK=>?_) AllReadyH.nil)
          rw [if_pos (by rfl)]
          go_simp
          refine (N13.out _ H11.out.1.m.bel).mono ?_
          rintro e _ ⟨rfl,rfl⟩
          refine hK.out _ _ (SX.out _ H11.out.1.m.bel) (fun hHeld=>?_)
          clear hK K
          try simp only [Act.put,List.getElem_toArray,List.getElem_cons_succ,List.getElem_cons_zero]
          try simp only [List.setIfInBounds_toArray]
          try simp only [List.set_cons_succ]
          try simp only [List.set_cons_zero]
          refine tkH 14 (.int .u32 V3) rfl (.inl ⟨by rfl,fun wz hSz=>?_⟩) hHeld ?_
          · go_simp
          simp only [Act.put,List.getElem_toArray,List.getElem_cons_succ,List.getElem_cons_zero,List.setIfInBounds_toArray,List.set_cons_succ,List.set_cons_zero]
          refine tkH 20 (.agg #[.int .u32 V2,.int .u32 V3,.int .u8 ST,.int .u16 0]) rfl (.inl ⟨by rfl,fun wz hSz=>?_⟩) hHeld ?_
          · go_simp
          simp only [Act.put,List.getElem_toArray,List.getElem_cons_succ,List.getElem_cons_zero,List.setIfInBounds_toArray,List.set_cons_succ,List.set_cons_zero]
          refine tkH 21 (.agg #[.int .i32 (i32S V1),.int .u8 0,.int .u32 V2,.int .u32 V3,.int .u8 ST,.int .u16 0]) rfl (.inl ⟨by rfl,fun wz hSz=>?_⟩) hHeld ?_
          · go_simp
          simp only [Act.put,List.getElem_toArray,List.getElem_cons_succ,List.getElem_cons_zero,List.setIfInBounds_toArray,List.set_cons_succ,List.set_cons_zero]
          refine wpAnyH_ready (rs:=[23]) (by kernel_rfl) (by simp) (AllReadyH.cons rfl (fun K hK=>?_) AllReadyH.nil)
          rw [if_pos (by rfl)]
          refine wp_store_C (.tmp 19) (.tmp 195) rfl b9 ceN CC rfl (by rw [HCC.out];rfl) H11.out.2.1 ?_
          intro w12 hsx hgx
          have H12:=Lib.hid (show ApS w w12 b b4 q s6 { S6 with cells:=M2 }∧Cb w12 b9 CC from ⟨H11.out.1.far hgx H11.out.2.2.1 H11.out.2.2.2.1 H11.out.2.2.2.2,hsx⟩)
          clear hsx hgx
          refine hK.out _ _ (SX.out _ H12.out.1.m.bel) (fun hHeld=>?_)
          clear hK K
          try simp only [Act.put,List.getElem_toArray,List.getElem_cons_succ,List.getElem_cons_zero]
          try simp only [List.setIfInBounds_toArray]
          try simp only [List.set_cons_succ]
          try simp only [List.set_cons_zero]
          refine wpAnyH_done (by kernel_rfl) ?_ _
          refine NoPanic.normal ?_
          try go_wp2_with fail
          go_meet
          case rel=>exact ⟨b9,rfl,H12.out.1,H12.out.2⟩
       case rest =>
       obtain ⟨b9,rfl,h1,h2⟩:=hcut
       have Y3:=Lib.hid (And.intro h1 h2)
       clear h1 h2 N2 N8 N13 HSB SX tA r4 r6 r8 p0 p8 u1 u2 u3 u4
       obtain ⟨d0,d1,d2,d3,d4,d5⟩:=Y3.out.2.all
       have PM:=Lib.hid (refCeMay_any CC wc)
       obtain ⟨K1,hK1⟩:∃ K,cellMay CC=K:=⟨_,rfl⟩
       rw [hK1] at PM
       have HK1:=Lib.hid hK1
       clear hK1
       unfold ceA at PM
       have hci:¬ (n:Int)-(at2:Int)<9:=h9i
       have h9n:9≤n-at2:=by omega
       go_wp2_with fail
       refine PM.out.mono ?_
       rintro e w11 ⟨rfl,hb11⟩
       have Y5:=Lib.hid (show ApS w w11 b b4 q s6 { S6 with cells:=M2 }∧Cb w11 b9 CC from ⟨Y3.out.1.on hb11,Y3.out.2.below hb11⟩)
       clear hb11 PM Y3 d0 d1 d2 d3 d4 d5
       cases K1
       · have hk1:cellMay CC=false:=HK1.out
         have HQ:=Lib.hid (show p=(scZero,3) from by
          rw [Y2.out.2.2,show C-x=(C-x-1)+1 from by omega,rdIn_bad (by rw [HLN.out];omega) (by rw [HOF.out];unfold okC;rw [hk1];rfl)]
          rfl)
         have HM5:=Lib.hid Y5.out.1.m
         clear hk1
         go_upto_region 46 with fail
         obtain ⟨q0,q1,q2,q3,q4,q5,q6,q7,q8,_⟩:=sx_cells HM5.out.non
         repeat (first | (go_big_may;refine wpList_store_V rfl 25 (.tmp 4) (.tmp 211) rfl scF_len one_sc info56 (b+1) _ 0 scN _ rfl rfl rfl rfl 25 [scN] HM5.out.res (by decide) ?_;intro w7 hR7 hg7) | go_values | go_skip | go_guarded | go_step | go_upon)
         have HE:=Lib.hid (end_no HM5.out hg7 HQ.out)
         clear hg7
         obtain ⟨y0,y1,y2,y3,y4,y5,y6,y7,y8,_⟩:=sx_cells (s:=scN) hR7
         exact bodyPost_ret (v:=.tuple #[.agg (scrA scN),.int .i64 3]) (by simp [results,Tryz.results10,scrA,scN,go_sem,y0,y1,y2,y3,y4,y5,y6,y7,y8]) rfl HE.out
       obtain ⟨d0,d1,d2,d3,d4,d5⟩:=Y5.out.2.all
       by_cases hfg:(256:Int)<CC.p.fg
       · have hf2:decide (CC.p.fg≤256)=false:=decide_eq_false (by omega)
         have HQ:=Lib.hid (show p=(scZero,3) from by
          rw [Y2.out.2.2,show C-x=(C-x-1)+1 from by omega,rdIn_bad (by rw [HLN.out];omega) (by rw [HOF.out];unfold okC;rw [hf2];simp)]
          rfl)
         have HM5:=Lib.hid Y5.out.1.m
         clear hf2
         go_upto_region 46 with fail
         clear d0 d1 d2 d3 d4 d5
         obtain ⟨q0,q1,q2,q3,q4,q5,q6,q7,q8,_⟩:=sx_cells HM5.out.non
         repeat (first | (go_big_may;refine wpList_store_V rfl 25 (.tmp 4) (.tmp 211) rfl scF_len one_sc info56 (b+1) _ 0 scN _ rfl rfl rfl rfl 25 [scN] HM5.out.res (by decide) ?_;intro w7 hR7 hg7) | go_values | go_skip | go_guarded | go_step | go_upon)
         have HE:=Lib.hid (end_no HM5.out hg7 HQ.out)
         clear hg7
         obtain ⟨y0,y1,y2,y3,y4,y5,y6,y7,y8,_⟩:=sx_cells (s:=scN) hR7
         exact bodyPost_ret (v:=.tuple #[.agg (scrA scN),.int .i64 3]) (by simp [results,Tryz.results10,scrA,scN,go_sem,y0,y1,y2,y3,y4,y5,y6,y7,y8]) rfl HE.out
       by_cases hbg:(256:Int)<CC.p.bg
       · have hf2:decide (CC.p.bg≤256)=false:=decide_eq_false (by omega)
         have HQ:=Lib.hid (show p=(scZero,3) from by
          rw [Y2.out.2.2,show C-x=(C-x-1)+1 from by omega,rdIn_bad (by rw [HLN.out];omega) (by rw [HOF.out];unfold okC;rw [hf2];simp)]
          rfl)
         have HM5:=Lib.hid Y5.out.1.m
         clear hf2
         go_upto_region 46 with fail
         clear d0 d1 d2 d3 d4 d5
         obtain ⟨q0,q1,q2,q3,q4,q5,q6,q7,q8,_⟩:=sx_cells HM5.out.non
         repeat (first | (go_big_may;refine wpList_store_V rfl 25 (.tmp 4) (.tmp 211) rfl scF_len one_sc info56 (b+1) _ 0 scN _ rfl rfl rfl rfl 25 [scN] HM5.out.res (by decide) ?_;intro w7 hR7 hg7) | go_values | go_skip | go_guarded | go_step | go_upon)
         have HE:=Lib.hid (end_no HM5.out hg7 HQ.out)
         clear hg7
         obtain ⟨y0,y1,y2,y3,y4,y5,y6,y7,y8,_⟩:=sx_cells (s:=scN) hR7
         exact bodyPost_ret (v:=.tuple #[.agg (scrA scN),.int .i64 3]) (by simp [results,Tryz.results10,scrA,scN,go_sem,y0,y1,y2,y3,y4,y5,y6,y7,y8]) rfl HE.out
       obtain ⟨Z,hZ⟩:∃ Z,y*C=Z:=⟨_,rfl⟩
       have hz1:(y:Int)*(C:Int)=(Z:Int):=by rw [← hZ];exact (Int.natCast_mul y C).symm
       have hmm:Z+C≤R*C:=by
        have h:=Nat.mul_le_mul_right C (show y+1≤R from hyR)
        rw [Nat.add_mul,Nat.one_mul,hZ] at h
        exact h
       have hs6n:s6.n=R*C:=by rw [← Y5.out.1.sc.cells.len];exact Y2.out.1
       have hZx:Z+x<s6.n:=by omega
       have hZ8:s6.n≤60000:=Y5.out.1.n
       have HML:=Lib.hid (show Z+x<M2.length from by rw [Y2.out.1];omega)
       have HOK:=Lib.hid (show okC (cellOf (zs.drop at2))=true from by
        rw [HOF.out]
        unfold okC
        rw [HK1.out,decide_eq_true (by omega),decide_eq_true (by omega)]
        rfl)
       have hlkC:CC.p.lk=0:=by rw [HCC.out]
       have HLK:=Lib.hid hlkC
       have HZ2:=Lib.hid hZ
       have hq1:(Z:Int)+(x:Int)<(s6.n:Int):=by omega
       obtain ⟨a0,a1,a2,a3,a4,a5,a6,a7,a8,_⟩:=sx_cells Y5.out.1.scr
       rw [Y5.out.1.A] at a2
       clear hmm hs6n hlkC hZ
       go_wp2_with (refine wpList_store_V rfl 43 (.tmp 220) (.tmp 219) rfl ceV_len one_ce infoCe q _ (Z+x) CC _ rfl (by omega) rfl rfl 43 M2 Y5.out.1.rw HML.out ?_;intro w12 hR12 hg12)
       have Y6:=Lib.hid (show ApS w w12 b b4 q s6 { S6 with cells:=M2.set (Z+x) CC }∧p=endA S6 (rowsOn C R (N-(k+1)) (y:Int) (rdIn (C-(x+1)) (y*C+(x+1)) (M2.set (Z+x) CC) (zs.drop (at2+9)))) from by
        refine ⟨Y5.out.1.cell hg12 hR12 HLK.out,?_⟩
        rw [Y2.out.2.2,show C-x=(C-(x+1))+1 from by omega,rdIn_one (by rw [HLN.out];omega) HOK.out,HOF.out,HZ2.out,List.drop_drop]
        rfl)
       have HL6:=Lib.hid (show (M2.set (Z+x) CC).length=R*C from by rw [List.length_set];exact Y2.out.1)
       clear hfg hbg hR12 hg12 d0 d1 d2 d3 d4 d5 a0 a1 a2 a3 a4 a5 a6 a7 a8 hz1 hq1 Y5
       go_wp2_with fail
       go_roundw
       case rel=>exact ⟨x+1,at2+9,_,by omega,by go_num,by go_num,by omega,HL6.out,Y6.out.1,Y6.out.2⟩
       case measure=>simp [intOf];omega
     · have hxe:x=C:=by omega
       have Y6:=Lib.hid (show p=endA S6 (rdRows C R (N-(k+1)) (y:Int) M2 (zs.drop at2)) from by
        rw [Y2.out.2.2,hxe,Nat.sub_self,rdIn_none]
        rfl)
       clear hxe
       go_wp2_with fail
       go_roundw
       case rel=>exact ⟨k+1,at2,(y:Int),M2,by omega,by go_num,rfl,rfl,hat2,by omega,Y2.out.1,Y2.out.2.1,Y6.out⟩
       case measure=>simp [intOf];omega
  · have hkN:k=N:=by omega
    subst hkN
    have HPE:=Lib.hid (show p=endA S6 (.ok (M,zs.drop at1)) from by rw [Y.out.2.2,Nat.sub_self,rdRows_none])
    by_cases hl:at1<n
    · have HQ:=Lib.hid (show p=(scZero,6) from by
       rw [HPE.out,drop_cons (by rw [HD.out.1.len];exact hl)]
       rfl)
      have HM5:=Lib.hid Y.out.2.1.m
      go_upto_region 50 with fail
      obtain ⟨q0,q1,q2,q3,q4,q5,q6,q7,q8,_⟩:=sx_cells HM5.out.non
      repeat (first | (go_big_may;refine wpList_store_V rfl 25 (.tmp 4) (.tmp 227) rfl scF_len one_sc info56 (b+1) _ 0 scN _ rfl rfl rfl rfl 25 [scN] HM5.out.res (by decide) ?_;intro w7 hR7 hg7) | go_values | go_skip | go_guarded | go_step | go_upon)
      have HE:=Lib.hid (end_no HM5.out hg7 HQ.out)
      clear hg7
      obtain ⟨y0,y1,y2,y3,y4,y5,y6,y7,y8,_⟩:=sx_cells (s:=scN) hR7
      exact bodyPost_ret (v:=.tuple #[.agg (scrA scN),.int .i64 6]) (by simp [results,Tryz.results10,scrA,scN,go_sem,y0,y1,y2,y3,y4,y5,y6,y7,y8]) rfl HE.out
    have HPF:=Lib.hid (show p=if fitsS { S6 with cells:=M }=true then ({ S6 with cells:=M },0) else (scZero,3) from by
     rw [HPE.out,List.drop_eq_nil_of_le (by rw [HD.out.1.len];omega)]
     rfl)
    clear HPE
    have PF:=Lib.hid (rFits_any Y.out.2.1.sc HS6.out.2.2.2 Y.out.2.1.n (by have:=Y.out.2.1.lm;omega))
    obtain ⟨a0,a1,a2,a3,a4,a5,a6,a7,a8,_⟩:=sx_cells Y.out.2.1.scr
    obtain ⟨F,hF⟩:∃ F,fitsS { S6 with cells:=M }=F:=⟨_,rfl⟩
    rw [hF] at PF HPF
    unfold scrA at PF
    clear hF
    go_upto_region 51 with fail
    go_wp2_with fail
    refine PF.out.mono ?_
    rintro e w8 ⟨rfl,hb8⟩
    have Y8:=Lib.hid (Y.out.2.1.on hb8)
    clear hb8 PF a0 a1 a2 a3 a4 a5 a6 a7 a8 Y
    cases F
    · have HQ:=Lib.hid (show p=(scZero,3) from by rw [HPF.out];rfl)
      have HM5:=Lib.hid Y8.out.m
      go_upto_region 52 with fail
      obtain ⟨q0,q1,q2,q3,q4,q5,q6,q7,q8,_⟩:=sx_cells HM5.out.non
      repeat (first | (go_big_may;refine wpList_store_V rfl 25 (.tmp 4) (.tmp 231) rfl scF_len one_sc info56 (b+1) _ 0 scN _ rfl rfl rfl rfl 25 [scN] HM5.out.res (by decide) ?_;intro w7 hR7 hg7) | go_values | go_skip | go_guarded | go_step | go_upon)
      have HE:=Lib.hid (end_no HM5.out hg7 HQ.out)
      clear hg7
      obtain ⟨y0,y1,y2,y3,y4,y5,y6,y7,y8,_⟩:=sx_cells (s:=scN) hR7
      exact bodyPost_ret (v:=.tuple #[.agg (scrA scN),.int .i64 3]) (by simp [results,Tryz.results10,scrA,scN,go_sem,y0,y1,y2,y3,y4,y5,y6,y7,y8]) rfl HE.out
    · have HQ:=Lib.hid (show p=({ S6 with cells:=M },0) from by rw [HPF.out];rfl)
      go_upto_region 53 with fail
      obtain ⟨q0,q1,q2,q3,q4,q5,q6,q7,q8,_⟩:=sx_cells Y8.out.scr
      repeat (first | (go_big_may;refine wpList_store_V rfl 25 (.tmp 4) (.tmp 232) rfl scF_len one_sc info56 (b+1) _ 0 s6 _ rfl rfl rfl rfl 25 [scN] Y8.out.m.res (by decide) ?_;intro w7 hR7 hg7) | go_values | go_skip | go_guarded | go_step | go_upon)
      have HE:=Lib.hid (end_yes Y8.out hg7)
      clear hg7
      obtain ⟨y0,y1,y2,y3,y4,y5,y6,y7,y8,_⟩:=sx_cells (s:=s6) hR7
      exact bodyPost_ret (v:=.tuple #[.agg (scrA s6),.int .i64 0]) (by simp [results,Tryz.results10,scrA,go_sem,y0,y1,y2,y3,y4,y5,y6,y7,y8]) rfl (by rw [HQ.out];exact HE.out)
end Go.Proofs.YtikhknnhmnopbaaGreatDoor
