/-
  Part 22 of what the laws of emul want: EmulGrid, EmulScr.
-/
import Derived.Test.YtlcipgdnpilkfaaGreatDoorPo01
import Derived.Test.YtlcipgdnpilkfaaGreatDoorPo20
namespace Go.Proofs.YtlcipgdnpilkfaaGreatDoor
open Go.RowKit
def CT.wit (x:CT) (q n k:Nat) (LL:Rws):CT :=
 if x.t.isO then { x with t:={ x.t with other:=LL },ob:=q,oN:=n,oK:=k } else { x with t:={ x.t with main:=LL },mb:=q,mN:=n,mK:=k }
theorem CT.wit_t (x:CT) (q n k:Nat) (LL:Rws):(x.wit q n k LL).t=x.t.put LL:=by
 unfold CT.wit Tm.put
 by_cases h:x.t.isO=true
 · rw [if_pos h,if_pos h]
 · rw [if_neg h,if_neg h]
theorem CT.wit_now (x:CT) (q n k:Nat) (LL:Rws):(x.wit q n k LL).t.now=x.t.now:=by rw [CT.wit_t];exact (TmOk.put_now _ _).1
section
variable {B:Nat} {w w':World} {g:Nat} {x:CT} {q n k:Nat} {LL:Rws}
abbrev PenC (w:World) (g:Nat) (p:Pn):Prop:=w.cell? ⟨g,3,none⟩=some (.int .u32 p.fg)∧w.cell? ⟨g,4,none⟩=some (.int .u32 p.bg)∧w.cell? ⟨g,5,none⟩=some (.int .u8 p.st)∧w.cell? ⟨g,6,none⟩=some (.int .u16 p.lk)
theorem Cz.pens (h:Cz B w g x):PenC w g x.t.now.pen:=⟨h.cell rfl,h.cell rfl,h.cell rfl,h.cell rfl⟩
theorem ctV_wit (x:CT) (q n k:Nat) (LL:Rws):(((ctV x).set x.so (.int .i64 x.t.c)).set (x.so+1) (.int .i64 x.t.r)).set (x.so+2) (.slice (some ⟨q,0,none⟩) n k)=ctV (x.wit q n k LL):=by
 unfold CT.so CT.wit
 cases h:x.t.isO<;>rfl
theorem Cz.newGrid (h:Cz B w g x) (hb:Below w.heap.size w w') (hq:w.heap.size≤q) (hr:Rw ceV 66 w' q LL.flatten) (hg:Gk x.t.c x.t.r LL) (hn:LL.flatten.length=n) (hk:n≤k) (hm:k≤maxLen) :
  CzTo B g x (x.t.put LL) w (((w'.setCell ⟨g,x.so,none⟩ (.int .i64 x.t.c)).setCell ⟨g,x.so+1,none⟩ (.int .i64 x.t.r)).setCell ⟨g,x.so+2,none⟩ (.slice (some ⟨q,0,none⟩) n k)) (x.wit q n k LL):=by
 have R:=(((h.raw.below hb).set x.so (.int .i64 x.t.c)).set (x.so+1) (.int .i64 x.t.r)).set (x.so+2) (.slice (some ⟨q,0,none⟩) n k)
 rw [ctV_wit x q n k LL] at R
 have hlt:=h.lt
 have hr2:Rw ceV 66 (((w'.setCell ⟨g,x.so,none⟩ (.int .i64 x.t.c)).setCell ⟨g,x.so+1,none⟩ (.int .i64 x.t.r)).setCell ⟨g,x.so+2,none⟩ (.slice (some ⟨q,0,none⟩) n k)) q LL.flatten :=
  ((hr.kept (heap_setCell_other _ _ q _ (by show q≠g;omega))).kept (heap_setCell_other _ _ q _ (by show q≠g;omega))).kept (heap_setCell_other _ _ q _ (by show q≠g;omega))
 generalize (((w'.setCell ⟨g,x.so,none⟩ (.int .i64 x.t.c)).setCell ⟨g,x.so+1,none⟩ (.int .i64 x.t.r)).setCell ⟨g,x.so+2,none⟩ (.slice (some ⟨q,0,none⟩) n k))=w2 at R hr2 ⊢
 have hB:=h.bB
 have hkp:∀ b,b<w.heap.size→b≠g→w2.heap[b]?=w.heap[b]?:=fun b hb hne=>R.gr.block b hb (fun e=>hne (by injection e))
 have hflen:n=x.t.r*x.t.c:=by rw [← hn];exact hg.box.flen
 have ht:=CT.wit_t x q n k LL
 have hok:TmOk (x.wit q n k LL).t:=by rw [ht];exact h.ok.put hg
 have hout:OutB B (CB g x) w w2:=⟨⟨R.gr.os,R.gr.tape,R.gr.output,R.gr.size,fun b hb=>hkp b (by omega) (fun e=>by have:=h.gB;omega)⟩,fun b hb hS=>hkp b hb (fun e=>hS (.inl e))⟩
 have hmm:=h.m.lt
 have hoo:=h.o.lt
 unfold CT.wit at *
 cases hi:x.t.isO
 · rw [hi] at R hok ht
   simp only [Bool.false_eq_true,if_false] at R hok ht ⊢
   refine ⟨ht,⟨R.blk,h.gB,hok,hr2,by show B≤q;omega,hflen,⟨hk,hm⟩,h.o.kept (hkp _ h.o.lt h.go.symm),h.oB,h.on,h.okk,by show q≠x.ob;omega,h.p.kept R.gr.size fun b hb=>hkp b (h.p.hi b hb) (fun e=>h.gp (e ▸ hb)),h.b.same fun b hb=>hkp b (h.b.own.lt b hb).2 (fun e=>h.gb (e ▸ hb)),h.tl,h.bs⟩,hout,?_⟩
   rintro b (rfl | rfl | rfl | hb | hb)
   · exact .inl (.inl rfl)
   · exact .inr hq
   · exact .inl (.inr (.inr (.inl rfl)))
   · exact .inl (.inr (.inr (.inr (.inl hb))))
   · exact .inl (.inr (.inr (.inr (.inr hb))))
 · rw [hi] at R hok ht
   simp only [if_true] at R hok ht ⊢
   refine ⟨ht,⟨R.blk,h.gB,hok,h.m.kept (hkp _ h.m.lt h.gm.symm),h.mB,h.mn,h.mkk,hr2,by show B≤q;omega,hflen,⟨hk,hm⟩,by show x.mb≠q;omega,h.p.kept R.gr.size fun b hb=>hkp b (h.p.hi b hb) (fun e=>h.gp (e ▸ hb)),h.b.same fun b hb=>hkp b (h.b.own.lt b hb).2 (fun e=>h.gb (e ▸ hb)),h.tl,h.bs⟩,hout,?_⟩
   rintro b (rfl | rfl | rfl | hb | hb)
   · exact .inl (.inl rfl)
   · exact .inl (.inr (.inl rfl))
   · exact .inr hq
   · exact .inl (.inr (.inr (.inr (.inl hb))))
   · exact .inl (.inr (.inr (.inr (.inr hb))))
theorem Cz.sbB (h:Cz B w g x):CB g x x.sb∧x.sb≠g∧¬ x.PS x.sb∧(Value.slice x.bA x.bN x.bK).ownBlock≠some x.sb:=by
 unfold CT.sb
 split
 · exact ⟨.inr (.inr (.inl rfl)),h.go.symm,h.p.off h.o.has (by decide) (by decide) (by decide) (by decide),row_off h.b.own h.o.has (by decide)⟩
 · exact ⟨.inr (.inl rfl),h.gm.symm,h.p.off h.m.has (by decide) (by decide) (by decide) (by decide),row_off h.b.own h.m.has (by decide)⟩
theorem Cz.written (h:Cz B w g x) (hg:w.grownBy w' (some x.sb)) (hr:Rw ceV 66 w' x.sb LL.flatten) (hk:Gk x.t.c x.t.r LL):CzTo B g x (x.t.put LL) w w' { x with t:=x.t.put LL }:=by
 obtain ⟨h1,h2,h3,h4⟩:=h.sbB
 have hkp:∀ b,b<w.heap.size→b≠x.sb→w'.heap[b]?=w.heap[b]?:=fun b hb hne=>hg.block b hb (fun e=>hne (by injection e))
 have hok:=h.ok.put hk
 have hlo:=h.lo _ h1
 have hne:=h.ne
 have hB:=h.bB
 have hout:OutB B (CB g x) w w':=⟨⟨hg.os,hg.tape,hg.output,hg.size,fun b hb=>hkp b (by omega) (fun e=>by omega)⟩,fun b hb hS=>hkp b hb (fun e=>hS (e ▸ h1))⟩
 have hblk:=(hkp g h.lt h2.symm).trans h.blk
 have hp:=h.p.kept hg.size fun b hb=>hkp b (h.p.hi b hb) (fun e=>h3 (e ▸ hb))
 have hb:=h.b.same fun b hb=>hkp b (h.b.own.lt b hb).2 (fun e=>h4 (e ▸ hb))
 unfold CT.sb at hkp hr
 unfold Tm.put at hok ⊢
 by_cases hi:x.t.isO=true
 · simp only [if_pos hi] at hkp hr hok ⊢
   exact ⟨rfl,⟨hblk,h.gB,hok,h.m.kept (hkp _ h.m.lt hne),h.mB,h.mn,h.mkk,hr,h.oB,h.on,h.okk,hne,hp,hb,h.tl,h.bs⟩,hout,fun _ hq=>.inl hq⟩
 · simp only [if_neg hi] at hkp hr hok ⊢
   exact ⟨rfl,⟨hblk,h.gB,hok,hr,h.mB,h.mn,h.mkk,h.o.kept (hkp _ h.o.lt hne.symm),h.oB,h.on,h.okk,hne,hp,hb,h.tl,h.bs⟩,hout,fun _ hq=>.inl hq⟩
theorem CzTo.as {t t':Tm} {y:CT} (h:CzTo B g x t w w' y) (e:t=t'):CzTo B g x t' w w' y:=e ▸ h
theorem Cz.opG (h:Cz B w g x) {F:Nat→Rws→Rws}:opG (x.t.c:Int) (x.t.r:Int) x.t.shown.flatten x.t.now.pen F=some (x.t.c,x.t.r,F x.t.c x.t.shown):=by
 unfold Go.Proofs.YtlcipgdnpilkfaaGreatDoor.opG
 rw [if_pos ⟨h.ok.shown.may,h.ok.pen.may⟩,Int.toNat_natCast,Int.toNat_natCast,rows_of_flat h.ok.shown.box]
theorem Cz.sv (h:Cz B w g x):Vs ceV w (some ⟨x.sb,0,none⟩) x.sN x.t.shown.flatten∧x.sN≤x.sK∧x.sN≤1920:=by
 obtain ⟨h1,h2,h3,h4,h5⟩:=h.srw
 have h6:=h.ok.shown.small
 have h7:=h1.vs
 rw [h5,← h2] at h7
 exact ⟨h7,h3,by omega⟩
set_option maxRecDepth 100000 in
set_option maxHeartbeats 1600000 in
theorem scroll_any (hT:Tabs w) (h:Cz B w g x) (a b m:Int):Calls Tryz.prog 161 #[.pointer (some ⟨g,0,none⟩),.int .i64 a,.int .i64 b,.int .i64 m] w (CzP B g x (x.t.scrolled a b m) w):=by
 have HD:=Lib.hid (show Below w.heap.size w w.drew from (Below.refl _ _).drew)
 have HZ:=Lib.hid h
 have HS:=Lib.hid (shown_any h)
 have HC:=Lib.hid (show Calls Tryz.prog 221 #[.agg (gV x.t.c x.t.r (some ⟨x.sb,0,none⟩) x.sN x.sK),.int .i64 a,.int .i64 b,.int .i64 m,.agg (pnA x.t.now.pen)] w.drew (GPost (some (x.t.c,x.t.r,scrollS x.t.c x.t.shown a b m x.t.now.pen)) w.drew) from by
  obtain ⟨h1,h2,h3⟩:=(h.below HD.out).sv
  have h4:=gScroll_any (c:=(x.t.c:Int)) (r:=(x.t.r:Int)) a b m x.t.now.pen h1 (hT.below HD.out (Nat.le_refl _)) h2 (by omega)
  rw [h.opG] at h4
  exact h4)
 have HG:=Lib.hid (scroll_ok h.ok.shown a b m h.ok.pen.may)
 obtain ⟨s0,s1,s2⟩:=h.sh
 have c3:w.cell? ⟨g,3,none⟩=some (.int .u32 x.t.now.pen.fg):=h.cell rfl
 have c4:w.cell? ⟨g,4,none⟩=some (.int .u32 x.t.now.pen.bg):=h.cell rfl
 have c5:w.cell? ⟨g,5,none⟩=some (.int .u8 x.t.now.pen.st):=h.cell rfl
 have c6:w.cell? ⟨g,6,none⟩=some (.int .u16 x.t.now.pen.lk):=h.cell rfl
 clear h hT
 unfold gV pnA at HC
 go_enter Tryz.func161,Tryz.ntmps161
 go_wp2_with fail
 refine HS.out.mono ?_
 rintro e w1 ⟨rfl,hw1⟩
 obtain rfl:=hw1.symm
 clear hw1
 go_wp2_with fail
 -- region
 refine wp_region_noPanic ?_
 refine wp_region_held_drew (S:=fun w'=>Below B w w'∧w'.cell? ⟨g,3,none⟩=some (.int .u32 x.t.now.pen.fg)∧w'.cell? ⟨g,4,none⟩=some (.int .u32 x.t.now.pen.bg)∧w'.cell? ⟨g,5,none⟩=some (.int .u8 x.t.now.pen.st)∧w'.cell? ⟨g,6,none⟩=some (.int .u16 x.t.now.pen.lk)) (by kernel_rfl) (⟨(Below.refl _ _).drew,c3,c4,c5,c6⟩) (fun hHeld=>?_)
 clear c3 c4 c5 c6
 have s0:w.drew.cell? ⟨g,x.so,none⟩=some (.int .i64 x.t.c):=s0
 have s1:w.drew.cell? ⟨g,x.so+1,none⟩=some (.int .i64 x.t.r):=s1
 have s2:w.drew.cell? ⟨g,x.so+2,none⟩=some (.slice (some ⟨x.sb,0,none⟩) x.sN x.sK):=s2
 generalize w.drew=w2 at HC HD hHeld s0 s1 s2 ⊢
 refine tkH 0 (.pointer (some ⟨g,x.so,none⟩)) rfl (.inl ⟨by rfl,fun wz hSz=>?_⟩) hHeld ?_
 · go_simp
 simp only [Act.put,List.getElem_toArray,List.getElem_cons_zero,List.setIfInBounds_toArray,List.set_cons_succ,List.set_cons_zero]
 refine tkH 1 (.pointer (some ⟨g,x.so,none⟩)) rfl (.inl ⟨by rfl,fun wz hSz=>?_⟩) hHeld ?_
 · go_simp
 simp only [Act.put,List.getElem_toArray,List.getElem_cons_succ,List.getElem_cons_zero,List.setIfInBounds_toArray,List.set_cons_succ,List.set_cons_zero]
 refine tkH 2 (.pointer (some ⟨g,x.so,none⟩)) rfl (.inl ⟨by rfl,fun wz hSz=>?_⟩) hHeld ?_
 · go_simp
 simp only [Act.put,List.getElem_toArray,List.getElem_cons_succ,List.getElem_cons_zero,List.setIfInBounds_toArray,List.set_cons_succ,List.set_cons_zero]
 refine tkH 4 (.int .i64 a) rfl (.inl ⟨by rfl,fun wz hSz=>?_⟩) hHeld ?_
 · go_simp
 simp only [Act.put,List.getElem_toArray,List.getElem_cons_succ,List.getElem_cons_zero,List.setIfInBounds_toArray,List.set_cons_succ,List.set_cons_zero]
 refine tkH 5 (.int .i64 b) rfl (.inl ⟨by rfl,fun wz hSz=>?_⟩) hHeld ?_
 · go_simp
 simp only [Act.put,List.getElem_toArray,List.getElem_cons_succ,List.getElem_cons_zero,List.setIfInBounds_toArray,List.set_cons_succ,List.set_cons_zero]
 refine tkH 6 (.int .i64 m) rfl (.inl ⟨by rfl,fun wz hSz=>?_⟩) hHeld ?_
 · go_simp
 simp only [Act.put,List.getElem_toArray,List.getElem_cons_succ,List.getElem_cons_zero,List.setIfInBounds_toArray,List.set_cons_succ,List.set_cons_zero]
 refine tkH 7 (.pointer (some ⟨g,0,none⟩)) rfl (.inl ⟨by rfl,fun wz hSz=>?_⟩) hHeld ?_
 · go_simp
 simp only [Act.put,List.getElem_toArray,List.getElem_cons_succ,List.getElem_cons_zero,List.setIfInBounds_toArray,List.set_cons_succ,List.set_cons_zero]
 refine tkH 8 (.pointer (some ⟨g,0,none⟩)) rfl (.inl ⟨by rfl,fun wz hSz=>?_⟩) hHeld ?_
 · go_simp
 simp only [Act.put,List.getElem_toArray,List.getElem_cons_succ,List.getElem_cons_zero,List.setIfInBounds_toArray,List.set_cons_succ,List.set_cons_zero]
 refine tkH 9 (.pointer (some ⟨g,1,none⟩)) rfl (.inl ⟨by rfl,fun wz hSz=>?_⟩) hHeld ?_
 · go_simp
 simp only [Act.put,List.getElem_toArray,List.getElem_cons_succ,List.getElem_cons_zero,List.setIfInBounds_toArray,List.set_cons_succ,List.set_cons_zero]
 refine tkH 10 (.pointer (some ⟨g,1,none⟩)) rfl (.inl ⟨by rfl,fun wz hSz=>?_⟩) hHeld ?_
 · go_simp
 simp only [Act.put,List.getElem_toArray,List.getElem_cons_succ,List.getElem_cons_zero,List.setIfInBounds_toArray,List.set_cons_succ,List.set_cons_zero]
 refine tkH 11 (.pointer (some ⟨g,3,none⟩)) rfl (.inl ⟨by rfl,fun wz hSz=>?_⟩) hHeld ?_
 · go_simp
 simp only [Act.put,List.getElem_toArray,List.getElem_cons_succ,List.getElem_cons_zero,List.setIfInBounds_toArray,List.set_cons_succ,List.set_cons_zero]
 refine tkH 12 (.agg #[.int .u32 x.t.now.pen.fg,.int .u32 x.t.now.pen.bg,.int .u8 x.t.now.pen.st,.int .u16 x.t.now.pen.lk]) rfl (.inl ⟨by rfl,fun wz hSz=>?_⟩) hHeld ?_
 · obtain ⟨_,d3,d4,d5,d6⟩:=hSz
   go_simp
 simp only [Act.put,List.getElem_toArray,List.getElem_cons_succ,List.getElem_cons_zero,List.setIfInBounds_toArray,List.set_cons_succ,List.set_cons_zero]
 refine wpAnyH_ready (rs:=[3]) (by kernel_rfl) (by simp) (AllReadyH.cons rfl (fun K hK=>?_) AllReadyH.nil)
 rw [if_pos (by rfl)]
 go_simp
 refine hK.out _ _ (hHeld) (fun hHeld=>?_)
 clear hK K
 try simp only [Act.put,List.getElem_toArray,List.getElem_cons_succ,List.getElem_cons_zero]
 try simp only [List.setIfInBounds_toArray]
 try simp only [List.set_cons_succ]
 try simp only [List.set_cons_zero]
 refine wpAnyH_ready (rs:=[13]) (by kernel_rfl) (by simp) (AllReadyH.cons rfl (fun K hK=>?_) AllReadyH.nil)
 rw [if_pos (by rfl)]
 go_simp
 refine HC.out.mono ?_
 rintro e w3 hP
 obtain ⟨hb,q,k,he,hq,hk,hm,hR⟩:=hP.1 _ _ _ rfl
 have hl:(scrollS x.t.c x.t.shown a b m x.t.now.pen).flatten.length=x.sN:=HG.out.box.flen.trans HZ.out.srw.2.1.symm
 rw [hl] at he hk
 subst he
 have hb3:=HD.out.trans (hb.mono HD.out.size)
 have X:=Lib.hid (HZ.out.newGrid (LL:=scrollS x.t.c x.t.shown a b m x.t.now.pen) hb3 (Nat.le_trans HD.out.size hq) hR HG.out hl hk hm)
 have Z:=HZ.out.below hb3
 have h3:=Lib.hid (And.intro (hb3.mono HZ.out.bB) Z)
 clear hb hb3 hq hk hm hR hP hl s0 s1 s2
 obtain ⟨s0,s1,s2⟩:=Z.sh
 have f0:=Z.fr x.so
 have f1:=Z.fr (x.so+1)
 have f2:=Z.fr (x.so+2)
 clear Z
 unfold gV
 refine hK.out _ _ (⟨h3.out.1,h3.out.2.cell rfl,h3.out.2.cell rfl,h3.out.2.cell rfl,h3.out.2.cell rfl⟩) (fun hHeld=>?_)
 clear hK K
 try simp only [Act.put,List.getElem_toArray,List.getElem_cons_succ,List.getElem_cons_zero]
 try simp only [List.setIfInBounds_toArray]
 try simp only [List.set_cons_succ]
 try simp only [List.set_cons_zero]
 refine tkH 14 (.pointer (some ⟨g,x.so,none⟩)) rfl (.inl ⟨by rfl,fun wz hSz=>?_⟩) hHeld ?_
 · go_simp
 simp only [Act.put,List.getElem_toArray,List.getElem_cons_succ,List.getElem_cons_zero,List.setIfInBounds_toArray,List.set_cons_succ,List.set_cons_zero]
 refine wpAnyH_ready (rs:=[15]) (by kernel_rfl) (by simp) (AllReadyH.cons rfl (fun K hK=>?_) AllReadyH.nil)
 rw [if_pos (by rfl)]
 go_simp
 refine hK.out _ _ (by have h:=X.out.cz.pens;rw [CT.wit_now] at h;exact ⟨X.out.out.bel,h⟩) (fun hHeld=>?_)
 clear hK K
 try simp only [Act.put,List.getElem_toArray,List.getElem_cons_succ,List.getElem_cons_zero]
 try simp only [List.setIfInBounds_toArray]
 try simp only [List.set_cons_succ]
 try simp only [List.set_cons_zero]
 refine wpAnyH_done (by kernel_rfl) ?_ _
 refine NoPanic.normal ?_
 go_end0
 exact ⟨rfl,_,X.out⟩
end
open Go.RowKit
section
variable {B:Nat} {w:World} {g:Nat} {x:CT} {A:Option Addr} {n c:Nat} {ps:List Int}
theorem CzP.drew {t:Tm} {w0:World} {e:Ending} {w':World} (hz:Cz B w0 g x) (hb:Below w0.heap.size w0 w) (h:CzP B g x t w e w'):CzP B g x t w0 e w':=by
 obtain ⟨rfl,y,hy⟩:=h
 exact ⟨rfl,y,((CzTo.refl hz).below hb).trans hy⟩
set_option maxRecDepth 100000 in
set_option maxHeartbeats 1600000 in
theorem scrollUp_any (hT:Tabs w) (h:Cz B w g x) (hN:Nm w (CB g x) A n c ps):Calls Tryz.prog 179 #[.pointer (some ⟨g,0,none⟩),.slice A n c] w (CzP B g x (Dd.scrollUp.run ps x.t) w):=by
 have HC:=Lib.hid (count_any (hN.below (Below.refl _ _).drew) 0 (by omega))
 have n1:=hN.one 0
 show Calls _ _ _ _ (CzP B g x (x.t.scrolled x.t.top x.t.bot (numP ps 0 1)) w)
 generalize numP ps 0 1=N at HC n1 ⊢
 have HS:=Lib.hid (show Calls Tryz.prog 161 #[.pointer (some ⟨g,0,none⟩),.int .i64 x.t.top,.int .i64 x.t.bot,.int .i64 N] w.drew (CzP B g x (x.t.scrolled x.t.top x.t.bot N) w) from (scroll_any (hT.below (Below.refl _ _).drew (Nat.le_refl _)) (h.below (Below.refl _ _).drew) _ _ _).mono fun _ _ hX=>hX.drew h (Below.refl _ _).drew)
 have c23:w.cell? ⟨g,23,none⟩=some (.int .i64 x.t.top):=h.cell rfl
 have c24:w.cell? ⟨g,24,none⟩=some (.int .i64 x.t.bot):=h.cell rfl
 clear h hN hT
 go_enter Tryz.func179,Tryz.ntmps179
 go_wp2_with fail
 go_still_tail 13,(by kernel_rfl)
 still_call HC.out
 repeat still_step
 refine wpStill_nil ?_
 change wpList _ _ _ _ _ w.drew
 generalize w.drew=w2 at HS ⊢
 go_wp2_with fail
 refine HS.out.mono ?_
 rintro e w3 ⟨rfl,y,hy⟩
 have Y:=Lib.hid hy
 clear hy
 go_wp2_with fail
 go_end0
 exact ⟨rfl,y,Y.out⟩
set_option maxRecDepth 100000 in
set_option maxHeartbeats 1600000 in
theorem scrollDown_any (hT:Tabs w) (h:Cz B w g x) (hN:Nm w (CB g x) A n c ps):Calls Tryz.prog 180 #[.pointer (some ⟨g,0,none⟩),.slice A n c] w (CzP B g x (Dd.scrollDown.run ps x.t) w):=by
 have HC:=Lib.hid (count_any (hN.below (Below.refl _ _).drew) 0 (by omega))
 have n1:=hN.one 0
 show Calls _ _ _ _ (CzP B g x (x.t.scrolled x.t.top x.t.bot (-(numP ps 0 1))) w)
 generalize numP ps 0 1=N at HC n1 ⊢
 have HS:=Lib.hid (show Calls Tryz.prog 161 #[.pointer (some ⟨g,0,none⟩),.int .i64 x.t.top,.int .i64 x.t.bot,.int .i64 (-N)] w.drew (CzP B g x (x.t.scrolled x.t.top x.t.bot (-N)) w) from (scroll_any (hT.below (Below.refl _ _).drew (Nat.le_refl _)) (h.below (Below.refl _ _).drew) _ _ _).mono fun _ _ hX=>hX.drew h (Below.refl _ _).drew)
 have c23:w.cell? ⟨g,23,none⟩=some (.int .i64 x.t.top):=h.cell rfl
 have c24:w.cell? ⟨g,24,none⟩=some (.int .i64 x.t.bot):=h.cell rfl
 have k0:wrap64 (-N)=-N:=by unfold wrap64;omega
 have j0:IntKind.i64.wrap (-N)=-N:=by rw [IntKind.wrap_i64];omega
 clear h hN hT
 go_enter Tryz.func180,Tryz.ntmps180
 go_wp2_with fail
 go_still_tail 14,(by kernel_rfl)
 still_call HC.out
 repeat still_step
 refine wpStill_nil ?_
 change wpList _ _ _ _ _ w.drew
 generalize w.drew=w2 at HS ⊢
 go_wp2_with fail
 refine HS.out.mono ?_
 rintro e w3 ⟨rfl,y,hy⟩
 have Y:=Lib.hid hy
 clear hy
 go_wp2_with fail
 go_end0
 exact ⟨rfl,y,Y.out⟩
set_option maxRecDepth 100000 in
set_option maxHeartbeats 1600000 in
theorem moveRows_any (hT:Tabs w) (h:Cz B w g x) (m:Int):Calls Tryz.prog 226 #[.pointer (some ⟨g,0,none⟩),.int .i64 m] w (CzP B g x (if x.t.top≤x.t.now.y∧x.t.now.y≤x.t.bot then (x.t.scrolled x.t.now.y x.t.bot m).atX 0 else x.t) w):=by
 have HZ:=Lib.hid h
 have HT:=Lib.hid hT
 have c2:w.cell? ⟨g,2,none⟩=some (.int .i64 x.t.now.y):=h.cell rfl
 have c23:w.cell? ⟨g,23,none⟩=some (.int .i64 x.t.top):=h.cell rfl
 have c24:w.cell? ⟨g,24,none⟩=some (.int .i64 x.t.bot):=h.cell rfl
 by_cases h1:x.t.top≤x.t.now.y
 · by_cases h2:x.t.now.y≤x.t.bot
   · rw [if_pos ⟨h1,h2⟩]
     clear h hT
     go_enter Tryz.func226,Tryz.ntmps226
     go_wp2_with fail
     go_quiet (fail)
     go_wp2_with fail
     generalize hw2:w.drewN nq=w2
     have hb2:Below w.heap.size w w2:=by rw [← hw2];exact belowN (Below.refl _ _) _
     clear hw2
     have Z2:=HZ.out.below hb2
     have c2:w2.cell? ⟨g,2,none⟩=some (.int .i64 x.t.now.y):=Z2.cell rfl
     have c24:w2.cell? ⟨g,24,none⟩=some (.int .i64 x.t.bot):=Z2.cell rfl
     have HS:=Lib.hid (show Calls Tryz.prog 161 #[.pointer (some ⟨g,0,none⟩),.int .i64 x.t.now.y,.int .i64 x.t.bot,.int .i64 m] w2.drew (CzP B g x (x.t.scrolled x.t.now.y x.t.bot m) w) from (scroll_any (HT.out.below hb2.drew (Nat.le_refl _)) (HZ.out.below hb2.drew) _ _ _).mono fun _ _ hX=>hX.drew HZ.out hb2.drew)
     clear Z2 hb2
     go_still_tail 13,(by kernel_rfl)
     change wpList _ _ _ _ _ w2.drew
     generalize w2.drew=w3 at HS ⊢
     go_wp2_with fail
     refine HS.out.mono ?_
     rintro e w4 ⟨rfl,y,hy⟩
     have Y:=Lib.hid hy
     clear hy
     go_wp2_with fail
     refine (lineStart_any Y.out.cz).mono ?_
     rintro e w5 ⟨rfl,z,hz⟩
     have Z:=Lib.hid hz
     clear hz
     go_wp2_with fail
     go_end0
     exact ⟨rfl,z,(Y.out.trans Z.out).as (by rw [Y.out.t])⟩
   · rw [if_neg (fun e=>h2 e.2)]
     have h3:x.t.bot<x.t.now.y:=by omega
     have d1:decide (x.t.now.y≤x.t.bot)=false:=decide_eq_false h2
     clear h hT
     go_enter Tryz.func226,Tryz.ntmps226
     go_wp2_with fail
     go_quiet (fail)
     go_wp2_with fail
     generalize hw2:w.drewN nq=w2
     have hb2:Below w.heap.size w w2:=by rw [← hw2];exact belowN (Below.refl _ _) _
     clear hw2
     go_end0
     exact ⟨rfl,x,(CzTo.refl HZ.out).below hb2⟩
 · rw [if_neg (fun e=>h1 e.1)]
   have h3:x.t.now.y<x.t.top:=by omega
   have d1:decide (x.t.top≤x.t.now.y)=false:=decide_eq_false h1
   clear h hT
   go_enter Tryz.func226,Tryz.ntmps226
   go_wp2_with fail
   go_quiet (fail)
   go_wp2_with fail
   generalize hw2:w.drewN nq=w2
   have hb2:Below w.heap.size w w2:=by rw [← hw2];exact belowN (Below.refl _ _) _
   clear hw2
   go_end0
   exact ⟨rfl,x,(CzTo.refl HZ.out).below hb2⟩
set_option maxRecDepth 100000 in
set_option maxHeartbeats 1600000 in
theorem takeOutRows_any (hT:Tabs w) (h:Cz B w g x) (hN:Nm w (CB g x) A n c ps):Calls Tryz.prog 178 #[.pointer (some ⟨g,0,none⟩),.slice A n c] w (CzP B g x (Dd.takeOutRows.run ps x.t) w):=by
 have HC:=Lib.hid (count_any hN 0 (by omega))
 have n1:=hN.one 0
 show Calls _ _ _ _ (CzP B g x (if x.t.top≤x.t.now.y∧x.t.now.y≤x.t.bot then (x.t.scrolled x.t.now.y x.t.bot (numP ps 0 1)).atX 0 else x.t) w)
 generalize numP ps 0 1=N at HC n1 ⊢
 have HS:=Lib.hid (moveRows_any hT h N)
 generalize (if x.t.top≤x.t.now.y∧x.t.now.y≤x.t.bot then (x.t.scrolled x.t.now.y x.t.bot N).atX 0 else x.t)=T' at HS ⊢
 clear h hN hT
 go_enter Tryz.func178,Tryz.ntmps178
 go_wp2_with fail
 refine HC.out.mono ?_
 rintro e w1 ⟨rfl,hw1⟩
 obtain rfl:=hw1.symm
 clear hw1
 go_wp2_with fail
 refine HS.out.mono ?_
 rintro e w3 ⟨rfl,y,hy⟩
 have Y:=Lib.hid hy
 clear hy
 go_wp2_with fail
 go_end0
 exact ⟨rfl,y,Y.out⟩
set_option maxRecDepth 100000 in
set_option maxHeartbeats 1600000 in
theorem insertRows_any (hT:Tabs w) (h:Cz B w g x) (hN:Nm w (CB g x) A n c ps):Calls Tryz.prog 177 #[.pointer (some ⟨g,0,none⟩),.slice A n c] w (CzP B g x (Dd.insertRows.run ps x.t) w):=by
 have HC:=Lib.hid (count_any hN 0 (by omega))
 have n1:=hN.one 0
 show Calls _ _ _ _ (CzP B g x (if x.t.top≤x.t.now.y∧x.t.now.y≤x.t.bot then (x.t.scrolled x.t.now.y x.t.bot (-(numP ps 0 1))).atX 0 else x.t) w)
 generalize numP ps 0 1=N at HC n1 ⊢
 have HS:=Lib.hid (moveRows_any hT h (-N))
 generalize (if x.t.top≤x.t.now.y∧x.t.now.y≤x.t.bot then (x.t.scrolled x.t.now.y x.t.bot (-N)).atX 0 else x.t)=T' at HS ⊢
 have k0:wrap64 (-N)=-N:=by unfold wrap64;omega
 have j0:IntKind.i64.wrap (-N)=-N:=by rw [IntKind.wrap_i64];omega
 clear h hN hT
 go_enter Tryz.func177,Tryz.ntmps177
 go_wp2_with fail
 refine HC.out.mono ?_
 rintro e w1 ⟨rfl,hw1⟩
 obtain rfl:=hw1.symm
 clear hw1
 go_wp2_with fail
 refine HS.out.mono ?_
 rintro e w3 ⟨rfl,y,hy⟩
 have Y:=Lib.hid hy
 clear hy
 go_wp2_with fail
 go_end0
 exact ⟨rfl,y,Y.out⟩
set_option maxRecDepth 100000 in
set_option maxHeartbeats 1600000 in
theorem lineDown_any (hT:Tabs w) (h:Cz B w g x):Calls Tryz.prog 106 #[.pointer (some ⟨g,0,none⟩),.slice A n c] w (CzP B g x (x.t.down) w):=by
 have HZ:=Lib.hid h
 have HT:=Lib.hid hT
 have zr:=h.ok.r1
 have zy0:=h.ok.y0
 have zy1:=h.ok.y1
 have c2:w.cell? ⟨g,2,none⟩=some (.int .i64 x.t.now.y):=h.cell rfl
 have c23:w.cell? ⟨g,23,none⟩=some (.int .i64 x.t.top):=h.cell rfl
 have c24:w.cell? ⟨g,24,none⟩=some (.int .i64 x.t.bot):=h.cell rfl
 have HR:=Lib.hid (lastRow_any h)
 by_cases h1:x.t.now.y=x.t.bot
 · have e:x.t.down=x.t.scrolled x.t.top x.t.bot 1:=by unfold Tm.down;rw [if_pos h1]
   rw [e]
   rw [h1] at c2
   clear e h1
   have HS:=Lib.hid (show Calls Tryz.prog 161 #[.pointer (some ⟨g,0,none⟩),.int .i64 x.t.top,.int .i64 x.t.bot,.int .i64 1] w.drew (CzP B g x (x.t.scrolled x.t.top x.t.bot 1) w) from (scroll_any (HT.out.below (Below.refl _ _).drew (Nat.le_refl _)) (HZ.out.below (Below.refl _ _).drew) _ _ _).mono fun _ _ hX=>hX.drew HZ.out (Below.refl _ _).drew)
   clear h hT zr zy0 zy1
   go_enter Tryz.func106,Tryz.ntmps106
   go_wp2_with fail
   go_still_tail 11,(by kernel_rfl)
   change wpList _ _ _ _ _ w.drew
   generalize w.drew=w3 at HS ⊢
   go_wp2_with fail
   refine HS.out.mono ?_
   rintro e w4 ⟨rfl,y,hy⟩
   have Y:=Lib.hid hy
   clear hy
   go_wp2_with fail
   go_end0
   exact ⟨rfl,y,Y.out⟩
 · by_cases h2:x.t.now.y≠x.t.r-1
   · have e:x.t.down=x.t.atY (x.t.now.y+1):=by unfold Tm.down;rw [if_neg h1,if_pos h2]
     rw [e]
     have X:=Lib.hid (h.atY (z:=x.t.now.y+1) (by omega) (by omega))
     have f2:w.frozen? ⟨g,2,none⟩=false:=h.fr 2
     have h4:¬ x.t.now.y=x.t.r-1:=h2
     have k0:wrap64 (x.t.now.y+1)=x.t.now.y+1:=by unfold wrap64;omega
     clear h hT zr zy0 zy1 e
     go_enter Tryz.func106,Tryz.ntmps106
     go_wp2_with fail
     refine HR.out.mono ?_
     rintro e w1 ⟨rfl,hw1⟩
     obtain rfl:=hw1.symm
     clear hw1
     go_wp2_with fail
     go_end0
     exact X.out _ (Below.refl _ _)
   · have h2:=Classical.not_not.1 h2
     have e:x.t.down=x.t:=by unfold Tm.down;rw [if_neg h1,if_neg (fun e=>e h2)]
     rw [e]
     rw [h2] at c2
     have h3:¬ (x.t.r:Int)-1=x.t.bot:=by omega
     clear h hT zr zy0 zy1 e h1
     go_enter Tryz.func106,Tryz.ntmps106
     go_wp2_with fail
     refine HR.out.mono ?_
     rintro e w1 ⟨rfl,hw1⟩
     obtain rfl:=hw1.symm
     clear hw1
     go_wp2_with fail
     go_end0
     exact ⟨rfl,x,CzTo.refl HZ.out⟩
set_option maxRecDepth 100000 in
set_option maxHeartbeats 1600000 in
theorem lineUp_any (hT:Tabs w) (h:Cz B w g x):Calls Tryz.prog 110 #[.pointer (some ⟨g,0,none⟩),.slice A n c] w (CzP B g x (x.t.up) w):=by
 have HZ:=Lib.hid h
 have HT:=Lib.hid hT
 have zr:=h.ok.r1
 have zy0:=h.ok.y0
 have zy1:=h.ok.y1
 have c2:w.cell? ⟨g,2,none⟩=some (.int .i64 x.t.now.y):=h.cell rfl
 have c23:w.cell? ⟨g,23,none⟩=some (.int .i64 x.t.top):=h.cell rfl
 have c24:w.cell? ⟨g,24,none⟩=some (.int .i64 x.t.bot):=h.cell rfl
 by_cases h1:x.t.now.y=x.t.top
 · have e:x.t.up=x.t.scrolled x.t.top x.t.bot (-1):=by unfold Tm.up;rw [if_pos h1]
   rw [e]
   rw [h1] at c2
   clear e h1
   have HS:=Lib.hid (show Calls Tryz.prog 161 #[.pointer (some ⟨g,0,none⟩),.int .i64 x.t.top,.int .i64 x.t.bot,.int .i64 (-1)] w.drew (CzP B g x (x.t.scrolled x.t.top x.t.bot (-1)) w) from (scroll_any (HT.out.below (Below.refl _ _).drew (Nat.le_refl _)) (HZ.out.below (Below.refl _ _).drew) _ _ _).mono fun _ _ hX=>hX.drew HZ.out (Below.refl _ _).drew)
   clear h hT zr zy0 zy1
   go_enter Tryz.func110,Tryz.ntmps110
   go_wp2_with fail
   go_still_tail 11,(by kernel_rfl)
   change wpList _ _ _ _ _ w.drew
   generalize w.drew=w3 at HS ⊢
   go_wp2_with fail
   refine HS.out.mono ?_
   rintro e w4 ⟨rfl,y,hy⟩
   have Y:=Lib.hid hy
   clear hy
   go_wp2_with fail
   go_end0
   exact ⟨rfl,y,Y.out⟩
 · by_cases h2:x.t.now.y≠0
   · have e:x.t.up=x.t.atY (x.t.now.y-1):=by unfold Tm.up;rw [if_neg h1,if_pos h2]
     rw [e]
     have X:=Lib.hid (h.atY (z:=x.t.now.y-1) (by omega) (by omega))
     have f2:w.frozen? ⟨g,2,none⟩=false:=h.fr 2
     have h4:¬ x.t.now.y=0:=h2
     have k0:wrap64 (x.t.now.y-1)=x.t.now.y-1:=by unfold wrap64;omega
     clear h hT zr zy0 zy1 e
     go_enter Tryz.func110,Tryz.ntmps110
     go_wp2_with fail
     go_end0
     exact X.out _ (Below.refl _ _)
   · have h2:=Classical.not_not.1 h2
     have e:x.t.up=x.t:=by unfold Tm.up;rw [if_neg h1,if_neg (fun e=>e h2)]
     rw [e]
     rw [h2] at c2
     have h3:¬ (0:Int)=x.t.top:=by omega
     clear h hT zr zy0 zy1 e h1
     go_enter Tryz.func110,Tryz.ntmps110
     go_wp2_with fail
     go_end0
     exact ⟨rfl,x,CzTo.refl HZ.out⟩
set_option maxRecDepth 100000 in
set_option maxHeartbeats 1600000 in
theorem nextLine_any (hT:Tabs w) (h:Cz B w g x):Calls Tryz.prog 100 #[.pointer (some ⟨g,0,none⟩),.slice A n c] w (CzP B g x ((x.t.atX 0).down) w):=by
 have HT:=Lib.hid hT
 have HZ:=Lib.hid h
 clear h hT
 go_enter Tryz.func100,Tryz.ntmps100
 go_wp2_with fail
 refine (lineStart_any HZ.out).mono ?_
 rintro e w1 ⟨rfl,y,hy⟩
 have Y:=Lib.hid hy
 clear hy
 go_wp2_with fail
 refine (lineDown_any (HT.out.out Y.out.cz.tab Y.out.out.bel) Y.out.cz).mono ?_
 rintro e w2 ⟨rfl,z,hz⟩
 have Z:=Lib.hid hz
 clear hz
 go_wp2_with fail
 go_end0
 exact ⟨rfl,z,(Y.out.trans Z.out).as (by rw [Y.out.t])⟩
end
end Go.Proofs.YtlcipgdnpilkfaaGreatDoor
