/-
  Part 25 of what the laws of emul want: RowsRdC, RowsRdCs, RowsRdR.
-/
import Derived.Test.YtikhknnhmnopbaaGreatDoorPm20
import Derived.Test.YtikhknnhmnopbaaGreatDoorPm24
namespace Go.Proofs.YtikhknnhmnopbaaGreatDoor
open Go.RowKit
def q1S (zs:List Int) (e:Int):=num1 zs e 4
def q2S (zs:List Int) (e:Int):=num1 (q1S zs e).2.1 (q1S zs e).2.2 2
def q3S (zs:List Int) (e:Int):=num1 (q2S zs e).2.1 (q2S zs e).2.2 2
def q4S (zs:List Int) (e:Int):=num1 (q3S zs e).2.1 (q3S zs e).2.2 1
def rcS (zs:List Int) (e:Int):Ce:=⟨i32S (q1S zs e).1,0,⟨(q2S zs e).1,(q3S zs e).1,(q4S zs e).1,0⟩⟩
theorem rc_ok {zs:List Int} (h:9≤zs.length):(q4S zs 0).2.1=zs.drop 9∧(q4S zs 0).2.2=0∧rcS zs 0=cellOf zs:=by
 have e1:q1S zs 0=(valL 0 (zs.take 4),zs.drop 4,0):=num1_ok (k:=4) (by omega) (by omega) (by omega)
 have e2:q2S zs 0=(valL 0 ((zs.drop 4).take 2),zs.drop 6,0):=by
  unfold q2S
  rw [e1]
  have:=num1_ok (zs:=zs.drop 4) (k:=2) (by omega) (by omega) (by rw [List.length_drop];omega)
  rw [List.drop_drop] at this
  exact this
 have e3:q3S zs 0=(valL 0 ((zs.drop 6).take 2),zs.drop 8,0):=by
  unfold q3S
  rw [e2]
  have:=num1_ok (zs:=zs.drop 6) (k:=2) (by omega) (by omega) (by rw [List.length_drop];omega)
  rw [List.drop_drop] at this
  exact this
 have e4:q4S zs 0=(valL 0 ((zs.drop 8).take 1),zs.drop 9,0):=by
  unfold q4S
  rw [e3]
  have:=num1_ok (zs:=zs.drop 8) (k:=1) (by omega) (by omega) (by rw [List.length_drop];omega)
  rw [List.drop_drop] at this
  exact this
 have e5:valL 0 ((zs.drop 8).take 1)=zs.getD 8 0:=by
  have hl:8<zs.length:=by omega
  rw [List.drop_eq_getElem_cons hl,List.take_succ_cons,List.take_zero,List.getD_eq_getElem?_getD,List.getElem?_eq_getElem hl]
  simp [valL]
 refine ⟨by rw [e4],by rw [e4],?_⟩
 unfold rcS cellOf
 rw [e1,e2,e3,e4,e5]
theorem rc_short {zs:List Int} (h:zs.length<9):(q4S zs 0).2.2=2:=by
 have he:(2:Int)≠0:=by decide
 by_cases h1:zs.length<4
 · have e1:q1S zs 0=(0,zs,2):=num1_short (k:=4) (by omega) (by omega) h1
   unfold q4S q3S q2S
   rw [e1,num1_err he,num1_err he,num1_err he]
 have e1:q1S zs 0=(valL 0 (zs.take 4),zs.drop 4,0):=num1_ok (k:=4) (by omega) (by omega) (by omega)
 by_cases h2:zs.length<6
 · have e2:q2S zs 0=(0,zs.drop 4,2):=by
    unfold q2S
    rw [e1]
    exact num1_short (k:=2) (by omega) (by omega) (by rw [List.length_drop];omega)
   unfold q4S q3S
   rw [e2,num1_err he,num1_err he]
 have e2:q2S zs 0=(valL 0 ((zs.drop 4).take 2),zs.drop 6,0):=by
  unfold q2S
  rw [e1]
  have:=num1_ok (zs:=zs.drop 4) (k:=2) (by omega) (by omega) (by rw [List.length_drop];omega)
  rw [List.drop_drop] at this
  exact this
 by_cases h3:zs.length<8
 · have e3:q3S zs 0=(0,zs.drop 6,2):=by
    unfold q3S
    rw [e2]
    exact num1_short (k:=2) (by omega) (by omega) (by rw [List.length_drop];omega)
   unfold q4S
   rw [e3,num1_err he]
 have e3:q3S zs 0=(valL 0 ((zs.drop 6).take 2),zs.drop 8,0):=by
  unfold q3S
  rw [e2]
  have:=num1_ok (zs:=zs.drop 6) (k:=2) (by omega) (by omega) (by rw [List.length_drop];omega)
  rw [List.drop_drop] at this
  exact this
 unfold q4S
 rw [e3]
 have:=num1_short (zs:=zs.drop 8) (k:=1) (by omega) (by omega) (by rw [List.length_drop];omega)
 have e5:((1:Nat):Int)=1:=rfl
 rw [e5] at this
 rw [this]
theorem i32_of {v:Int} (h:0≤v) (h':v<4294967296):IntKind.i32.wrap v=i32S v:=by
 rw [IntKind.wrap_i32]
 unfold i32S
 split<;>omega
theorem Cb.set {w:World} {g:Nat} {x y:Ce} {k:Nat} {v:Value} (h:Cb w g x) (e:(ceV x).set k v=ceV y) (hk:k<6):Cb (w.setCell ⟨g,k,none⟩ v) g y:=by
 obtain ⟨r,h⟩:=h
 refine ⟨r,?_⟩
 rw [heap_setCell_same w g k _ _ _ h]
 have e1:rowV ceV [x]=ceV x:=by simp [rowV]
 have e2:rowV ceV [y]=ceV y:=by simp [rowV]
 have e3:((rowV ceV [x] ++ r).toArray.setIfInBounds k v)=(rowV ceV [y] ++ r).toArray:=by
  rw [List.setIfInBounds_toArray,e1,e2,List.set_append_left _ _ (by rw [ceV_len];exact hk),e]
 rw [e3]
theorem grownBy_far {a b c:World} {row:Option Nat} {g:Nat} (h:a.grownBy b row) (k:b.grownBy c (some g)) (hg:a.heap.size≤g):a.grownBy c row :=
 ⟨k.os.trans h.os,k.tape.trans h.tape,k.output.trans h.output,Nat.le_trans h.size k.size,fun i hi hr=>(k.block i (Nat.lt_of_lt_of_le hi h.size) (fun e=>by injection e with e;omega)).trans (h.block i hi hr)⟩
set_option maxHeartbeats 3200000 in
set_option maxRecDepth 100000 in
theorem readCell_any {base r:Nat} {zs:List Int} {e:Int} {w:World} (h:Rz base r zs e w) :
  Calls Tryz.prog 88 #[.pointer (some ⟨r,0,none⟩)] w fun e' w'=>e'=.returned (.agg (ceA (rcS zs e)))∧Rz base r (q4S zs e).2.1 (q4S zs e).2.2 w'∧w.grownBy w' (some r):=by
 obtain ⟨b,hb⟩:∃ b,b=w.heap.size:=⟨_,rfl⟩
 obtain ⟨w1,hw1⟩:∃ w1,w1=(w.alloc (.cells (ceA ce0) 43)).alloc (.cells (ceA ce0) 43):=⟨_,rfl⟩
 have H1:=Lib.hid (show Cb w1 b ce0∧Cb w1 (b+1) ce0∧Rz base r zs e w1∧w.grownBy w1 (some r)∧r<b∧w.heap.size≤b from by
  have h1:=Cb.new w ce0
  have h2:=Cb.new (w.alloc (.cells (ceA ce0) 43)) ce0
  rw [World.size_alloc] at h2
  have hb1:Below w.heap.size w w1:=by rw [hw1];exact ((Below.refl _ _).alloc (Nat.le_refl _) _).alloc (by simp) _
  rw [hb]
  exact ⟨by rw [hw1];exact h1.below ((Below.refl _ _).alloc (Nat.le_refl _) _),by rw [hw1];exact h2,h.below hb1,(grownBy_below hb1:w.grownBy w1 (some r)),h.lt,Nat.le_refl _⟩)
 have HU:=Lib.hid h.u8
 clear h
 unfold ceA ce0 pn0 at hw1
 dsimp only at hw1
 go_enter Tryz.func88,Tryz.ntmps88
 go_upto_region 2 with fail
 rw [← hw1,← hb]
 clear hw1 hb
 have P:=Lib.hid (rzNum_any H1.out.2.2.1 4 (by omega))
 have hbd:=num1_bd H1.out.2.2.1.u8 (e) 4
 have e1:((4:Nat):Int)=4:=rfl
 rw [e1] at P hbd
 rw [show num1 (zs) (e) 4=q1S zs e from rfl] at P hbd
 have hv:IntKind.i32.wrap (q1S zs e).1=i32S (q1S zs e).1:=by
  exact i32_of hbd.1 (by have:=hbd.2;simp at this;omega)
 clear e1 hbd
 go_wp2_with fail
 refine P.out.mono ?_
 rintro e' w2 ⟨rfl,h1,h2⟩
 have G:=Lib.hid (show Cb w2 b ce0∧Cb w2 (b+1) ce0∧Rz base r (q1S zs e).2.1 (q1S zs e).2.2 w2∧w.grownBy w2 (some r)∧r<b∧w.heap.size≤b from
  ⟨H1.out.1.grown h2 (fun e=>by injection e with e;have:=H1.out.2.2.2.2.1;omega),H1.out.2.1.grown h2 (fun e=>by injection e with e;have:=H1.out.2.2.2.2.1;omega),h1,grownBy_trans H1.out.2.2.2.1 h2,H1.out.2.2.2.2⟩)
 clear h1 h2 P H1
 have hfz:=G.out.2.1.free 0
 have hcl:=G.out.2.1.cell (j:=0) rfl
 try dsimp only at hcl
 obtain ⟨w3,hws⟩:∃ q,q=w2.setCell ⟨b+1,0,none⟩ (.int .i32 (i32S (q1S zs e).1)):=⟨_,rfl⟩
 have H2:=Lib.hid (show Cb w3 b ce0∧Cb w3 (b+1) ⟨i32S (q1S zs e).1,0,⟨0,0,0,0⟩⟩∧Rz base r (q1S zs e).2.1 (q1S zs e).2.2 w3∧w.grownBy w3 (some r)∧r<b∧w.heap.size≤b from by
  have hg:w2.grownBy w3 (some (b+1)):=by rw [hws];exact grownBy_set w2 ⟨b+1,0,none⟩ _
  have hlt:=G.out.2.2.2.2.1
  have hle:=G.out.2.2.2.2.2
  have hbs:=G.out.2.1.lt
  refine ⟨G.out.1.grown hg (fun e=>by injection e with e;omega),by rw [hws];exact G.out.2.1.set rfl (by omega),G.out.2.2.1.grown hg (.inr (by omega)),grownBy_far G.out.2.2.2.1 hg (by omega),hlt,hle⟩)
 go_upto_region 3 with fail
 rw [← hws]
 clear hws hfz hcl hv G
 have P:=Lib.hid (rzNum_any H2.out.2.2.1 2 (by omega))
 have hbd:=num1_bd H2.out.2.2.1.u8 ((q1S zs e).2.2) 2
 have e1:((2:Nat):Int)=2:=rfl
 rw [e1] at P hbd
 rw [show num1 ((q1S zs e).2.1) ((q1S zs e).2.2) 2=q2S zs e from rfl] at P hbd
 have hv:IntKind.u32.wrap (q2S zs e).1=(q2S zs e).1:=by
  rw [IntKind.wrap_u32];have:=hbd.1;have:=hbd.2;simp at *;omega
 clear e1 hbd
 go_wp2_with fail
 refine P.out.mono ?_
 rintro e' w4 ⟨rfl,h1,h2⟩
 have G:=Lib.hid (show Cb w4 b ce0∧Cb w4 (b+1) ⟨i32S (q1S zs e).1,0,⟨0,0,0,0⟩⟩∧Rz base r (q2S zs e).2.1 (q2S zs e).2.2 w4∧w.grownBy w4 (some r)∧r<b∧w.heap.size≤b from
  ⟨H2.out.1.grown h2 (fun e=>by injection e with e;have:=H2.out.2.2.2.2.1;omega),H2.out.2.1.grown h2 (fun e=>by injection e with e;have:=H2.out.2.2.2.2.1;omega),h1,grownBy_trans H2.out.2.2.2.1 h2,H2.out.2.2.2.2⟩)
 clear h1 h2 P H2
 have hfz:=G.out.2.1.free 2
 have hcl:=G.out.2.1.cell (j:=2) rfl
 try dsimp only at hcl
 obtain ⟨w5,hws⟩:∃ q,q=w4.setCell ⟨b+1,2,none⟩ (.int .u32 ((q2S zs e).1)):=⟨_,rfl⟩
 have H3:=Lib.hid (show Cb w5 b ce0∧Cb w5 (b+1) ⟨i32S (q1S zs e).1,0,⟨(q2S zs e).1,0,0,0⟩⟩∧Rz base r (q2S zs e).2.1 (q2S zs e).2.2 w5∧w.grownBy w5 (some r)∧r<b∧w.heap.size≤b from by
  have hg:w4.grownBy w5 (some (b+1)):=by rw [hws];exact grownBy_set w4 ⟨b+1,2,none⟩ _
  have hlt:=G.out.2.2.2.2.1
  have hle:=G.out.2.2.2.2.2
  have hbs:=G.out.2.1.lt
  refine ⟨G.out.1.grown hg (fun e=>by injection e with e;omega),by rw [hws];exact G.out.2.1.set rfl (by omega),G.out.2.2.1.grown hg (.inr (by omega)),grownBy_far G.out.2.2.2.1 hg (by omega),hlt,hle⟩)
 go_upto_region 4 with fail
 rw [← hws]
 clear hws hfz hcl hv G
 have P:=Lib.hid (rzNum_any H3.out.2.2.1 2 (by omega))
 have hbd:=num1_bd H3.out.2.2.1.u8 ((q2S zs e).2.2) 2
 have e1:((2:Nat):Int)=2:=rfl
 rw [e1] at P hbd
 rw [show num1 ((q2S zs e).2.1) ((q2S zs e).2.2) 2=q3S zs e from rfl] at P hbd
 have hv:IntKind.u32.wrap (q3S zs e).1=(q3S zs e).1:=by
  rw [IntKind.wrap_u32];have:=hbd.1;have:=hbd.2;simp at *;omega
 clear e1 hbd
 go_wp2_with fail
 refine P.out.mono ?_
 rintro e' w6 ⟨rfl,h1,h2⟩
 have G:=Lib.hid (show Cb w6 b ce0∧Cb w6 (b+1) ⟨i32S (q1S zs e).1,0,⟨(q2S zs e).1,0,0,0⟩⟩∧Rz base r (q3S zs e).2.1 (q3S zs e).2.2 w6∧w.grownBy w6 (some r)∧r<b∧w.heap.size≤b from
  ⟨H3.out.1.grown h2 (fun e=>by injection e with e;have:=H3.out.2.2.2.2.1;omega),H3.out.2.1.grown h2 (fun e=>by injection e with e;have:=H3.out.2.2.2.2.1;omega),h1,grownBy_trans H3.out.2.2.2.1 h2,H3.out.2.2.2.2⟩)
 clear h1 h2 P H3
 have hfz:=G.out.2.1.free 3
 have hcl:=G.out.2.1.cell (j:=3) rfl
 try dsimp only at hcl
 obtain ⟨w7,hws⟩:∃ q,q=w6.setCell ⟨b+1,3,none⟩ (.int .u32 ((q3S zs e).1)):=⟨_,rfl⟩
 have H4:=Lib.hid (show Cb w7 b ce0∧Cb w7 (b+1) ⟨i32S (q1S zs e).1,0,⟨(q2S zs e).1,(q3S zs e).1,0,0⟩⟩∧Rz base r (q3S zs e).2.1 (q3S zs e).2.2 w7∧w.grownBy w7 (some r)∧r<b∧w.heap.size≤b from by
  have hg:w6.grownBy w7 (some (b+1)):=by rw [hws];exact grownBy_set w6 ⟨b+1,3,none⟩ _
  have hlt:=G.out.2.2.2.2.1
  have hle:=G.out.2.2.2.2.2
  have hbs:=G.out.2.1.lt
  refine ⟨G.out.1.grown hg (fun e=>by injection e with e;omega),by rw [hws];exact G.out.2.1.set rfl (by omega),G.out.2.2.1.grown hg (.inr (by omega)),grownBy_far G.out.2.2.2.1 hg (by omega),hlt,hle⟩)
 go_upto_region 5 with fail
 rw [← hws]
 clear hws hfz hcl hv G
 have P:=Lib.hid (rzNum_any H4.out.2.2.1 1 (by omega))
 have hbd:=num1_bd H4.out.2.2.1.u8 ((q3S zs e).2.2) 1
 have e1:((1:Nat):Int)=1:=rfl
 rw [e1] at P hbd
 rw [show num1 ((q3S zs e).2.1) ((q3S zs e).2.2) 1=q4S zs e from rfl] at P hbd
 have hv:IntKind.u8.wrap (q4S zs e).1=(q4S zs e).1:=by
  rw [IntKind.wrap_u8];have:=hbd.1;have:=hbd.2;simp at *;omega
 clear e1 hbd
 go_wp2_with fail
 refine P.out.mono ?_
 rintro e' w8 ⟨rfl,h1,h2⟩
 have G:=Lib.hid (show Cb w8 b ce0∧Cb w8 (b+1) ⟨i32S (q1S zs e).1,0,⟨(q2S zs e).1,(q3S zs e).1,0,0⟩⟩∧Rz base r (q4S zs e).2.1 (q4S zs e).2.2 w8∧w.grownBy w8 (some r)∧r<b∧w.heap.size≤b from
  ⟨H4.out.1.grown h2 (fun e=>by injection e with e;have:=H4.out.2.2.2.2.1;omega),H4.out.2.1.grown h2 (fun e=>by injection e with e;have:=H4.out.2.2.2.2.1;omega),h1,grownBy_trans H4.out.2.2.2.1 h2,H4.out.2.2.2.2⟩)
 clear h1 h2 P H4
 have hfz:=G.out.2.1.free 4
 have hcl:=G.out.2.1.cell (j:=4) rfl
 try dsimp only at hcl
 obtain ⟨w9,hws⟩:∃ q,q=w8.setCell ⟨b+1,4,none⟩ (.int .u8 ((q4S zs e).1)):=⟨_,rfl⟩
 have H5:=Lib.hid (show Cb w9 b ce0∧Cb w9 (b+1) ⟨i32S (q1S zs e).1,0,⟨(q2S zs e).1,(q3S zs e).1,(q4S zs e).1,0⟩⟩∧Rz base r (q4S zs e).2.1 (q4S zs e).2.2 w9∧w.grownBy w9 (some r)∧r<b∧w.heap.size≤b from by
  have hg:w8.grownBy w9 (some (b+1)):=by rw [hws];exact grownBy_set w8 ⟨b+1,4,none⟩ _
  have hlt:=G.out.2.2.2.2.1
  have hle:=G.out.2.2.2.2.2
  have hbs:=G.out.2.1.lt
  refine ⟨G.out.1.grown hg (fun e=>by injection e with e;omega),by rw [hws];exact G.out.2.1.set rfl (by omega),G.out.2.2.1.grown hg (.inr (by omega)),grownBy_far G.out.2.2.2.1 hg (by omega),hlt,hle⟩)
 go_upto_region 6 with fail
 rw [← hws]
 clear hws hfz hcl hv G
 obtain ⟨d0,d1,d2,d3,d4,d5⟩:=H5.out.2.1.all
 go_wp2_with (refine wpList_store_V rfl 43 (.tmp 2) (.tmp 23) rfl ceV_len one_ce infoCe b _ 0 (rcS zs e) _ rfl (by omega) rfl rfl 43 [ce0] H5.out.1 (by decide) ?_;intro w10 hR hg)
 have H6:=Lib.hid (show Rz base r (q4S zs e).2.1 (q4S zs e).2.2 w10∧w.grownBy w10 (some r) from ⟨H5.out.2.2.1.grown hg (.inr H5.out.2.2.2.2.1),grownBy_far H5.out.2.2.2.1 hg H5.out.2.2.2.2.2⟩)
 clear hg d0 d1 d2 d3 d4 d5
 obtain ⟨y0,y1,y2,y3,y4,y5⟩:=Cb.all (x:=rcS zs e) hR
 exact bodyPost_ret (v:=.agg (ceA (rcS zs e))) (by simp [results,Tryz.results88,ceA,go_sem,y0,y1,y2,y3,y4,y5]) rfl ⟨rfl,H6.out.1,H6.out.2⟩
open Go.RowKit
structure Gr2 (g r:Nat) (w w':World):Prop where
 os:w'.os=w.os
 tape:w'.tape=w.tape
 output:w'.output=w.output
 size:w.heap.size≤w'.heap.size
 block:∀ k,k<w.heap.size→k≠g→k≠r→w'.heap[k]?=w.heap[k]?
theorem Gr2.refl (g r:Nat) (w:World):Gr2 g r w w:=⟨rfl,rfl,rfl,Nat.le_refl _,fun _ _ _ _=>rfl⟩
theorem Gr2.trans {g r:Nat} {a b c:World} (h:Gr2 g r a b) (k:Gr2 g r b c):Gr2 g r a c :=
 ⟨k.os.trans h.os,k.tape.trans h.tape,k.output.trans h.output,Nat.le_trans h.size k.size,fun i hi h1 h2=>(k.block i (Nat.lt_of_lt_of_le hi h.size) h1 h2).trans (h.block i hi h1 h2)⟩
theorem Gr2.of1 {g r:Nat} {w w':World} (h:w.grownBy w' (some r)):Gr2 g r w w':=⟨h.os,h.tape,h.output,h.size,fun k hk _ h2=>h.block k hk (by intro e;injection e with e;exact h2 e)⟩
theorem Gr2.of2 {g r:Nat} {w w':World} (h:w.grownBy w' (some g)):Gr2 g r w w':=⟨h.os,h.tape,h.output,h.size,fun k hk h1 _=>h.block k hk (by intro e;injection e with e;exact h1 e)⟩
theorem Gr2.below {g r:Nat} {w w':World} (h:Below w.heap.size w w'):Gr2 g r w w':=⟨h.os,h.tape,h.output,h.size,fun k hk _ _=>h.block k hk⟩
theorem Gr2.toBelow {g r B:Nat} {w w':World} (h:Gr2 g r w w') (hg:B≤g) (hr:B≤r) (hB:B≤w.heap.size):Below B w w':=⟨h.os,h.tape,h.output,h.size,fun k hk=>h.block k (by omega) (by omega) (by omega)⟩
theorem Gr2.rw {α:Type} {f:α→List Value} {t:TypeId} {g r q:Nat} {w w':World} {L:List α} (h:Gr2 g r w w') (k:Rw f t w q L) (h1:q≠g) (h2:q≠r):Rw f t w' q L:=k.kept (h.block q k.lt h1 h2)
theorem okC_may {c:Ce} (h:c.p.fg<65536) (h':c.p.bg<65536):okC c=cellMay c:=by
 unfold okC
 cases hm:cellMay c
 · rfl
 · have h1:penMayS c.p=true:=by unfold cellMay at hm;simp only [Bool.and_eq_true] at hm;exact hm.1
   unfold penMayS colMay at h1
   simp only [Bool.and_eq_true,decide_eq_true_eq] at h1
   rw [decide_eq_true (show c.p.fg≤256 by omega),decide_eq_true (show c.p.bg≤256 by omega)]
   rfl
def CsEnd (base g r n i0:Nat) (L:List Ce) (zs:List Int) (w:World) (e':Ending) (w':World):Prop :=
 Gr2 g r w w'∧((∃ L' zs',rdIn n i0 L zs=.ok (L',zs')∧e'=.returned (.int .i64 0)∧Rz base r zs' 0 w'∧Rw ceV 43 w' g L'∧L'.length=L.length)∨(∃ E:Int,rdIn n i0 L zs=.error E∧E≠0∧e'=.returned (.int .i64 E)))
theorem getD_u8 {zs:List Int} (h:U8s zs) (k:Nat):0≤zs.getD k 0∧zs.getD k 0≤255:=h.getD k
theorem rc_bd {zs:List Int} (h:U8s zs) (e:Int):(rcS zs e).p.fg<65536∧(rcS zs e).p.bg<65536:=by
 have h1:U8s (q1S zs e).2.1:=num1_u8 h _ _
 have h2:U8s (q2S zs e).2.1:=num1_u8 h1 _ _
 exact ⟨(num1_bd h1 _ 2).2,(num1_bd h2 _ 2).2⟩
set_option maxHeartbeats 6400000 in
set_option maxRecDepth 100000 in
theorem readCells_any {base g r n i0 cc:Nat} {L:List Ce} {zs:List Int} {w:World} (hT:∀ w',Gr2 g r w w'→Tabs w') (h:Rz base r zs 0 w) (hR:Rw ceV 43 w g L) (hg:g<base∨r<g) (hn:i0+n≤L.length) (hl:L.length≤4000) :
  Calls Tryz.prog 60 #[.pointer (some ⟨r,0,none⟩),.slice (some ⟨g,i0*6,none⟩) n cc] w (CsEnd base g r n i0 L zs w):=by
 have HT:=Lib.hid hT
 have HG:=Lib.hid (And.intro hg (And.intro hn hl))
 have H0:=Lib.hid (And.intro h hR)
 have hn8:n≤4000:=by omega
 clear hT h hR hg hn hl
 go_enter Tryz.func60,Tryz.ntmps60
 go_wp2_with fail
 go_loopw [10] (fun v wr=>∃ (i:Nat) (M:List Ce) (zz:List Int),i≤n∧v=.int .i64 i∧Gr2 g r w wr∧Rz base r zz 0 wr∧Rw ceV 43 wr g M∧M.length=L.length∧rdIn n i0 L zs=rdIn (n-i) (i0+i) M zz) (fun v _=>n-(intOf v).toNat)
 case atStart=>exact ⟨0,L,zs,Nat.zero_le _,rfl,Gr2.refl _ _ _,H0.out.1,H0.out.2,rfl,rfl⟩
 case round =>
  obtain ⟨i,M,zz,hi,rfl,h1,h2,h3,h4,h5⟩:=hrel
  have Y:=Lib.hid (And.intro h1 (And.intro h2 (And.intro h3 (And.intro h4 h5))))
  clear h1 h2 h3 h4 h5 H0
  by_cases hlt:i<n
  · have PC:=Lib.hid (readCell_any Y.out.2.1)
    obtain ⟨c,hc⟩:∃ c,rcS zz 0=c:=⟨_,rfl⟩
    obtain ⟨E,hE⟩:∃ E,(q4S zz 0).2.2=E:=⟨_,rfl⟩
    rw [hc,hE] at PC
    have HC:=Lib.hid (And.intro hc hE)
    clear hc hE
    go_upto_region 4 with fail
    go_wp2_with fail
    refine PC.out.mono ?_
    rintro e' w2 ⟨rfl,h1,h2⟩
    obtain ⟨b3,hb3⟩:∃ b3,b3=w2.heap.size:=⟨_,rfl⟩
    obtain ⟨w3,hw3⟩:∃ w3,w3=w2.alloc (.cells (ceA c) 43):=⟨_,rfl⟩
    have H3:=Lib.hid (show Cb w3 b3 c∧Gr2 g r w w3∧Rz base r (q4S zz 0).2.1 E w3∧Rw ceV 43 w3 g M∧g<b3∧r<b3 from by
     have hb:Below w2.heap.size w2 w3:=by rw [hw3];exact (Below.refl _ _).alloc (Nat.le_refl _) _
     have hne:some r≠some g:=by intro e;injection e with e;have:=HG.out.1;have:=h1.lo;omega
     have hR2:=Y.out.2.2.1.grown h2 hne
     refine ⟨by rw [hw3,hb3];exact Cb.new w2 c,(Y.out.1.trans (Gr2.of1 h2)).trans (Gr2.below hb),h1.below hb,hR2.below hb,by rw [hb3];exact hR2.lt,by rw [hb3];exact h1.lt⟩)
    clear h1 h2 PC
    unfold ceA at hw3 ⊢
    go_upto_region 5 with fail
    rw [← hw3,← hb3]
    clear hw3 hb3
    obtain ⟨A5,n5,c5,hrd⟩:=H3.out.2.2.1.rd
    have PE:=Lib.hid (err_any hrd)
    clear hrd
    go_wp2_with fail
    refine PE.out.mono ?_
    rintro e' w4 ⟨rfl,rfl⟩
    clear PE
    by_cases h9:zz.length<9
    · have hE2:E=2:=by rw [← HC.out.2];exact rc_short h9
      subst hE2
      have X:CsEnd base g r n i0 L zs w (.returned (.int .i64 2)) w3:=by
       refine ⟨H3.out.2.1,.inr ⟨2,?_,by decide,rfl⟩⟩
       rw [Y.out.2.2.2.2,show n-i=(n-i-1)+1 from by omega]
       exact rdIn_short h9
      go_wp2_with fail
      go_ret
      exact X
    · have hok:=rc_ok (zs:=zz) (by omega)
      have hE0:E=0:=by rw [← HC.out.2];exact hok.2.1
      subst hE0
      have HCC:=Lib.hid (show c=cellOf zz∧(q4S zz 0).2.1=zz.drop 9∧okC c=cellMay c from ⟨by rw [← HC.out.1];exact hok.2.2,hok.1,by rw [← HC.out.1];exact okC_may (rc_bd Y.out.2.1.u8 0).1 (rc_bd Y.out.2.1.u8 0).2⟩)
      clear hok
      obtain ⟨d0,d1,d2,d3,d4,d5⟩:=H3.out.1.all
      have PM:=Lib.hid (ceMay_any c (HT.out _ H3.out.2.1))
      obtain ⟨K,hK⟩:∃ K,cellMay c=K:=⟨_,rfl⟩
      rw [hK] at PM HCC
      clear hK
      unfold ceA at PM
      go_wp2_with fail
      refine PM.out.mono ?_
      rintro e' w5 ⟨rfl,hb5⟩
      have H5:=Lib.hid (show Cb w5 b3 c∧Gr2 g r w w5∧Rz base r (zz.drop 9) 0 w5∧Rw ceV 43 w5 g M∧g<b3∧r<b3 from ⟨H3.out.1.below hb5,H3.out.2.1.trans (Gr2.below hb5),by rw [← HCC.out.2.1];exact H3.out.2.2.1.below hb5,H3.out.2.2.2.1.below hb5,H3.out.2.2.2.2⟩)
      clear hb5 PM d0 d1 d2 d3 d4 d5 H3
      cases K
      · have X:CsEnd base g r n i0 L zs w (.returned (.int .i64 3)) w5:=by
         refine ⟨H5.out.2.1,.inr ⟨3,?_,by decide,rfl⟩⟩
         rw [Y.out.2.2.2.2,show n-i=(n-i-1)+1 from by omega]
         exact rdIn_bad h9 (by rw [← HCC.out.1];exact HCC.out.2.2)
        go_wp2_with fail
        go_ret
        exact X
      · obtain ⟨d0,d1,d2,d3,d4,d5⟩:=H5.out.1.all
        have HML:=Lib.hid (show i0+i<M.length from by have:=Y.out.2.2.2.1;have:=HG.out.2.1;omega)
        go_upto_region 10 with fail
        go_wp2_with (refine wpList_store_V rfl 43 (.tmp 26) (.tmp 25) rfl ceV_len one_ce infoCe g _ (i0+i) c _ rfl (by omega) rfl rfl 43 M H5.out.2.2.2.1 HML.out ?_;intro w6 hR6 hg6)
        have H6:=Lib.hid (show Gr2 g r w w6∧Rz base r (zz.drop 9) 0 w6∧Rw ceV 43 w6 g (M.set (i0+i) c)∧(M.set (i0+i) c).length=L.length∧rdIn n i0 L zs=rdIn (n-(i+1)) (i0+(i+1)) (M.set (i0+i) c) (zz.drop 9) from by
         refine ⟨H5.out.2.1.trans (Gr2.of2 hg6),H5.out.2.2.1.grown hg6 HG.out.1,hR6,by rw [List.length_set];exact Y.out.2.2.2.1,?_⟩
         rw [Y.out.2.2.2.2,show n-i=(n-(i+1))+1 from by omega,rdIn_one h9 (by rw [← HCC.out.1];exact HCC.out.2.2),← HCC.out.1]
         rfl)
        clear hR6 hg6 d0 d1 d2 d3 d4 d5 H5
        go_wp2_with fail
        go_roundw
        case rel=>exact ⟨i+1,_,_,by omega,by go_num,H6.out.1,H6.out.2.1,H6.out.2.2.1,H6.out.2.2.2.1,H6.out.2.2.2.2⟩
        case measure=>simp [intOf];omega
  · have hin:i=n:=by omega
    subst hin
    have X:CsEnd base g r i i0 L zs w (.returned (.int .i64 0)) wr:=by
     refine ⟨Y.out.1,.inl ⟨M,zz,?_,rfl,Y.out.2.1,Y.out.2.2.1,Y.out.2.2.2.1⟩⟩
     rw [Y.out.2.2.2.2,Nat.sub_self,rdIn_none]
    go_wp2_with fail
    go_ret
    exact X
open Go.RowKit
def rowsR (c rr:Nat) (L:List Ce):List Int→Except Int (List Ce × List Int)
 | []=>.error 2
 | n :: t=>rdRows c rr n.toNat (-1) L t
theorem restB_is (c rr:Nat) (s:Sc) (t:List Int):restB c rr s t=endA s (rowsR c rr s.cells t):=by
 cases t with
 | nil=>rfl
 | cons n t=>rfl
def RsEnd (base g r:Nat) (N:Nat) (q:Except Int (List Ce × List Int)) (w:World) (e':Ending) (w':World):Prop :=
 Gr2 g r w w'∧((∃ L' zs',q=.ok (L',zs')∧e'=.returned (.int .i64 0)∧Rz base r zs' 0 w'∧Rw ceV 43 w' g L'∧L'.length=N)∨(∃ E:Int,q=.error E∧E≠0∧e'=.returned (.int .i64 E)))
theorem num1_cons {y:Int} {t:List Int}:num1 (y :: t) 0 1=(y,t,0):=by
 have:=num1_ok (zs:=y :: t) (k:=1) (by omega) (by omega) (by simp)
 rw [show ((1:Nat):Int)=1 from rfl] at this
 rw [this]
 simp [valL]
theorem num1_nil:num1 [] 0 1=(0,[],2):=by
 have:=num1_short (zs:=[]) (k:=1) (by omega) (by omega) (by simp)
 rw [show ((1:Nat):Int)=1 from rfl] at this
 exact this
set_option maxHeartbeats 3200000 in
set_option maxRecDepth 100000 in
theorem readRows_err {base g r:Nat} {s:ScR} {zs zz:List Int} {e E:Int} {w:World} (h:Rz base r zs e w) (hq:num1 zs e 1=(0,zz,E)) :
  Calls Tryz.prog 37 #[.pointer (some ⟨r,0,none⟩),.agg (scrA s)] w fun e' w'=>Gr2 g r w w'∧e'=.returned (.int .i64 E):=by
 obtain ⟨b,hb⟩:∃ b,b=w.heap.size:=⟨_,rfl⟩
 obtain ⟨w1,hw1⟩:∃ w1,w1=w.alloc (.cells (scrA s) 25):=⟨_,rfl⟩
 have H1:=Lib.hid (show Gr2 g r w w1∧Rz base r zs e w1 from by
  have hbb:Below w.heap.size w w1:=by rw [hw1];exact (Below.refl _ _).alloc (Nat.le_refl _) _
  exact ⟨Gr2.below hbb,h.below hbb⟩)
 have PB:=Lib.hid (readByte_any H1.out.2)
 rw [hq] at PB
 clear h hq
 unfold scrA at hw1 ⊢
 go_enter Tryz.func37,Tryz.ntmps37
 go_upto_region 1 with fail
 rw [← hw1]
 clear hw1 hb
 go_wp2_with fail
 refine PB.out.mono ?_
 rintro e' w2 ⟨rfl,h1,h2⟩
 have H2:=Lib.hid (show Gr2 g r w w2∧Rz base r zz E w2 from ⟨H1.out.1.trans (Gr2.of1 h2),h1⟩)
 clear h1 h2 PB H1
 dsimp only
 go_wp2_with fail
 go_loopw [11] (fun v wr=>v=.int .i64 0∧wr=w2) (fun _ _=>0)
 case atStart=>exact ⟨rfl,rfl⟩
 case round =>
  obtain ⟨rfl,rfl⟩:=hrel
  obtain ⟨A5,n5,c5,hrd⟩:=H2.out.2.rd
  have PE:=Lib.hid (err_any hrd)
  clear hrd
  go_wp2_with fail
  refine PE.out.mono ?_
  rintro e' w4 ⟨rfl,rfl⟩
  go_wp2_with fail
  go_ret
  exact ⟨H2.out.1,rfl⟩
set_option maxHeartbeats 6400000 in
set_option maxRecDepth 100000 in
theorem readRows_cons {base g r c rr:Nat} {s:ScR} {n:Int} {t:List Int} {L:List Ce} {w:World} (hT:∀ w',Gr2 g r w w'→Tabs w') (h:Rz base r (n :: t) 0 w) (hR:Rw ceV 43 w g L) (hg:g<base∨r<g) (hA:s.A=some ⟨g,0,none⟩) (hc:s.c=(c:Int)) (hr:s.r=(rr:Int)) (hn:s.n=rr*c) (hk:s.n≤s.k) (hl:L.length=rr*c) (h1:1≤c) (h80:c≤80) (h24:rr≤24) :
  Calls Tryz.prog 37 #[.pointer (some ⟨r,0,none⟩),.agg (scrA s)] w (RsEnd base g r L.length (rdRows c rr n.toNat (-1) L t) w):=by
 have HT:=Lib.hid hT
 have HC:=Lib.hid (And.intro hA (And.intro hc (And.intro hr (And.intro hn (And.intro hk hl)))))
 have HG:=Lib.hid hg
 obtain ⟨b,hb⟩:∃ b,b=w.heap.size:=⟨_,rfl⟩
 obtain ⟨w1,hw1⟩:∃ w1,w1=w.alloc (.cells (scrA s) 25):=⟨_,rfl⟩
 have H1:=Lib.hid (show Gr2 g r w w1∧Rz base r (n :: t) 0 w1∧Rw ceV 43 w1 g L∧Sx w1 b s∧g<b∧r<b from by
  have hbb:Below w.heap.size w w1:=by rw [hw1];exact (Below.refl _ _).alloc (Nat.le_refl _) _
  exact ⟨Gr2.below hbb,h.below hbb,hR.below hbb,by rw [hw1,hb];exact Sx.new w s,by rw [hb];exact hR.lt,by rw [hb];exact h.lt⟩)
 have hn0:=h.u8 n (by simp)
 obtain ⟨N,hN⟩:∃ N:Nat,n=(N:Int):=⟨n.toNat,by omega⟩
 subst hN
 have hN8:N≤255:=by omega
 rw [Int.toNat_natCast]
 have PB:=Lib.hid (readByte_any H1.out.2.1)
 rw [num1_cons] at PB
 have hlc:L.length≤4000:=by rw [hl];exact Nat.le_trans (Nat.mul_le_mul h24 h80) (by omega)
 clear h hT hR hg hA hc hr hn hk hl hn0
 unfold scrA at hw1 ⊢
 go_enter Tryz.func37,Tryz.ntmps37
 go_upto_region 1 with fail
 rw [← hw1,← hb]
 clear hw1 hb
 go_wp2_with fail
 refine PB.out.mono ?_
 rintro e' w2 ⟨rfl,h1',h2⟩
 have H2:=Lib.hid (show Gr2 g r w w2∧Rz base r t 0 w2∧Rw ceV 43 w2 g L∧Sx w2 b s from
  ⟨H1.out.1.trans (Gr2.of1 h2),h1',H1.out.2.2.1.grown h2 (by intro e;injection e with e;have:=HG.out;have:=h1'.lo;omega),H1.out.2.2.2.1.grown h2 (by intro e;injection e with e;have:=H1.out.2.2.2.2.2;omega)⟩)
 have HB:=Lib.hid H1.out.2.2.2.2
 clear h1' h2 PB H1
 dsimp only
 go_wp2_with fail
 go_loopw [5,11] (fun v5 v11 wr=>∃ (k:Nat) (last:Int) (M:List Ce) (zz:List Int),k≤N∧v11=.int .i64 k∧v5=.int .i64 last∧(-1≤last∧last≤255)∧Gr2 g r w wr∧Rz base r zz 0 wr∧Rw ceV 43 wr g M∧Sx wr b s∧M.length=L.length∧rdRows c rr N (-1) L t=rdRows c rr (N-k) last M zz) (fun _ v _=>N-(intOf v).toNat)
 case atStart=>exact ⟨0,-1,L,t,Nat.zero_le _,rfl,rfl,by omega,H2.out.1,H2.out.2.1,H2.out.2.2.1,H2.out.2.2.2,rfl,rfl⟩
 case round =>
  obtain ⟨k,last,M,zz,hk,rfl,rfl,hlast,h1',h2',h3',h4',h5',h6'⟩:=hrel
  have Y:=Lib.hid (And.intro h1' (And.intro h2' (And.intro h3' (And.intro h4' (And.intro h5' h6')))))
  clear h1' h2' h3' h4' h5' h6' H2
  by_cases hlt:k<N
  · have PB:=Lib.hid (readByte_any Y.out.2.1)
    cases zz with
    | nil =>
     rw [num1_nil] at PB
     go_wp2_with fail
     refine PB.out.mono ?_
     rintro e' w3 ⟨rfl,h1',h2⟩
     have H3:=Lib.hid (show Gr2 g r w w3∧Rz base r [] 2 w3 from ⟨Y.out.1.trans (Gr2.of1 h2),h1'⟩)
     clear h1' h2 PB
     obtain ⟨A5,n5,c5,hrd⟩:=H3.out.2.rd
     have PE:=Lib.hid (err_any hrd)
     clear hrd
     dsimp only
     go_wp2_with fail
     refine PE.out.mono ?_
     rintro e' w4 ⟨rfl,rfl⟩
     have X:RsEnd base g r L.length (rdRows c rr N (-1) L t) w (.returned (.int .i64 2)) w3:=by
      refine ⟨H3.out.1,.inr ⟨2,?_,by decide,rfl⟩⟩
      rw [Y.out.2.2.2.2.2,show N-k=(N-k-1)+1 from by omega]
      exact rdRows_out _ _ _ _ _
     go_wp2_with fail
     go_ret
     exact X
    | cons y zz =>
     rw [num1_cons] at PB
     have hy8:=Y.out.2.1.u8 y (by simp)
     go_wp2_with fail
     refine PB.out.mono ?_
     rintro e' w3 ⟨rfl,h1',h2⟩
     have H3:=Lib.hid (show Gr2 g r w w3∧Rz base r zz 0 w3∧Rw ceV 43 w3 g M∧Sx w3 b s from
      ⟨Y.out.1.trans (Gr2.of1 h2),h1',Y.out.2.2.1.grown h2 (by intro e;injection e with e;have:=HG.out;have:=h1'.lo;omega),Y.out.2.2.2.1.grown h2 (by intro e;injection e with e;have:=HB.out.2;omega)⟩)
     clear h1' h2 PB
     obtain ⟨A5,n5,c5,hrd⟩:=H3.out.2.1.rd
     have PE:=Lib.hid (err_any hrd)
     clear hrd
     dsimp only
     go_wp2_with fail
     refine PE.out.mono ?_
     rintro e' w4 ⟨rfl,rfl⟩
     clear PE
     obtain ⟨d0,d1,d2,d3,d4,d5,d6,d7,d8,_⟩:=sx_cells H3.out.2.2.2
     have HN1:=Lib.hid (show N-k=(N-(k+1))+1 from by omega)
     by_cases hyr:s.r≤y
     · have X:RsEnd base g r L.length (rdRows c rr N (-1) L t) w (.returned (.int .i64 3)) w3:=by
        refine ⟨H3.out.1,.inr ⟨3,?_,by decide,rfl⟩⟩
        rw [Y.out.2.2.2.2.2,HN1.out]
        exact rdRows_off (.inl (by rw [← HC.out.2.2.1];exact hyr))
       go_wp2_with fail
       go_ret
       exact X
     by_cases hyl:y≤last
     · have X:RsEnd base g r L.length (rdRows c rr N (-1) L t) w (.returned (.int .i64 3)) w3:=by
        refine ⟨H3.out.1,.inr ⟨3,?_,by decide,rfl⟩⟩
        rw [Y.out.2.2.2.2.2,HN1.out]
        exact rdRows_off (.inr hyl)
       go_wp2_with fail
       go_ret
       exact X
     have HIN:=Lib.hid (show rdRows c rr N (-1) L t=rowsOn c rr (N-(k+1)) y (rdIn c (y.toNat*c) M zz) from by
      rw [Y.out.2.2.2.2.2,HN1.out]
      exact rdRows_in (by rw [Y.out.2.2.2.2.1];exact HC.out.2.2.2.2.2) (by omega) (by have:=HC.out.2.2.1;omega) hlast.1)
     obtain ⟨y0,hy0⟩:∃ y0:Nat,y=(y0:Int):=⟨y.toNat,by omega⟩
     subst hy0
     have hyrr:y0<rr:=by have:=HC.out.2.2.1;omega
     rw [Int.toNat_natCast] at HIN
     have PR:=Lib.hid (rowOf16_any (s:=s) (c:=c) (r:=rr) (y:=y0) w3 HC.out.2.1 HC.out.2.2.2.1 HC.out.2.2.2.2.1 h1 h80 h24 hyrr)
     have e1:s.A.map (·.add (y0*c*6))=some ⟨g,y0*c*6,none⟩:=by rw [HC.out.1];simp [Addr.add];intro h;exact h.symm
     rw [e1] at PR
     clear e1
     unfold scrA at PR
     go_wp2_with fail
     refine PR.out.mono ?_
     rintro e' w5 ⟨rfl,hb5⟩
     have H5:=Lib.hid (show Gr2 g r w w5∧Rz base r zz 0 w5∧Rw ceV 43 w5 g M∧Sx w5 b s from ⟨H3.out.1.trans (Gr2.below hb5),H3.out.2.1.below hb5,H3.out.2.2.1.below hb5,H3.out.2.2.2.below hb5⟩)
     clear hb5 PR d0 d1 d2 d3 d4 d5 d6 d7 d8 H3
     have PC:=Lib.hid (readCells_any (n:=c) (i0:=y0*c) (cc:=s.k-y0*c) (fun w' hw=>HT.out w' (H5.out.1.trans hw)) H5.out.2.1 H5.out.2.2.1 HG.out (by
      rw [Y.out.2.2.2.2.1,HC.out.2.2.2.2.2]
      have:=Nat.mul_le_mul_right c (show y0+1≤rr by omega)
      rw [Nat.succ_mul] at this
      exact this) (by rw [Y.out.2.2.2.2.1];exact hlc))
     obtain ⟨CK,hCK⟩:∃ CK,s.k-y0*c=CK:=⟨_,rfl⟩
     rw [hCK] at PC ⊢
     clear hCK
     go_wp2_with fail
     refine PC.out.mono ?_
     rintro e' w6 ⟨hg6,⟨M',z',hq,rfl,hz6,hR6,hl6⟩ | ⟨E,hq,hE,rfl⟩⟩
     · have H6:=Lib.hid (show Gr2 g r w w6∧Rz base r z' 0 w6∧Rw ceV 43 w6 g M'∧Sx w6 b s∧M'.length=L.length∧rdRows c rr N (-1) L t=rdRows c rr (N-(k+1)) (y0:Int) M' z' from
        ⟨H5.out.1.trans hg6,hz6,hR6,hg6.rw H5.out.2.2.2 (by have:=HB.out.1;omega) (by have:=HB.out.2;omega),hl6.trans Y.out.2.2.2.2.1,by rw [HIN.out,hq];rfl⟩)
       clear hg6 hz6 hR6 hl6 hq PC H5
       go_wp2_with fail
       go_roundw
       case rel=>exact ⟨k+1,(y0:Int),M',z',by omega,by go_num,rfl,by omega,H6.out.1,H6.out.2.1,H6.out.2.2.1,H6.out.2.2.2.1,H6.out.2.2.2.2.1,H6.out.2.2.2.2.2⟩
       case measure=>simp [intOf];omega
     · have X:RsEnd base g r L.length (rdRows c rr N (-1) L t) w (.returned (.int .i64 E)) w6:=by
        refine ⟨H5.out.1.trans hg6,.inr ⟨E,?_,hE,rfl⟩⟩
        rw [HIN.out,hq]
        rfl
       clear hg6 hq PC
       go_wp2_with fail
       go_ret
       exact X
  · have hkn:k=N:=by omega
    subst hkn
    have X:RsEnd base g r L.length (rdRows c rr k (-1) L t) w (.returned (.int .i64 0)) wr:=by
     refine ⟨Y.out.1,.inl ⟨M,zz,?_,rfl,Y.out.2.1,Y.out.2.2.1,Y.out.2.2.2.2.1⟩⟩
     rw [Y.out.2.2.2.2.2,Nat.sub_self]
     exact rdRows_none _ _ _ _ _
    obtain ⟨A5,n5,c5,hrd⟩:=Y.out.2.1.rd
    have PE:=Lib.hid (err_any hrd)
    clear hrd
    go_wp2_with fail
    refine PE.out.mono ?_
    rintro e' w4 ⟨rfl,rfl⟩
    go_wp2_with fail
    go_ret
    exact X
end Go.Proofs.YtikhknnhmnopbaaGreatDoor
