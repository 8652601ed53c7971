/-
  Part 25 of what the laws of emul want: EmulPen.
-/
import Derived.Test.YtlcipgdnpilkfaaGreatDoorPo24
namespace Go.Proofs.YtlcipgdnpilkfaaGreatDoor
open Go.RowKit
set_option maxRecDepth 100000 in
theorem attr_any (f:Int) (w:World):Calls Tryz.prog 254 #[.int .i64 f] w fun e w'=>e=.returned (.int .u8 (attrB f))∧w'=w:=by
 by_cases h1:f=1
 · subst h1
   go_enter Tryz.func254,Tryz.ntmps254
   go_wp2_with fail
   go_ret
   exact ⟨rfl,rfl⟩
 by_cases h2:f=2
 · subst h2
   go_enter Tryz.func254,Tryz.ntmps254
   go_wp2_with fail
   go_ret
   exact ⟨rfl,rfl⟩
 by_cases h3:f=3
 · subst h3
   go_enter Tryz.func254,Tryz.ntmps254
   go_wp2_with fail
   go_ret
   exact ⟨rfl,rfl⟩
 by_cases h4:f=4
 · subst h4
   go_enter Tryz.func254,Tryz.ntmps254
   go_wp2_with fail
   go_ret
   exact ⟨rfl,rfl⟩
 by_cases h5:f=5
 · subst h5
   go_enter Tryz.func254,Tryz.ntmps254
   go_wp2_with fail
   go_ret
   exact ⟨rfl,rfl⟩
 by_cases h7:f=7
 · subst h7
   go_enter Tryz.func254,Tryz.ntmps254
   go_wp2_with fail
   go_ret
   exact ⟨rfl,rfl⟩
 by_cases h8:f=8
 · subst h8
   go_enter Tryz.func254,Tryz.ntmps254
   go_wp2_with fail
   go_ret
   exact ⟨rfl,rfl⟩
 by_cases h9:f=9
 · subst h9
   go_enter Tryz.func254,Tryz.ntmps254
   go_wp2_with fail
   go_ret
   exact ⟨rfl,rfl⟩
 have e:attrB f=0:=by
  unfold attrB
  rw [if_neg h1,if_neg h2,if_neg h3,if_neg h4,if_neg h5,if_neg h7,if_neg h8,if_neg h9]
 rw [e]
 clear e
 go_enter Tryz.func254,Tryz.ntmps254
 go_wp2_with fail
 go_ret
 exact ⟨rfl,rfl⟩
theorem indexed_any (i:Int) (h0:0≤i) (h1:i≤255) (w:World):Calls Tryz.prog 256 #[.int .i64 i] w fun e w'=>e=.returned (.int .u32 (i+1))∧w'=w:=by
 have k0:wrap64 (i+1)=i+1:=by unfold wrap64;omega
 have k1:IntKind.u32.wrap (i+1)=i+1:=by clear k0;rw [IntKind.wrap_u32];omega
 go_enter Tryz.func256,Tryz.ntmps256
 go_wp2_with fail
 go_ret
 exact ⟨rfl,rfl⟩
set_option maxRecDepth 100000 in
theorem color_any (n f b:Int) (hf:0≤f∧f≤1000) (hb:0≤b∧b≤1000) (hn:0≤n∧n≤9999) (w:World):Calls Tryz.prog 255 #[.int .i64 n,.int .i64 f,.int .i64 b] w fun e w'=>e=.returned (.tuple #[.int .u32 (colB n f b).1,.bool (colB n f b).2])∧w'=w:=by
 have HI:=Lib.hid (fun i h0 h1=>indexed_any i h0 h1 w)
 by_cases h1:f≤n∧n<f+8
 · have e:colB n f b=(n-f+1,true):=by unfold colB;rw [if_pos h1]
   rw [e]
   clear e
   obtain ⟨h1,h2⟩:=h1
   have HC:=Lib.hid (HI.out (n-f) (by omega) (by omega))
   have k1:wrap64 (n-f)=n-f:=by unfold wrap64;omega
   have k0:wrap64 (f+8)=f+8:=by clear k1;unfold wrap64;omega
   go_enter Tryz.func255,Tryz.ntmps255
   go_wp2_with fail
   refine HC.out.mono ?_
   rintro e w1 ⟨rfl,hw1⟩
   obtain rfl:=hw1.symm
   clear hw1
   go_wp2_with fail
   go_ret2
   exact ⟨rfl,rfl⟩
 · by_cases h2:b≤n∧n<b+8
   · have e:colB n f b=(n-b+9,true):=by unfold colB;rw [if_neg h1,if_pos h2]
     rw [e]
     clear e
     obtain ⟨h3,h4⟩:=h2
     have HC:=Lib.hid (HI.out (n-b+8) (by omega) (by omega))
     have e9:n-b+8+1=n-b+9:=by omega
     rw [e9] at HC
     have k1:wrap64 (n-b)=n-b:=by unfold wrap64;omega
     have k2:wrap64 (n-b+8)=n-b+8:=by clear k1;unfold wrap64;omega
     have k0:wrap64 (f+8)=f+8:=by clear k1 k2;unfold wrap64;omega
     have k3:wrap64 (b+8)=b+8:=by clear k1 k2 k0;unfold wrap64;omega
     clear e9
     by_cases hl:f≤n
     · have h5:f+8≤n:=by clear k0 k1 k2 k3;omega
       clear h1
       go_enter Tryz.func255,Tryz.ntmps255
       go_wp2_with fail
       refine HC.out.mono ?_
       rintro e w1 ⟨rfl,hw1⟩
       obtain rfl:=hw1.symm
       clear hw1
       go_wp2_with fail
       go_ret2
       exact ⟨rfl,rfl⟩
     · have h5:n<f:=by clear k0 k1 k2 k3;omega
       clear h1
       go_enter Tryz.func255,Tryz.ntmps255
       go_wp2_with fail
       refine HC.out.mono ?_
       rintro e w1 ⟨rfl,hw1⟩
       obtain rfl:=hw1.symm
       clear hw1
       go_wp2_with fail
       go_ret2
       exact ⟨rfl,rfl⟩
   · have e:colB n f b=(0,false):=by unfold colB;rw [if_neg h1,if_neg h2]
     rw [e]
     clear e
     have k0:wrap64 (f+8)=f+8:=by unfold wrap64;omega
     have k3:wrap64 (b+8)=b+8:=by clear k0;unfold wrap64;omega
     by_cases hl:f≤n
     · have h5:f+8≤n:=by clear k0 k3;omega
       by_cases hm:b≤n
       · have h6:b+8≤n:=by clear k0 k3;omega
         clear h1 h2
         go_enter Tryz.func255,Tryz.ntmps255
         go_wp2_with fail
         go_ret2
         exact ⟨rfl,rfl⟩
       · have h6:n<b:=by clear k0 k3;omega
         clear h1 h2
         go_enter Tryz.func255,Tryz.ntmps255
         go_wp2_with fail
         go_ret2
         exact ⟨rfl,rfl⟩
     · have h5:n<f:=by clear k0 k3;omega
       by_cases hm:b≤n
       · have h6:b+8≤n:=by clear k0 k3;omega
         clear h1 h2
         go_enter Tryz.func255,Tryz.ntmps255
         go_wp2_with fail
         go_ret2
         exact ⟨rfl,rfl⟩
       · have h6:n<b:=by clear k0 k3;omega
         clear h1 h2
         go_enter Tryz.func255,Tryz.ntmps255
         go_wp2_with fail
         go_ret2
         exact ⟨rfl,rfl⟩
theorem or_bits:∀ st:Fin 256,∀ n:Fin 10,0<n.1→bits BinOp.or .u8 (st.1:Int) (attrB (n.1:Int))=attrS (st.1:Int) (n.1:Int):=by decide +kernel
theorem not_bits:∀ st:Fin 256,∀ n:Fin 30,22<n.1→bits BinOp.andNot .u8 (st.1:Int) (attrB ((n.1:Int)-20))=attrS (st.1:Int) (n.1:Int):=by decide +kernel
theorem three_bits:∀ st:Fin 256,bits BinOp.andNot .u8 (st.1:Int) 3=attrS (st.1:Int) 22:=by decide +kernel
structure Lk (w0:World) (b:Nat) (p:Pn) (w1:World):Prop where
 bx:w1.heap[b]?=some (.cells (pnA p) 31 (0,0))
 z:w1.heap[b+1]?=some (.cells #[.int .u32 0,.int .u32 0,.int .u8 0,.int .u16 0] 31 (0,0))
 bel:Below w0.heap.size w0 w1
 b0:w0.heap.size=b
theorem Lk.new (w:World) (p:Pn):Lk w w.heap.size p ((w.alloc (.cells (pnA p) 31)).alloc (.cells #[.int .u32 0,.int .u32 0,.int .u8 0,.int .u16 0] 31)):=by
 refine ⟨(heap_alloc_old _ _ (by simp)).trans (heap_alloc_new w _),?_,((Below.refl _ _).alloc (Nat.le_refl _) _).alloc (by simp) _,rfl⟩
 have h1:=heap_alloc_new (w.alloc (.cells (pnA p) 31)) (.cells #[.int .u32 0,.int .u32 0,.int .u8 0,.int .u16 0] 31)
 rw [World.size_alloc] at h1
 exact h1
section
variable {w0 w1 w2:World} {b:Nat} {p q:Pn}
theorem Lk.set (h:Lk w0 b p w1) (k:Nat) (v:Value) (he:(pnA p).setIfInBounds k v=pnA q):Lk w0 b q (w1.setCell ⟨b,k,none⟩ v) :=
 ⟨by rw [heap_setCell_same w1 b k _ _ v h.bx,he],(heap_setCell_other w1 _ (b+1) v (by show b+1≠b;omega)).trans h.z,h.bel.setCell (Nat.le_of_eq h.b0) _,h.b0⟩
theorem Lk.drew (h:Lk w0 b p w1):Lk w0 b p w1.drew:=⟨h.bx,h.z,h.bel.drew,h.b0⟩
theorem Lk.cs (h:Lk w0 b p w1):w1.cell? ⟨b,0,none⟩=some (.int .u32 p.fg)∧w1.cell? ⟨b,1,none⟩=some (.int .u32 p.bg)∧w1.cell? ⟨b,2,none⟩=some (.int .u8 p.st)∧w1.cell? ⟨b,3,none⟩=some (.int .u16 p.lk) :=
 ⟨cell_of_row _ _ 0 _ _ _ h.bx,cell_of_row _ _ 1 _ _ _ h.bx,cell_of_row _ _ 2 _ _ _ h.bx,cell_of_row _ _ 3 _ _ _ h.bx⟩
theorem Lk.fr (h:Lk w0 b p w1) (k:Nat):w1.frozen? ⟨b,k,none⟩=false:=frozen_of_row _ _ k _ _ h.bx
theorem pen_size:(Tryz.prog.info? 31).map (·.size)=some 4:=by kernel_rfl
theorem pen_one (p:Pn):(pnA p).all (·.oneCell')=true:=by simp [pnA,Value.oneCell']
theorem Lk.done (h:Lk w0 b p w1):(w1.setRow (b+1) (pnA q)).heap[b+1]?=some (.cells (pnA q) 31 (0,0))∧Below w0.heap.size w0 (w1.setRow (b+1) (pnA q)) :=
 ⟨setRow_heap w1 (b+1) _ _ _ _ h.z,⟨h.bel.os,h.bel.tape,h.bel.output,by have:=h.bel.size;simpa [World.setRow] using this,fun k hk=>(setRow_other w1 (b+1) k _ (by have:=h.b0;omega)).trans (h.bel.block k hk)⟩⟩
end
set_option maxRecDepth 100000 in
set_option maxHeartbeats 1600000 in
theorem look_low (p:Pn) (n:Int) (h0:0<n) (h1:n<10) (hst:0≤p.st∧p.st≤255) (hn:0≤n∧n≤9999) (w:World):Calls Tryz.prog 229 #[.agg (pnA p),.int .i64 n] w fun e w'=>e=.returned (.agg (pnA (lookP p n)))∧Below w.heap.size w w':=by
 have HC:=Lib.hid (fun w=>attr_any n w)
 have H0:=Lib.hid (Lk.new w p)
 obtain ⟨b,hb⟩:∃ b,b=w.heap.size:=⟨_,rfl⟩
 have HD:Hid (∀ w,Calls Tryz.prog 255 #[.int .i64 n,.int .i64 30,.int .i64 90] w fun e w'=>e=.returned (.tuple #[.int .u32 (0),.bool false])∧w'=w):=Lib.hid (fun w=>by
  have h:=color_any n 30 90 (by omega) (by omega) hn w
  have e:colB n 30 90=(0,false):=by unfold colB;rw [if_neg (by omega),if_neg (by omega)]
  rw [e] at h
  exact h)
 have HE:Hid (∀ w,Calls Tryz.prog 255 #[.int .i64 n,.int .i64 40,.int .i64 100] w fun e w'=>e=.returned (.tuple #[.int .u32 (0),.bool false])∧w'=w):=Lib.hid (fun w=>by
  have h:=color_any n 40 100 (by omega) (by omega) hn w
  have e:colB n 40 100=(0,false):=by unfold colB;rw [if_neg (by omega),if_neg (by omega)]
  rw [e] at h
  exact h)
 have HX:=Lib.hid (show lookP p n=⟨p.fg,p.bg,attrS p.st n,p.lk⟩ from by unfold lookP;rw [if_neg (by omega),if_neg (by omega),if_neg (by omega),if_neg (by omega),if_neg (by omega),if_neg (by omega),if_neg (by omega)])
 have HB:=Lib.hid (show bits BinOp.or .u8 p.st (attrB n)=attrS p.st n from by
  obtain ⟨s,hs⟩:∃ s:Fin 256,p.st=(s.1:Int):=⟨⟨p.st.toNat,by omega⟩,by show p.st=((p.st.toNat:Nat):Int);omega⟩
  obtain ⟨m,hm,hm0⟩:∃ m:Fin 10,n=(m.1:Int)∧0<m.1:=⟨⟨n.toNat,by omega⟩,(by show n=((n.toNat:Nat):Int);omega),by show 0<n.toNat;omega⟩
  rw [hs,hm]
  exact or_bits s m hm0)
 have hz:¬ n=0:=by omega
 unfold pnA at H0
 rw [← hb] at H0
 have ep:pnA p=#[.int .u32 p.fg,.int .u32 p.bg,.int .u8 p.st,.int .u16 p.lk]:=rfl
 rw [ep]
 clear ep
 go_enter Tryz.func229,Tryz.ntmps229
 go_upto_region 1 with fail
 rw [← hb]
 generalize ((w.alloc (.cells #[.int .u32 p.fg,.int .u32 p.bg,.int .u8 p.st,.int .u16 p.lk] 31)).alloc (.cells #[.int .u32 0,.int .u32 0,.int .u8 0,.int .u16 0] 31))=w1 at H0 ⊢
 clear hb
 obtain ⟨p0,p1,p2,p3⟩:=H0.out.cs
 have HC2:=HC.out w1.drew
 have p2':w1.drew.cell? ⟨b,2,none⟩=some (.int .u8 p.st):=p2
 have f2:w1.drew.frozen? ⟨b,2,none⟩=false:=H0.out.fr 2
 have H1:=Lib.hid H0.out.drew
 go_wp2_with fail
 go_still_tail 6,(by kernel_rfl)
 still_call HC2
 repeat still_step
 refine wpStill_nil ?_
 change wpList _ _ _ _ _ w1.drew
 generalize w1.drew=w2 at p2' f2 H1 ⊢
 clear p0 p1 p2 p3
 have H3:=Lib.hid (show Lk w b (⟨p.fg,p.bg,attrS p.st n,p.lk⟩:Pn) (w2.setCell ⟨b,2,none⟩ (.int .u8 (bits BinOp.or .u8 p.st (attrB n)))) from H1.out.set 2 _ (by rw [HB.out];rfl))
 go_upto_region 13 with fail
 generalize w2.setCell ⟨b,2,none⟩ (.int .u8 (bits BinOp.or .u8 p.st (attrB n)))=w3 at H3 ⊢
 clear p2' f2
 obtain ⟨p0,p1,p2,p3⟩:=H3.out.cs
 go_wp2_with fail
 refine (HD.out w3).mono ?_
 rintro e w9 ⟨rfl,hw9⟩
 obtain rfl:=hw9.symm
 clear hw9
 go_wp2_with fail
 refine (HE.out w3).mono ?_
 rintro e w9 ⟨rfl,hw9⟩
 obtain rfl:=hw9.symm
 clear hw9
 clear p0 p1 p2 p3
 go_wp2_with (first
  | (refine wpList_load_row rfl 31 (.tmp 2) rfl b rfl 31 (pnA (⟨p.fg,p.bg,attrS p.st n,p.lk⟩:Pn)) (0,0) _ H3.out.bx Tryz.underlying31 rfl pen_size ?_)
  | (refine wpList_store_row rfl 31 (.tmp 4) (.tmp 69) rfl (b+1) (pnA (⟨p.fg,p.bg,attrS p.st n,p.lk⟩:Pn)) rfl rfl 31 _ H3.out.z pen_size rfl (pen_one _) ?_))
 exact bodyPost_ret (results_cell_row Tryz.results229 _ _ (b+1) 31 _ (0,0) _ rfl H3.out.done.1 Tryz.underlying31 rfl pen_size) rfl ⟨by rw [HX.out],H3.out.done.2⟩
set_option maxRecDepth 100000 in
set_option maxHeartbeats 1600000 in
theorem look_off (p:Pn) (n:Int) (h0:22<n) (h1:n<30) (hst:0≤p.st∧p.st≤255) (hn:0≤n∧n≤9999) (w:World):Calls Tryz.prog 229 #[.agg (pnA p),.int .i64 n] w fun e w'=>e=.returned (.agg (pnA (lookP p n)))∧Below w.heap.size w w':=by
 have HC:=Lib.hid (fun w=>attr_any (n-20) w)
 have H0:=Lib.hid (Lk.new w p)
 obtain ⟨b,hb⟩:∃ b,b=w.heap.size:=⟨_,rfl⟩
 have HD:Hid (∀ w,Calls Tryz.prog 255 #[.int .i64 n,.int .i64 30,.int .i64 90] w fun e w'=>e=.returned (.tuple #[.int .u32 (0),.bool false])∧w'=w):=Lib.hid (fun w=>by
  have h:=color_any n 30 90 (by omega) (by omega) hn w
  have e:colB n 30 90=(0,false):=by unfold colB;rw [if_neg (by omega),if_neg (by omega)]
  rw [e] at h
  exact h)
 have HE:Hid (∀ w,Calls Tryz.prog 255 #[.int .i64 n,.int .i64 40,.int .i64 100] w fun e w'=>e=.returned (.tuple #[.int .u32 (0),.bool false])∧w'=w):=Lib.hid (fun w=>by
  have h:=color_any n 40 100 (by omega) (by omega) hn w
  have e:colB n 40 100=(0,false):=by unfold colB;rw [if_neg (by omega),if_neg (by omega)]
  rw [e] at h
  exact h)
 have HX:=Lib.hid (show lookP p n=⟨p.fg,p.bg,attrS p.st n,p.lk⟩ from by unfold lookP;rw [if_neg (by omega),if_neg (by omega),if_neg (by omega),if_neg (by omega),if_neg (by omega),if_neg (by omega),if_neg (by omega)])
 have HB:=Lib.hid (show bits BinOp.andNot .u8 p.st (attrB (n-20))=attrS p.st n from by
  obtain ⟨s,hs⟩:∃ s:Fin 256,p.st=(s.1:Int):=⟨⟨p.st.toNat,by omega⟩,by show p.st=((p.st.toNat:Nat):Int);omega⟩
  obtain ⟨m,hm,hm0⟩:∃ m:Fin 30,n=(m.1:Int)∧22<m.1:=⟨⟨n.toNat,by omega⟩,(by show n=((n.toNat:Nat):Int);omega),by show 22<n.toNat;omega⟩
  rw [hs,hm]
  exact not_bits s m hm0)
 have hz:¬ n=0:=by omega
 have hz2:¬ n=22:=by omega
 have hz3:10≤n:=by omega
 have k0:wrap64 (n-20)=n-20:=by unfold wrap64;omega
 have k1:IntKind.i64.wrap (n-20)=n-20:=by clear k0;rw [IntKind.wrap_i64];omega
 unfold pnA at H0
 rw [← hb] at H0
 have ep:pnA p=#[.int .u32 p.fg,.int .u32 p.bg,.int .u8 p.st,.int .u16 p.lk]:=rfl
 rw [ep]
 clear ep
 go_enter Tryz.func229,Tryz.ntmps229
 go_upto_region 1 with fail
 rw [← hb]
 generalize ((w.alloc (.cells #[.int .u32 p.fg,.int .u32 p.bg,.int .u8 p.st,.int .u16 p.lk] 31)).alloc (.cells #[.int .u32 0,.int .u32 0,.int .u8 0,.int .u16 0] 31))=w1 at H0 ⊢
 clear hb
 obtain ⟨p0,p1,p2,p3⟩:=H0.out.cs
 have HC2:=HC.out w1.drew
 have p2':w1.drew.cell? ⟨b,2,none⟩=some (.int .u8 p.st):=p2
 have f2:w1.drew.frozen? ⟨b,2,none⟩=false:=H0.out.fr 2
 have H1:=Lib.hid H0.out.drew
 go_wp2_with fail
 go_still_tail 7,(by kernel_rfl)
 still_call HC2
 repeat still_step
 refine wpStill_nil ?_
 change wpList _ _ _ _ _ w1.drew
 generalize w1.drew=w2 at p2' f2 H1 ⊢
 clear p0 p1 p2 p3
 have H3:=Lib.hid (show Lk w b (⟨p.fg,p.bg,attrS p.st n,p.lk⟩:Pn) (w2.setCell ⟨b,2,none⟩ (.int .u8 (bits BinOp.andNot .u8 p.st (attrB (n-20))))) from H1.out.set 2 _ (by rw [HB.out];rfl))
 go_upto_region 13 with fail
 generalize w2.setCell ⟨b,2,none⟩ (.int .u8 (bits BinOp.andNot .u8 p.st (attrB (n-20))))=w3 at H3 ⊢
 clear p2' f2
 obtain ⟨p0,p1,p2,p3⟩:=H3.out.cs
 go_wp2_with fail
 refine (HD.out w3).mono ?_
 rintro e w9 ⟨rfl,hw9⟩
 obtain rfl:=hw9.symm
 clear hw9
 go_wp2_with fail
 refine (HE.out w3).mono ?_
 rintro e w9 ⟨rfl,hw9⟩
 obtain rfl:=hw9.symm
 clear hw9
 clear p0 p1 p2 p3
 go_wp2_with (first
  | (refine wpList_load_row rfl 31 (.tmp 2) rfl b rfl 31 (pnA (⟨p.fg,p.bg,attrS p.st n,p.lk⟩:Pn)) (0,0) _ H3.out.bx Tryz.underlying31 rfl pen_size ?_)
  | (refine wpList_store_row rfl 31 (.tmp 4) (.tmp 69) rfl (b+1) (pnA (⟨p.fg,p.bg,attrS p.st n,p.lk⟩:Pn)) rfl rfl 31 _ H3.out.z pen_size rfl (pen_one _) ?_))
 exact bodyPost_ret (results_cell_row Tryz.results229 _ _ (b+1) 31 _ (0,0) _ rfl H3.out.done.1 Tryz.underlying31 rfl pen_size) rfl ⟨by rw [HX.out],H3.out.done.2⟩
set_option maxRecDepth 100000 in
set_option maxHeartbeats 1600000 in
theorem look_22 (p:Pn) (n:Int) (h0:n=22) (hst:0≤p.st∧p.st≤255) (hn:0≤n∧n≤9999) (w:World):Calls Tryz.prog 229 #[.agg (pnA p),.int .i64 n] w fun e w'=>e=.returned (.agg (pnA (lookP p n)))∧Below w.heap.size w w':=by
 have H0:=Lib.hid (Lk.new w p)
 obtain ⟨b,hb⟩:∃ b,b=w.heap.size:=⟨_,rfl⟩
 have HD:Hid (∀ w,Calls Tryz.prog 255 #[.int .i64 n,.int .i64 30,.int .i64 90] w fun e w'=>e=.returned (.tuple #[.int .u32 (0),.bool false])∧w'=w):=Lib.hid (fun w=>by
  have h:=color_any n 30 90 (by omega) (by omega) hn w
  have e:colB n 30 90=(0,false):=by unfold colB;rw [if_neg (by omega),if_neg (by omega)]
  rw [e] at h
  exact h)
 have HE:Hid (∀ w,Calls Tryz.prog 255 #[.int .i64 n,.int .i64 40,.int .i64 100] w fun e w'=>e=.returned (.tuple #[.int .u32 (0),.bool false])∧w'=w):=Lib.hid (fun w=>by
  have h:=color_any n 40 100 (by omega) (by omega) hn w
  have e:colB n 40 100=(0,false):=by unfold colB;rw [if_neg (by omega),if_neg (by omega)]
  rw [e] at h
  exact h)
 have HX:=Lib.hid (show lookP p n=⟨p.fg,p.bg,attrS p.st 22,p.lk⟩ from by rw [h0];rfl)
 have HB:=Lib.hid (show bits BinOp.andNot .u8 p.st 3=attrS p.st 22 from by
  obtain ⟨s,hs⟩:∃ s:Fin 256,p.st=(s.1:Int):=⟨⟨p.st.toNat,by omega⟩,by show p.st=((p.st.toNat:Nat):Int);omega⟩
  rw [hs]
  exact three_bits s)
 subst h0
 unfold pnA at H0
 rw [← hb] at H0
 have ep:pnA p=#[.int .u32 p.fg,.int .u32 p.bg,.int .u8 p.st,.int .u16 p.lk]:=rfl
 rw [ep]
 clear ep
 go_enter Tryz.func229,Tryz.ntmps229
 go_upto_region 1 with fail
 rw [← hb]
 generalize ((w.alloc (.cells #[.int .u32 p.fg,.int .u32 p.bg,.int .u8 p.st,.int .u16 p.lk] 31)).alloc (.cells #[.int .u32 0,.int .u32 0,.int .u8 0,.int .u16 0] 31))=w1 at H0 ⊢
 clear hb
 obtain ⟨p0,p1,p2,p3⟩:=H0.out.cs
 have fk:=H0.out.fr 2
 have H3:=Lib.hid (show Lk w b (⟨p.fg,p.bg,attrS p.st 22,p.lk⟩:Pn) (w1.setCell ⟨b,2,none⟩ (.int .u8 (bits BinOp.andNot .u8 p.st 3))) from H0.out.set 2 _ (by rw [HB.out];rfl))
 go_upto_region 13 with fail
 generalize w1.setCell ⟨b,2,none⟩ (.int .u8 (bits BinOp.andNot .u8 p.st 3))=w3 at H3 ⊢
 clear p0 p1 p2 p3 fk
 obtain ⟨p0,p1,p2,p3⟩:=H3.out.cs
 go_wp2_with fail
 refine (HD.out w3).mono ?_
 rintro e w9 ⟨rfl,hw9⟩
 obtain rfl:=hw9.symm
 clear hw9
 go_wp2_with fail
 refine (HE.out w3).mono ?_
 rintro e w9 ⟨rfl,hw9⟩
 obtain rfl:=hw9.symm
 clear hw9
 clear p0 p1 p2 p3
 go_wp2_with (first
  | (refine wpList_load_row rfl 31 (.tmp 2) rfl b rfl 31 (pnA (⟨p.fg,p.bg,attrS p.st 22,p.lk⟩:Pn)) (0,0) _ H3.out.bx Tryz.underlying31 rfl pen_size ?_)
  | (refine wpList_store_row rfl 31 (.tmp 4) (.tmp 69) rfl (b+1) (pnA (⟨p.fg,p.bg,attrS p.st 22,p.lk⟩:Pn)) rfl rfl 31 _ H3.out.z pen_size rfl (pen_one _) ?_))
 exact bodyPost_ret (results_cell_row Tryz.results229 _ _ (b+1) 31 _ (0,0) _ rfl H3.out.done.1 Tryz.underlying31 rfl pen_size) rfl ⟨by rw [HX.out],H3.out.done.2⟩
set_option maxRecDepth 100000 in
set_option maxHeartbeats 1600000 in
theorem look_39 (p:Pn) (n:Int) (h0:n=39) (_:0≤p.st∧p.st≤255) (hn:0≤n∧n≤9999) (w:World):Calls Tryz.prog 229 #[.agg (pnA p),.int .i64 n] w fun e w'=>e=.returned (.agg (pnA (lookP p n)))∧Below w.heap.size w w':=by
 have H0:=Lib.hid (Lk.new w p)
 obtain ⟨b,hb⟩:∃ b,b=w.heap.size:=⟨_,rfl⟩
 have HD:Hid (∀ w,Calls Tryz.prog 255 #[.int .i64 n,.int .i64 30,.int .i64 90] w fun e w'=>e=.returned (.tuple #[.int .u32 (0),.bool false])∧w'=w):=Lib.hid (fun w=>by
  have h:=color_any n 30 90 (by omega) (by omega) hn w
  have e:colB n 30 90=(0,false):=by unfold colB;rw [if_neg (by omega),if_neg (by omega)]
  rw [e] at h
  exact h)
 have HE:Hid (∀ w,Calls Tryz.prog 255 #[.int .i64 n,.int .i64 40,.int .i64 100] w fun e w'=>e=.returned (.tuple #[.int .u32 (0),.bool false])∧w'=w):=Lib.hid (fun w=>by
  have h:=color_any n 40 100 (by omega) (by omega) hn w
  have e:colB n 40 100=(0,false):=by unfold colB;rw [if_neg (by omega),if_neg (by omega)]
  rw [e] at h
  exact h)
 have HX:=Lib.hid (show lookP p n=⟨0,p.bg,p.st,p.lk⟩ from by rw [h0];rfl)
 subst h0
 unfold pnA at H0
 rw [← hb] at H0
 have ep:pnA p=#[.int .u32 p.fg,.int .u32 p.bg,.int .u8 p.st,.int .u16 p.lk]:=rfl
 rw [ep]
 clear ep
 go_enter Tryz.func229,Tryz.ntmps229
 go_upto_region 1 with fail
 rw [← hb]
 generalize ((w.alloc (.cells #[.int .u32 p.fg,.int .u32 p.bg,.int .u8 p.st,.int .u16 p.lk] 31)).alloc (.cells #[.int .u32 0,.int .u32 0,.int .u8 0,.int .u16 0] 31))=w1 at H0 ⊢
 clear hb
 obtain ⟨p0,p1,p2,p3⟩:=H0.out.cs
 have fk:=H0.out.fr 0
 have H3:=Lib.hid (show Lk w b (⟨0,p.bg,p.st,p.lk⟩:Pn) (w1.setCell ⟨b,0,none⟩ (.int .u32 0)) from H0.out.set 0 _ (rfl))
 go_upto_region 13 with fail
 generalize w1.setCell ⟨b,0,none⟩ (.int .u32 0)=w3 at H3 ⊢
 clear p0 p1 p2 p3 fk
 obtain ⟨p0,p1,p2,p3⟩:=H3.out.cs
 go_wp2_with fail
 refine (HD.out w3).mono ?_
 rintro e w9 ⟨rfl,hw9⟩
 obtain rfl:=hw9.symm
 clear hw9
 go_wp2_with fail
 refine (HE.out w3).mono ?_
 rintro e w9 ⟨rfl,hw9⟩
 obtain rfl:=hw9.symm
 clear hw9
 clear p0 p1 p2 p3
 go_wp2_with (first
  | (refine wpList_load_row rfl 31 (.tmp 2) rfl b rfl 31 (pnA (⟨0,p.bg,p.st,p.lk⟩:Pn)) (0,0) _ H3.out.bx Tryz.underlying31 rfl pen_size ?_)
  | (refine wpList_store_row rfl 31 (.tmp 4) (.tmp 69) rfl (b+1) (pnA (⟨0,p.bg,p.st,p.lk⟩:Pn)) rfl rfl 31 _ H3.out.z pen_size rfl (pen_one _) ?_))
 exact bodyPost_ret (results_cell_row Tryz.results229 _ _ (b+1) 31 _ (0,0) _ rfl H3.out.done.1 Tryz.underlying31 rfl pen_size) rfl ⟨by rw [HX.out],H3.out.done.2⟩
set_option maxRecDepth 100000 in
set_option maxHeartbeats 1600000 in
theorem look_49 (p:Pn) (n:Int) (h0:n=49) (_:0≤p.st∧p.st≤255) (hn:0≤n∧n≤9999) (w:World):Calls Tryz.prog 229 #[.agg (pnA p),.int .i64 n] w fun e w'=>e=.returned (.agg (pnA (lookP p n)))∧Below w.heap.size w w':=by
 have H0:=Lib.hid (Lk.new w p)
 obtain ⟨b,hb⟩:∃ b,b=w.heap.size:=⟨_,rfl⟩
 have HD:Hid (∀ w,Calls Tryz.prog 255 #[.int .i64 n,.int .i64 30,.int .i64 90] w fun e w'=>e=.returned (.tuple #[.int .u32 (0),.bool false])∧w'=w):=Lib.hid (fun w=>by
  have h:=color_any n 30 90 (by omega) (by omega) hn w
  have e:colB n 30 90=(0,false):=by unfold colB;rw [if_neg (by omega),if_neg (by omega)]
  rw [e] at h
  exact h)
 have HE:Hid (∀ w,Calls Tryz.prog 255 #[.int .i64 n,.int .i64 40,.int .i64 100] w fun e w'=>e=.returned (.tuple #[.int .u32 (0),.bool false])∧w'=w):=Lib.hid (fun w=>by
  have h:=color_any n 40 100 (by omega) (by omega) hn w
  have e:colB n 40 100=(0,false):=by unfold colB;rw [if_neg (by omega),if_neg (by omega)]
  rw [e] at h
  exact h)
 have HX:=Lib.hid (show lookP p n=⟨p.fg,0,p.st,p.lk⟩ from by rw [h0];rfl)
 subst h0
 unfold pnA at H0
 rw [← hb] at H0
 have ep:pnA p=#[.int .u32 p.fg,.int .u32 p.bg,.int .u8 p.st,.int .u16 p.lk]:=rfl
 rw [ep]
 clear ep
 go_enter Tryz.func229,Tryz.ntmps229
 go_upto_region 1 with fail
 rw [← hb]
 generalize ((w.alloc (.cells #[.int .u32 p.fg,.int .u32 p.bg,.int .u8 p.st,.int .u16 p.lk] 31)).alloc (.cells #[.int .u32 0,.int .u32 0,.int .u8 0,.int .u16 0] 31))=w1 at H0 ⊢
 clear hb
 obtain ⟨p0,p1,p2,p3⟩:=H0.out.cs
 have fk:=H0.out.fr 1
 have H3:=Lib.hid (show Lk w b (⟨p.fg,0,p.st,p.lk⟩:Pn) (w1.setCell ⟨b,1,none⟩ (.int .u32 0)) from H0.out.set 1 _ (rfl))
 go_upto_region 13 with fail
 generalize w1.setCell ⟨b,1,none⟩ (.int .u32 0)=w3 at H3 ⊢
 clear p0 p1 p2 p3 fk
 obtain ⟨p0,p1,p2,p3⟩:=H3.out.cs
 go_wp2_with fail
 refine (HD.out w3).mono ?_
 rintro e w9 ⟨rfl,hw9⟩
 obtain rfl:=hw9.symm
 clear hw9
 go_wp2_with fail
 refine (HE.out w3).mono ?_
 rintro e w9 ⟨rfl,hw9⟩
 obtain rfl:=hw9.symm
 clear hw9
 clear p0 p1 p2 p3
 go_wp2_with (first
  | (refine wpList_load_row rfl 31 (.tmp 2) rfl b rfl 31 (pnA (⟨p.fg,0,p.st,p.lk⟩:Pn)) (0,0) _ H3.out.bx Tryz.underlying31 rfl pen_size ?_)
  | (refine wpList_store_row rfl 31 (.tmp 4) (.tmp 69) rfl (b+1) (pnA (⟨p.fg,0,p.st,p.lk⟩:Pn)) rfl rfl 31 _ H3.out.z pen_size rfl (pen_one _) ?_))
 exact bodyPost_ret (results_cell_row Tryz.results229 _ _ (b+1) 31 _ (0,0) _ rfl H3.out.done.1 Tryz.underlying31 rfl pen_size) rfl ⟨by rw [HX.out],H3.out.done.2⟩
set_option maxRecDepth 100000 in
set_option maxHeartbeats 1600000 in
theorem look_30 (p:Pn) (n:Int) (h0:30≤n) (h1:n≤37) (_:0≤p.st∧p.st≤255) (hn:0≤n∧n≤9999) (w:World):Calls Tryz.prog 229 #[.agg (pnA p),.int .i64 n] w fun e w'=>e=.returned (.agg (pnA (lookP p n)))∧Below w.heap.size w w':=by
 have H0:=Lib.hid (Lk.new w p)
 obtain ⟨b,hb⟩:∃ b,b=w.heap.size:=⟨_,rfl⟩
 have HD:Hid (∀ w,Calls Tryz.prog 255 #[.int .i64 n,.int .i64 30,.int .i64 90] w fun e w'=>e=.returned (.tuple #[.int .u32 (n-29),.bool true])∧w'=w):=Lib.hid (fun w=>by
  have h:=color_any n 30 90 (by omega) (by omega) hn w
  have e:colB n 30 90=(n-29,true):=by unfold colB;rw [if_pos (by omega)];congr 1;omega
  rw [e] at h
  exact h)
 have HE:Hid (∀ w,Calls Tryz.prog 255 #[.int .i64 n,.int .i64 40,.int .i64 100] w fun e w'=>e=.returned (.tuple #[.int .u32 (0),.bool false])∧w'=w):=Lib.hid (fun w=>by
  have h:=color_any n 40 100 (by omega) (by omega) hn w
  have e:colB n 40 100=(0,false):=by unfold colB;rw [if_neg (by omega),if_neg (by omega)]
  rw [e] at h
  exact h)
 have HX:=Lib.hid (show lookP p n=⟨n-29,p.bg,p.st,p.lk⟩ from by unfold lookP;rw [if_neg (by omega),if_neg (by omega),if_neg (by omega),if_pos (by omega)])
 have hz:¬ n=0:=by omega
 have hz1:10≤n:=by omega
 have hz2:¬ n=22:=by omega
 have hz3:22<n:=by omega
 have hz4:30≤n:=by omega
 have hz5:¬ n=39:=by omega
 have hz6:¬ n=49:=by omega
 unfold pnA at H0
 rw [← hb] at H0
 have ep:pnA p=#[.int .u32 p.fg,.int .u32 p.bg,.int .u8 p.st,.int .u16 p.lk]:=rfl
 rw [ep]
 clear ep
 go_enter Tryz.func229,Tryz.ntmps229
 go_upto_region 1 with fail
 rw [← hb]
 generalize ((w.alloc (.cells #[.int .u32 p.fg,.int .u32 p.bg,.int .u8 p.st,.int .u16 p.lk] 31)).alloc (.cells #[.int .u32 0,.int .u32 0,.int .u8 0,.int .u16 0] 31))=w1 at H0 ⊢
 clear hb
 obtain ⟨p0,p1,p2,p3⟩:=H0.out.cs
 have H1:=Lib.hid H0.out
 clear H0 p0 p1 p2 p3
 go_upto_region 13 with fail
 obtain ⟨p0,p1,p2,p3⟩:=H1.out.cs
 go_wp2_with fail
 refine (HD.out w1).mono ?_
 rintro e w9 ⟨rfl,hw9⟩
 obtain rfl:=hw9.symm
 clear hw9
 have f0:=H1.out.fr 0
 have H2:=Lib.hid (show Lk w b (⟨n-29,p.bg,p.st,p.lk⟩:Pn) (w1.setCell ⟨b,0,none⟩ (.int .u32 (n-29))) from H1.out.set 0 _ rfl)
 go_upto_region 16 with fail
 generalize w1.setCell ⟨b,0,none⟩ (.int .u32 (n-29))=w2 at H2 ⊢
 clear p0 p1 p2 p3 f0
 obtain ⟨p0,p1,p2,p3⟩:=H2.out.cs
 go_wp2_with fail
 refine (HE.out w2).mono ?_
 rintro e w9 ⟨rfl,hw9⟩
 obtain rfl:=hw9.symm
 clear hw9
 clear p0 p1 p2 p3
 go_wp2_with (first
  | (refine wpList_load_row rfl 31 (.tmp 2) rfl b rfl 31 (pnA (⟨n-29,p.bg,p.st,p.lk⟩:Pn)) (0,0) _ H2.out.bx Tryz.underlying31 rfl pen_size ?_)
  | (refine wpList_store_row rfl 31 (.tmp 4) (.tmp 69) rfl (b+1) (pnA (⟨n-29,p.bg,p.st,p.lk⟩:Pn)) rfl rfl 31 _ H2.out.z pen_size rfl (pen_one _) ?_))
 exact bodyPost_ret (results_cell_row Tryz.results229 _ _ (b+1) 31 _ (0,0) _ rfl H2.out.done.1 Tryz.underlying31 rfl pen_size) rfl ⟨by rw [HX.out],H2.out.done.2⟩
set_option maxRecDepth 100000 in
set_option maxHeartbeats 1600000 in
theorem look_40 (p:Pn) (n:Int) (h0:40≤n) (h1:n≤47) (_:0≤p.st∧p.st≤255) (hn:0≤n∧n≤9999) (w:World):Calls Tryz.prog 229 #[.agg (pnA p),.int .i64 n] w fun e w'=>e=.returned (.agg (pnA (lookP p n)))∧Below w.heap.size w w':=by
 have H0:=Lib.hid (Lk.new w p)
 obtain ⟨b,hb⟩:∃ b,b=w.heap.size:=⟨_,rfl⟩
 have HD:Hid (∀ w,Calls Tryz.prog 255 #[.int .i64 n,.int .i64 30,.int .i64 90] w fun e w'=>e=.returned (.tuple #[.int .u32 (0),.bool false])∧w'=w):=Lib.hid (fun w=>by
  have h:=color_any n 30 90 (by omega) (by omega) hn w
  have e:colB n 30 90=(0,false):=by unfold colB;rw [if_neg (by omega),if_neg (by omega)]
  rw [e] at h
  exact h)
 have HE:Hid (∀ w,Calls Tryz.prog 255 #[.int .i64 n,.int .i64 40,.int .i64 100] w fun e w'=>e=.returned (.tuple #[.int .u32 (n-39),.bool true])∧w'=w):=Lib.hid (fun w=>by
  have h:=color_any n 40 100 (by omega) (by omega) hn w
  have e:colB n 40 100=(n-39,true):=by unfold colB;rw [if_pos (by omega)];congr 1;omega
  rw [e] at h
  exact h)
 have HX:=Lib.hid (show lookP p n=⟨p.fg,n-39,p.st,p.lk⟩ from by unfold lookP;rw [if_neg (by omega),if_neg (by omega),if_neg (by omega),if_neg (by omega),if_pos (by omega)])
 have hz:¬ n=0:=by omega
 have hz1:10≤n:=by omega
 have hz2:¬ n=22:=by omega
 have hz3:22<n:=by omega
 have hz4:30≤n:=by omega
 have hz5:¬ n=39:=by omega
 have hz6:¬ n=49:=by omega
 unfold pnA at H0
 rw [← hb] at H0
 have ep:pnA p=#[.int .u32 p.fg,.int .u32 p.bg,.int .u8 p.st,.int .u16 p.lk]:=rfl
 rw [ep]
 clear ep
 go_enter Tryz.func229,Tryz.ntmps229
 go_upto_region 1 with fail
 rw [← hb]
 generalize ((w.alloc (.cells #[.int .u32 p.fg,.int .u32 p.bg,.int .u8 p.st,.int .u16 p.lk] 31)).alloc (.cells #[.int .u32 0,.int .u32 0,.int .u8 0,.int .u16 0] 31))=w1 at H0 ⊢
 clear hb
 obtain ⟨p0,p1,p2,p3⟩:=H0.out.cs
 have H1:=Lib.hid H0.out
 clear H0 p0 p1 p2 p3
 go_upto_region 13 with fail
 obtain ⟨p0,p1,p2,p3⟩:=H1.out.cs
 go_wp2_with fail
 refine (HD.out w1).mono ?_
 rintro e w9 ⟨rfl,hw9⟩
 obtain rfl:=hw9.symm
 clear hw9
 go_wp2_with fail
 refine (HE.out w1).mono ?_
 rintro e w9 ⟨rfl,hw9⟩
 obtain rfl:=hw9.symm
 clear hw9
 have f1:=H1.out.fr 1
 have H2:=Lib.hid (show Lk w b (⟨p.fg,n-39,p.st,p.lk⟩:Pn) (w1.setCell ⟨b,1,none⟩ (.int .u32 (n-39))) from H1.out.set 1 _ rfl)
 go_upto_region 19 with fail
 generalize w1.setCell ⟨b,1,none⟩ (.int .u32 (n-39))=w2 at H2 ⊢
 clear p0 p1 p2 p3 f1
 go_wp2_with (first
  | (refine wpList_load_row rfl 31 (.tmp 2) rfl b rfl 31 (pnA (⟨p.fg,n-39,p.st,p.lk⟩:Pn)) (0,0) _ H2.out.bx Tryz.underlying31 rfl pen_size ?_)
  | (refine wpList_store_row rfl 31 (.tmp 4) (.tmp 69) rfl (b+1) (pnA (⟨p.fg,n-39,p.st,p.lk⟩:Pn)) rfl rfl 31 _ H2.out.z pen_size rfl (pen_one _) ?_))
 exact bodyPost_ret (results_cell_row Tryz.results229 _ _ (b+1) 31 _ (0,0) _ rfl H2.out.done.1 Tryz.underlying31 rfl pen_size) rfl ⟨by rw [HX.out],H2.out.done.2⟩
set_option maxRecDepth 100000 in
set_option maxHeartbeats 1600000 in
theorem look_90 (p:Pn) (n:Int) (h0:90≤n) (h1:n≤97) (_:0≤p.st∧p.st≤255) (hn:0≤n∧n≤9999) (w:World):Calls Tryz.prog 229 #[.agg (pnA p),.int .i64 n] w fun e w'=>e=.returned (.agg (pnA (lookP p n)))∧Below w.heap.size w w':=by
 have H0:=Lib.hid (Lk.new w p)
 obtain ⟨b,hb⟩:∃ b,b=w.heap.size:=⟨_,rfl⟩
 have HD:Hid (∀ w,Calls Tryz.prog 255 #[.int .i64 n,.int .i64 30,.int .i64 90] w fun e w'=>e=.returned (.tuple #[.int .u32 (n-81),.bool true])∧w'=w):=Lib.hid (fun w=>by
  have h:=color_any n 30 90 (by omega) (by omega) hn w
  have e:colB n 30 90=(n-81,true):=by unfold colB;rw [if_neg (by omega),if_pos (by omega)];congr 1;omega
  rw [e] at h
  exact h)
 have HE:Hid (∀ w,Calls Tryz.prog 255 #[.int .i64 n,.int .i64 40,.int .i64 100] w fun e w'=>e=.returned (.tuple #[.int .u32 (0),.bool false])∧w'=w):=Lib.hid (fun w=>by
  have h:=color_any n 40 100 (by omega) (by omega) hn w
  have e:colB n 40 100=(0,false):=by unfold colB;rw [if_neg (by omega),if_neg (by omega)]
  rw [e] at h
  exact h)
 have HX:=Lib.hid (show lookP p n=⟨n-81,p.bg,p.st,p.lk⟩ from by unfold lookP;rw [if_neg (by omega),if_neg (by omega),if_neg (by omega),if_neg (by omega),if_neg (by omega),if_pos (by omega)])
 have hz:¬ n=0:=by omega
 have hz1:10≤n:=by omega
 have hz2:¬ n=22:=by omega
 have hz3:22<n:=by omega
 have hz4:30≤n:=by omega
 have hz5:¬ n=39:=by omega
 have hz6:¬ n=49:=by omega
 unfold pnA at H0
 rw [← hb] at H0
 have ep:pnA p=#[.int .u32 p.fg,.int .u32 p.bg,.int .u8 p.st,.int .u16 p.lk]:=rfl
 rw [ep]
 clear ep
 go_enter Tryz.func229,Tryz.ntmps229
 go_upto_region 1 with fail
 rw [← hb]
 generalize ((w.alloc (.cells #[.int .u32 p.fg,.int .u32 p.bg,.int .u8 p.st,.int .u16 p.lk] 31)).alloc (.cells #[.int .u32 0,.int .u32 0,.int .u8 0,.int .u16 0] 31))=w1 at H0 ⊢
 clear hb
 obtain ⟨p0,p1,p2,p3⟩:=H0.out.cs
 have H1:=Lib.hid H0.out
 clear H0 p0 p1 p2 p3
 go_upto_region 13 with fail
 obtain ⟨p0,p1,p2,p3⟩:=H1.out.cs
 go_wp2_with fail
 refine (HD.out w1).mono ?_
 rintro e w9 ⟨rfl,hw9⟩
 obtain rfl:=hw9.symm
 clear hw9
 have f0:=H1.out.fr 0
 have H2:=Lib.hid (show Lk w b (⟨n-81,p.bg,p.st,p.lk⟩:Pn) (w1.setCell ⟨b,0,none⟩ (.int .u32 (n-81))) from H1.out.set 0 _ rfl)
 go_upto_region 16 with fail
 generalize w1.setCell ⟨b,0,none⟩ (.int .u32 (n-81))=w2 at H2 ⊢
 clear p0 p1 p2 p3 f0
 obtain ⟨p0,p1,p2,p3⟩:=H2.out.cs
 go_wp2_with fail
 refine (HE.out w2).mono ?_
 rintro e w9 ⟨rfl,hw9⟩
 obtain rfl:=hw9.symm
 clear hw9
 clear p0 p1 p2 p3
 go_wp2_with (first
  | (refine wpList_load_row rfl 31 (.tmp 2) rfl b rfl 31 (pnA (⟨n-81,p.bg,p.st,p.lk⟩:Pn)) (0,0) _ H2.out.bx Tryz.underlying31 rfl pen_size ?_)
  | (refine wpList_store_row rfl 31 (.tmp 4) (.tmp 69) rfl (b+1) (pnA (⟨n-81,p.bg,p.st,p.lk⟩:Pn)) rfl rfl 31 _ H2.out.z pen_size rfl (pen_one _) ?_))
 exact bodyPost_ret (results_cell_row Tryz.results229 _ _ (b+1) 31 _ (0,0) _ rfl H2.out.done.1 Tryz.underlying31 rfl pen_size) rfl ⟨by rw [HX.out],H2.out.done.2⟩
set_option maxRecDepth 100000 in
set_option maxHeartbeats 1600000 in
theorem look_100 (p:Pn) (n:Int) (h0:100≤n) (h1:n≤107) (_:0≤p.st∧p.st≤255) (hn:0≤n∧n≤9999) (w:World):Calls Tryz.prog 229 #[.agg (pnA p),.int .i64 n] w fun e w'=>e=.returned (.agg (pnA (lookP p n)))∧Below w.heap.size w w':=by
 have H0:=Lib.hid (Lk.new w p)
 obtain ⟨b,hb⟩:∃ b,b=w.heap.size:=⟨_,rfl⟩
 have HD:Hid (∀ w,Calls Tryz.prog 255 #[.int .i64 n,.int .i64 30,.int .i64 90] w fun e w'=>e=.returned (.tuple #[.int .u32 (0),.bool false])∧w'=w):=Lib.hid (fun w=>by
  have h:=color_any n 30 90 (by omega) (by omega) hn w
  have e:colB n 30 90=(0,false):=by unfold colB;rw [if_neg (by omega),if_neg (by omega)]
  rw [e] at h
  exact h)
 have HE:Hid (∀ w,Calls Tryz.prog 255 #[.int .i64 n,.int .i64 40,.int .i64 100] w fun e w'=>e=.returned (.tuple #[.int .u32 (n-91),.bool true])∧w'=w):=Lib.hid (fun w=>by
  have h:=color_any n 40 100 (by omega) (by omega) hn w
  have e:colB n 40 100=(n-91,true):=by unfold colB;rw [if_neg (by omega),if_pos (by omega)];congr 1;omega
  rw [e] at h
  exact h)
 have HX:=Lib.hid (show lookP p n=⟨p.fg,n-91,p.st,p.lk⟩ from by unfold lookP;rw [if_neg (by omega),if_neg (by omega),if_neg (by omega),if_neg (by omega),if_neg (by omega),if_neg (by omega),if_pos (by omega)])
 have hz:¬ n=0:=by omega
 have hz1:10≤n:=by omega
 have hz2:¬ n=22:=by omega
 have hz3:22<n:=by omega
 have hz4:30≤n:=by omega
 have hz5:¬ n=39:=by omega
 have hz6:¬ n=49:=by omega
 unfold pnA at H0
 rw [← hb] at H0
 have ep:pnA p=#[.int .u32 p.fg,.int .u32 p.bg,.int .u8 p.st,.int .u16 p.lk]:=rfl
 rw [ep]
 clear ep
 go_enter Tryz.func229,Tryz.ntmps229
 go_upto_region 1 with fail
 rw [← hb]
 generalize ((w.alloc (.cells #[.int .u32 p.fg,.int .u32 p.bg,.int .u8 p.st,.int .u16 p.lk] 31)).alloc (.cells #[.int .u32 0,.int .u32 0,.int .u8 0,.int .u16 0] 31))=w1 at H0 ⊢
 clear hb
 obtain ⟨p0,p1,p2,p3⟩:=H0.out.cs
 have H1:=Lib.hid H0.out
 clear H0 p0 p1 p2 p3
 go_upto_region 13 with fail
 obtain ⟨p0,p1,p2,p3⟩:=H1.out.cs
 go_wp2_with fail
 refine (HD.out w1).mono ?_
 rintro e w9 ⟨rfl,hw9⟩
 obtain rfl:=hw9.symm
 clear hw9
 go_wp2_with fail
 refine (HE.out w1).mono ?_
 rintro e w9 ⟨rfl,hw9⟩
 obtain rfl:=hw9.symm
 clear hw9
 have f1:=H1.out.fr 1
 have H2:=Lib.hid (show Lk w b (⟨p.fg,n-91,p.st,p.lk⟩:Pn) (w1.setCell ⟨b,1,none⟩ (.int .u32 (n-91))) from H1.out.set 1 _ rfl)
 go_upto_region 19 with fail
 generalize w1.setCell ⟨b,1,none⟩ (.int .u32 (n-91))=w2 at H2 ⊢
 clear p0 p1 p2 p3 f1
 go_wp2_with (first
  | (refine wpList_load_row rfl 31 (.tmp 2) rfl b rfl 31 (pnA (⟨p.fg,n-91,p.st,p.lk⟩:Pn)) (0,0) _ H2.out.bx Tryz.underlying31 rfl pen_size ?_)
  | (refine wpList_store_row rfl 31 (.tmp 4) (.tmp 69) rfl (b+1) (pnA (⟨p.fg,n-91,p.st,p.lk⟩:Pn)) rfl rfl 31 _ H2.out.z pen_size rfl (pen_one _) ?_))
 exact bodyPost_ret (results_cell_row Tryz.results229 _ _ (b+1) 31 _ (0,0) _ rfl H2.out.done.1 Tryz.underlying31 rfl pen_size) rfl ⟨by rw [HX.out],H2.out.done.2⟩
theorem attr_none {st n:Int} (h:(10≤n∧n≤21)∨30≤n):attrS st n=st:=by
 have e:∀ m:Int,10≤m→bitsS.idxOf? m=none:=fun m hm=>by
  rw [List.idxOf?_eq_none_iff]
  intro hk
  simp [bitsS] at hk
  omega
 unfold attrS
 rw [if_neg (by omega),e n (by omega)]
 dsimp only
 by_cases h2:22<n
 · rw [if_pos h2,e (n-20) (by omega)]
 · rw [if_neg h2]
set_option maxRecDepth 100000 in
set_option maxHeartbeats 1600000 in
theorem look_10 (p:Pn) (n:Int) (h0:10≤n) (h1:n≤21) (_:0≤p.st∧p.st≤255) (hn:0≤n∧n≤9999) (w:World):Calls Tryz.prog 229 #[.agg (pnA p),.int .i64 n] w fun e w'=>e=.returned (.agg (pnA (lookP p n)))∧Below w.heap.size w w':=by
 have H0:=Lib.hid (Lk.new w p)
 obtain ⟨b,hb⟩:∃ b,b=w.heap.size:=⟨_,rfl⟩
 have HD:Hid (∀ w,Calls Tryz.prog 255 #[.int .i64 n,.int .i64 30,.int .i64 90] w fun e w'=>e=.returned (.tuple #[.int .u32 (0),.bool false])∧w'=w):=Lib.hid (fun w=>by
  have h:=color_any n 30 90 (by omega) (by omega) hn w
  have e:colB n 30 90=(0,false):=by unfold colB;rw [if_neg (by omega),if_neg (by omega)]
  rw [e] at h
  exact h)
 have HE:Hid (∀ w,Calls Tryz.prog 255 #[.int .i64 n,.int .i64 40,.int .i64 100] w fun e w'=>e=.returned (.tuple #[.int .u32 (0),.bool false])∧w'=w):=Lib.hid (fun w=>by
  have h:=color_any n 40 100 (by omega) (by omega) hn w
  have e:colB n 40 100=(0,false):=by unfold colB;rw [if_neg (by omega),if_neg (by omega)]
  rw [e] at h
  exact h)
 have HX:=Lib.hid (show lookP p n=⟨p.fg,p.bg,p.st,p.lk⟩ from by unfold lookP;rw [if_neg (by omega),if_neg (by omega),if_neg (by omega),if_neg (by omega),if_neg (by omega),if_neg (by omega),if_neg (by omega),attr_none (by omega)])
 have hz:¬ n=0:=by omega
 have hz1:10≤n:=by omega
 have hz2:¬ n=22:=by omega
 have hz3:n≤22:=by omega
 have hz5:¬ n=39:=by omega
 have hz6:¬ n=49:=by omega
 unfold pnA at H0
 rw [← hb] at H0
 have ep:pnA p=#[.int .u32 p.fg,.int .u32 p.bg,.int .u8 p.st,.int .u16 p.lk]:=rfl
 rw [ep]
 clear ep
 go_enter Tryz.func229,Tryz.ntmps229
 go_upto_region 1 with fail
 rw [← hb]
 generalize ((w.alloc (.cells #[.int .u32 p.fg,.int .u32 p.bg,.int .u8 p.st,.int .u16 p.lk] 31)).alloc (.cells #[.int .u32 0,.int .u32 0,.int .u8 0,.int .u16 0] 31))=w1 at H0 ⊢
 clear hb
 obtain ⟨p0,p1,p2,p3⟩:=H0.out.cs
 have H1:=Lib.hid H0.out
 clear H0 p0 p1 p2 p3
 go_upto_region 13 with fail
 obtain ⟨p0,p1,p2,p3⟩:=H1.out.cs
 go_wp2_with fail
 refine (HD.out w1).mono ?_
 rintro e w9 ⟨rfl,hw9⟩
 obtain rfl:=hw9.symm
 clear hw9
 go_wp2_with fail
 refine (HE.out w1).mono ?_
 rintro e w9 ⟨rfl,hw9⟩
 obtain rfl:=hw9.symm
 clear hw9
 clear p0 p1 p2 p3
 go_wp2_with (first
  | (refine wpList_load_row rfl 31 (.tmp 2) rfl b rfl 31 (pnA (⟨p.fg,p.bg,p.st,p.lk⟩:Pn)) (0,0) _ H1.out.bx Tryz.underlying31 rfl pen_size ?_)
  | (refine wpList_store_row rfl 31 (.tmp 4) (.tmp 69) rfl (b+1) (pnA (⟨p.fg,p.bg,p.st,p.lk⟩:Pn)) rfl rfl 31 _ H1.out.z pen_size rfl (pen_one _) ?_))
 exact bodyPost_ret (results_cell_row Tryz.results229 _ _ (b+1) 31 _ (0,0) _ rfl H1.out.done.1 Tryz.underlying31 rfl pen_size) rfl ⟨by rw [HX.out],H1.out.done.2⟩
set_option maxRecDepth 100000 in
set_option maxHeartbeats 1600000 in
theorem look_rest (p:Pn) (n:Int) (h0:30≤n) (h1:¬ (30≤n∧n≤37)) (h2:n≠39) (h3:¬ (40≤n∧n≤47)) (h4:n≠49) (h5:¬ (90≤n∧n≤97)) (h6:¬ (100≤n∧n≤107)) (_:0≤p.st∧p.st≤255) (hn:0≤n∧n≤9999) (w:World):Calls Tryz.prog 229 #[.agg (pnA p),.int .i64 n] w fun e w'=>e=.returned (.agg (pnA (lookP p n)))∧Below w.heap.size w w':=by
 have H0:=Lib.hid (Lk.new w p)
 obtain ⟨b,hb⟩:∃ b,b=w.heap.size:=⟨_,rfl⟩
 have HD:Hid (∀ w,Calls Tryz.prog 255 #[.int .i64 n,.int .i64 30,.int .i64 90] w fun e w'=>e=.returned (.tuple #[.int .u32 (0),.bool false])∧w'=w):=Lib.hid (fun w=>by
  have h:=color_any n 30 90 (by omega) (by omega) hn w
  have e:colB n 30 90=(0,false):=by unfold colB;rw [if_neg (by omega),if_neg (by omega)]
  rw [e] at h
  exact h)
 have HE:Hid (∀ w,Calls Tryz.prog 255 #[.int .i64 n,.int .i64 40,.int .i64 100] w fun e w'=>e=.returned (.tuple #[.int .u32 (0),.bool false])∧w'=w):=Lib.hid (fun w=>by
  have h:=color_any n 40 100 (by omega) (by omega) hn w
  have e:colB n 40 100=(0,false):=by unfold colB;rw [if_neg (by omega),if_neg (by omega)]
  rw [e] at h
  exact h)
 have HX:=Lib.hid (show lookP p n=⟨p.fg,p.bg,p.st,p.lk⟩ from by unfold lookP;rw [if_neg (by omega),if_neg (by omega),if_neg (by omega),if_neg (by omega),if_neg (by omega),if_neg (by omega),if_neg (by omega),attr_none (by omega)])
 have hz:¬ n=0:=by omega
 have hz1:10≤n:=by omega
 have hz2:¬ n=22:=by omega
 have hz3:22<n:=by omega
 have hz4:30≤n:=by omega
 have hz5:¬ n=39:=by omega
 have hz6:¬ n=49:=by omega
 clear h1 h3 h5 h6
 unfold pnA at H0
 rw [← hb] at H0
 have ep:pnA p=#[.int .u32 p.fg,.int .u32 p.bg,.int .u8 p.st,.int .u16 p.lk]:=rfl
 rw [ep]
 clear ep
 go_enter Tryz.func229,Tryz.ntmps229
 go_upto_region 1 with fail
 rw [← hb]
 generalize ((w.alloc (.cells #[.int .u32 p.fg,.int .u32 p.bg,.int .u8 p.st,.int .u16 p.lk] 31)).alloc (.cells #[.int .u32 0,.int .u32 0,.int .u8 0,.int .u16 0] 31))=w1 at H0 ⊢
 clear hb
 obtain ⟨p0,p1,p2,p3⟩:=H0.out.cs
 have H1:=Lib.hid H0.out
 clear H0 p0 p1 p2 p3
 go_upto_region 13 with fail
 obtain ⟨p0,p1,p2,p3⟩:=H1.out.cs
 go_wp2_with fail
 refine (HD.out w1).mono ?_
 rintro e w9 ⟨rfl,hw9⟩
 obtain rfl:=hw9.symm
 clear hw9
 go_wp2_with fail
 refine (HE.out w1).mono ?_
 rintro e w9 ⟨rfl,hw9⟩
 obtain rfl:=hw9.symm
 clear hw9
 clear p0 p1 p2 p3
 go_wp2_with (first
  | (refine wpList_load_row rfl 31 (.tmp 2) rfl b rfl 31 (pnA (⟨p.fg,p.bg,p.st,p.lk⟩:Pn)) (0,0) _ H1.out.bx Tryz.underlying31 rfl pen_size ?_)
  | (refine wpList_store_row rfl 31 (.tmp 4) (.tmp 69) rfl (b+1) (pnA (⟨p.fg,p.bg,p.st,p.lk⟩:Pn)) rfl rfl 31 _ H1.out.z pen_size rfl (pen_one _) ?_))
 exact bodyPost_ret (results_cell_row Tryz.results229 _ _ (b+1) 31 _ (0,0) _ rfl H1.out.done.1 Tryz.underlying31 rfl pen_size) rfl ⟨by rw [HX.out],H1.out.done.2⟩
set_option maxRecDepth 100000 in
set_option maxHeartbeats 1600000 in
theorem look_0 (p:Pn) (n:Int) (h0:n=0) (_:0≤p.st∧p.st≤255) (hn:0≤n∧n≤9999) (w:World):Calls Tryz.prog 229 #[.agg (pnA p),.int .i64 n] w fun e w'=>e=.returned (.agg (pnA (lookP p n)))∧Below w.heap.size w w':=by
 have H0:=Lib.hid (Lk.new w p)
 obtain ⟨b,hb⟩:∃ b,b=w.heap.size:=⟨_,rfl⟩
 have HD:Hid (∀ w,Calls Tryz.prog 255 #[.int .i64 n,.int .i64 30,.int .i64 90] w fun e w'=>e=.returned (.tuple #[.int .u32 (0),.bool false])∧w'=w):=Lib.hid (fun w=>by
  have h:=color_any n 30 90 (by omega) (by omega) hn w
  have e:colB n 30 90=(0,false):=by unfold colB;rw [if_neg (by omega),if_neg (by omega)]
  rw [e] at h
  exact h)
 have HE:Hid (∀ w,Calls Tryz.prog 255 #[.int .i64 n,.int .i64 40,.int .i64 100] w fun e w'=>e=.returned (.tuple #[.int .u32 (0),.bool false])∧w'=w):=Lib.hid (fun w=>by
  have h:=color_any n 40 100 (by omega) (by omega) hn w
  have e:colB n 40 100=(0,false):=by unfold colB;rw [if_neg (by omega),if_neg (by omega)]
  rw [e] at h
  exact h)
 have HX:=Lib.hid (show lookP p n=⟨0,0,0,p.lk⟩ from by rw [h0];rfl)
 subst h0
 unfold pnA at H0
 rw [← hb] at H0
 have ep:pnA p=#[.int .u32 p.fg,.int .u32 p.bg,.int .u8 p.st,.int .u16 p.lk]:=rfl
 rw [ep]
 clear ep
 go_enter Tryz.func229,Tryz.ntmps229
 go_upto_region 1 with fail
 rw [← hb]
 generalize ((w.alloc (.cells #[.int .u32 p.fg,.int .u32 p.bg,.int .u8 p.st,.int .u16 p.lk] 31)).alloc (.cells #[.int .u32 0,.int .u32 0,.int .u8 0,.int .u16 0] 31))=w1 at H0 ⊢
 clear hb
 obtain ⟨p0,p1,p2,p3⟩:=H0.out.cs
 go_wp2_with (first
  | (refine wpList_load_row rfl 31 (.tmp 2) rfl b rfl 31 (pnA (⟨0,0,0,p.lk⟩:Pn)) (0,0) _ H0.out.bx Tryz.underlying31 rfl pen_size ?_)
  | (refine wpList_store_row rfl 31 (.tmp 4) (.tmp 14) rfl (b+1) (pnA (⟨0,0,0,p.lk⟩:Pn)) rfl rfl 31 _ H0.out.z pen_size rfl (pen_one _) ?_))
 exact bodyPost_ret (results_cell_row Tryz.results229 _ _ (b+1) 31 _ (0,0) _ rfl H0.out.done.1 Tryz.underlying31 rfl pen_size) rfl ⟨by rw [HX.out],H0.out.done.2⟩
theorem looking_any (p:Pn) (n:Int) (hst:0≤p.st∧p.st≤255) (hn:0≤n∧n≤9999) (w:World):Calls Tryz.prog 229 #[.agg (pnA p),.int .i64 n] w fun e w'=>e=.returned (.agg (pnA (lookP p n)))∧Below w.heap.size w w':=by
 by_cases h1:n=0
 · exact look_0 p n h1 hst hn w
 by_cases h2:n<10
 · exact look_low p n (by omega) h2 hst hn w
 by_cases h3:n≤21
 · exact look_10 p n (by omega) h3 hst hn w
 by_cases h4:n=22
 · exact look_22 p n h4 hst hn w
 by_cases h5:n<30
 · exact look_off p n (by omega) h5 hst hn w
 by_cases h6:n≤37
 · exact look_30 p n (by omega) h6 hst hn w
 by_cases h7:n=39
 · exact look_39 p n h7 hst hn w
 by_cases h8:40≤n∧n≤47
 · exact look_40 p n h8.1 h8.2 hst hn w
 by_cases h9:n=49
 · exact look_49 p n h9 hst hn w
 by_cases h10:90≤n∧n≤97
 · exact look_90 p n h10.1 h10.2 hst hn w
 by_cases h11:100≤n∧n≤107
 · exact look_100 p n h11.1 h11.2 hst hn w
 exact look_rest p n (by omega) (by omega) h7 h8 h9 h10 h11 hst hn w
end Go.Proofs.YtlcipgdnpilkfaaGreatDoor
